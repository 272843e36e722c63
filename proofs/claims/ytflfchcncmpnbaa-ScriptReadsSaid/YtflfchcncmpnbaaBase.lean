/- Bytes in memory, at this program's types: slices of a call's own, appends, strings, and small laws of worlds. -/
import Derived.Test.YtflfchcncmpnbaaWor
namespace Go.Proofs.Ytflfchcncmpnbaa
open Go.RowKit

abbrev Bs := List (BitVec 8)

theorem byte_info : ∃ i, Try.prog.info? 5 = some i ∧ i.zero = some (.int .u8 0) ∧ i.size = 1 ∧ i.bytes = 1 := info_parts (by kernel_rfl)

/-- a slice of the call's own: where it lies, and what it is -/
structure Own (base : Nat) (w : World) (a : Option Addr) (n c : Nat) (l : Bs) : Prop where
  row : w.ownsRow base 5 1 (.slice a n c) n (l.map by8)
  cap : n ≤ c

theorem Own.bytes {base n c : Nat} {w : World} {a : Option Addr} {l : Bs} (h : Own base w a n c l) : Bytes w w.heap.size a n l := Bytes.of_own h.row

theorem Own.len {base n c : Nat} {w : World} {a : Option Addr} {l : Bs} (h : Own base w a n c l) : l.length = n := by simpa using h.row.1

theorem Own.of_row {base n : Nat} {w : World} {v : Value} {l : Bs} (h : w.ownsRow base 5 1 v n (l.map by8)) : ∃ a c, v = .slice a n c ∧ Own base w a n c l := by
  rcases h.2 with ⟨rfl, rfl⟩ | ⟨g, cap, cur, rfl, h2, h3, h4, h5⟩
  · exact ⟨none, 0, rfl, h, Nat.le_refl _⟩
  · exact ⟨_, cap, rfl, h, h4⟩

theorem Own.form {base n c : Nat} {w : World} {a : Option Addr} {l : Bs} (h : Own base w a n c l) (hn : 0 < n) : ∃ g, a = some ⟨g, 0, none⟩ ∧ base ≤ g ∧ g < w.heap.size := by
  obtain ⟨g, cap, hv, h1, h2⟩ := h.row.form hn
  injection hv with hv
  exact ⟨g, hv, h1, h2⟩

theorem Own.mono {base base' n c : Nat} {w : World} {a : Option Addr} {l : Bs} (h : Own base w a n c l) (hb : base' ≤ base) : Own base' w a n c l := by
  refine ⟨⟨h.row.1, ?_⟩, h.cap⟩
  rcases h.row.2 with h1 | ⟨g, cap, cur, h1, h2, h3⟩
  · exact .inl h1
  · exact .inr ⟨g, cap, cur, h1, Nat.le_trans hb h2, h3⟩

theorem own_below {base e n : Nat} {v : Value} {xs : List Value} {w w' : World} (h : w.ownsRow base e 1 v n xs) (hb : Below w.heap.size w w') : w'.ownsRow base e 1 v n xs := by
  refine ⟨h.1, ?_⟩
  rcases h.2 with h1 | ⟨g, cap, cur, h1, h2, h3, h4⟩
  · exact .inl h1
  · refine .inr ⟨g, cap, cur, h1, h2, ?_, h4⟩
    have hlt : g < w.heap.size := by
      rcases Nat.lt_or_ge g w.heap.size with h' | h'
      · exact h'
      · rw [Array.getElem?_eq_none h'] at h3; cases h3
    exact (hb.block g hlt).trans h3

theorem Own.below {base n c : Nat} {w w' : World} {a : Option Addr} {l : Bs} (h : Own base w a n c l) (hb : Below w.heap.size w w') : Own base w' a n c l := ⟨own_below h.row hb, h.cap⟩

/-- an append of bytes onto an own row, in the walk -/
theorem wpList_put {w : World} {ops : Array Oper} {rest : List Oper} {o : Oper} {a : Act} {Q : Exit → Act → World → Prop} (hgd : o.guard = none) (s x : Operand)
    (ho : o.op = .call { callee := .builtin .append, args := #[s, x], argTypes := #[32, 32] })
    (base : Nat) (A1 : Option Addr) (n c1 : Nat) (k : Bs) (hs : a.eval s = .slice A1 n c1) (hown : Own base w A1 n c1 k)
    (B : Nat) (A : Option Addr) (m c : Nat) (l : Bs) (hx : a.eval x = .slice A m c) (hr : Bytes w B A m l)
    (hroom : n + m ≤ 140737488355328) (hbase : base ≤ w.heap.size)
    (h : ∀ A2 c2 w', Own base w' A2 (n + m) c2 (k ++ l) → Below base w w' → wpList Try.prog ops Q rest (a.put o.dst (.slice A2 (n + m) c2)) w') :
    wpList Try.prog ops Q (o :: rest) a w := by
  obtain ⟨i0, hi0, hi1, hi2, hi3⟩ := byte_info
  refine wpList_app hgd s x 32 ho base 5 i0 _ Try.underlying32 hi0 hi1 hi2 hi3 rfl _ n k hs hown.row B A m c l hx hr hroom hbase ?_
  intro v' w' h1 h2 h3
  obtain ⟨A2, c2, rfl, h4⟩ := Own.of_row h1
  exact h A2 c2 w' h4 ((Below.refl _ _).grown h2 hbase (fun g hg => (hown.row.lt g hg).1))

theorem own_new (w : World) (base : Nat) (hb : base ≤ w.heap.size) : Own base (w.alloc (.cells #[] 5)) (some ⟨w.heap.size, 0, none⟩) 0 0 [] :=
  ⟨own_empty w 5 base hb, Nat.le_refl _⟩

/-- two bytes that were just laid -/
theorem two_new (w : World) (x y : BitVec 8) (v0 v1 : Int) (h0 : v0 = x.toNat) (h1 : v1 = y.toNat) :
    Bytes (w.alloc (.cells #[.int .u8 v0, .int .u8 v1] 5)) (w.heap.size + 1) (some ⟨w.heap.size, 0, none⟩) 2 [x, y] := by
  subst h0 h1
  refine ⟨rfl, fun _ => ⟨_, 0, rfl, by omega, fun i hi => ?_⟩⟩
  rw [cell_of_row _ _ _ _ _ _ (heap_alloc_new _ _)]
  have : i = 0 ∨ i = 1 := by omega
  rcases this with rfl | rfl <;> rfl

theorem one_new (w : World) (x : BitVec 8) : Bytes (w.alloc (.cells #[.int .u8 x.toNat] 5)) (w.heap.size + 1) (some ⟨w.heap.size, 0, none⟩) 1 [x] := by
  refine ⟨rfl, fun _ => ⟨_, 0, rfl, by omega, fun i hi => ?_⟩⟩
  rw [cell_of_row _ _ _ _ _ _ (heap_alloc_new _ _)]
  obtain rfl : i = 0 := by omega
  rfl

def zb (r : Nat) : Array Value := ((List.replicate r 0#8).map by8).toArray

theorem make_room (W : World) (l : Int) (r : Nat) (hl : l = r) (hr : r ≤ 1099511627776) :
    (Instr.makeSlice 32 (.int .i64 0) (.int .i64 l)).run Try.prog W = .ok (.slice (some ⟨W.heap.size, 0, none⟩) 0 r) (W.alloc (.cells (zb r) 5)) := by
  obtain ⟨i0, hi0, hi1, hi2, hi3⟩ := byte_info
  subst hl
  have h := run_make (P := Try.prog) W 32 5 i0 _ Try.underlying32 hi0 hi1 .i64 .i64 0 (r : Int) (by omega) (by omega) (by rw [hi3]; omega) (by omega)
  rw [h, Int.toNat_natCast, hi2, Nat.mul_one]
  have e : (madeCells (Value.int IntKind.u8 0).cells r) = zb r := by
    apply Array.toList_inj.1
    rw [show (Value.int IntKind.u8 0).cells = #[Value.int IntKind.u8 0] from rfl, toList_madeCells_one]
    simp [zb, by8]
  rw [e]
  rfl

theorem made_new (w : World) (base : Nat) (hb : base ≤ w.heap.size) (r : Nat) (hc : r ≤ 1000000000) : Own base (w.alloc (.cells (zb r) 5)) (some ⟨w.heap.size, 0, none⟩) 0 r [] :=
  ⟨⟨rfl, .inr ⟨w.heap.size, r, zb r, rfl, hb, heap_alloc_new w _, Nat.zero_le _, by unfold maxLen; omega, by simp [zb], rfl⟩⟩, Nat.zero_le _⟩

theorem Bytes.cut2 {w : World} {B n cap j g o : Nat} {l : Bs} (h : Bytes w B (some ⟨g, o, none⟩) n l) (hj : j ≤ n) (hc : n ≤ cap) (hne : ¬ cap = j) : Bytes w B (some ⟨g, o + j, none⟩) (n - j) (l.drop j) := by
  have := h.cut (cap := cap) hj hc
  unfold cutA at this
  rw [if_neg hne] at this
  simpa [add_none] using this

theorem Bytes.drewN {w : World} {B n : Nat} {a : Option Addr} {l : Bs} (h : Bytes w B a n l) (k : Nat) : Bytes (w.drewN k) B a n l := h.keep fun _ _ => rfl

/-- three bytes that were just laid -/
theorem three_new (w : World) (x y z : BitVec 8) (v0 v1 v2 : Int) (h0 : v0 = x.toNat) (h1 : v1 = y.toNat) (h2 : v2 = z.toNat) (base : Nat) (hb : base ≤ w.heap.size) :
    Own base (w.alloc (.cells #[.int .u8 v0, .int .u8 v1, .int .u8 v2] 5)) (some ⟨w.heap.size, 0, none⟩) 3 3 [x, y, z] := by
  subst h0 h1 h2
  exact ⟨⟨rfl, .inr ⟨w.heap.size, 3, _, rfl, hb, heap_alloc_new w _, Nat.le_refl _, by unfold maxLen; omega, rfl, rfl⟩⟩, Nat.le_refl _⟩

/-- bytes as a string -/
def str (l : Bs) : ByteArray := ⟨(l.map fun c => (⟨c⟩ : UInt8)).toArray⟩

theorem conv_str {w : World} {B n cap : Nat} {a : Option Addr} {l : Bs} (h : Bytes w B a n l) : (convert 32 9 (.slice a n cap)).run Try.prog w = .ok (.string (str l)) w := by
  rcases a with _ | ad
  · have hn : n = 0 := by
      rcases Nat.eq_zero_or_pos n with h0 | h0
      · exact h0
      · obtain ⟨_, _, h', _⟩ := h.2 h0
        cases h'
    subst hn
    have hl : l = [] := List.eq_nil_of_length_eq_zero h.1
    subst hl
    rw [run_convert_bytes_string w 32 9 5 none 0 cap Try.underlying32 Try.underlying5 Try.underlying9]
    rfl
  · have hl := h.1
    subst hl
    have := run_convert_bytes_back (P := Try.prog) w 32 9 5 ad cap (l.map fun c => (⟨c⟩ : UInt8)) Try.underlying32 Try.underlying5 Try.underlying9 (by
      intro j hj
      rw [List.length_map] at hj
      obtain ⟨b, off, e, _, hc⟩ := h.2 (by omega)
      injection e with e
      subst e
      rw [add_none, hc j hj]
      simp [List.getElem?_eq_getElem hj])
    rw [List.length_map] at this
    exact this

theorem str_inj {l m : Bs} (h : str l = str m) : l = m := by
  unfold str at h
  injection h with h
  have h2 := congrArg Array.toList h
  simp only at h2
  exact (List.map_inj_right (fun x y e => by injection e)).1 h2

theorem str_ne {l m : Bs} (h : l ≠ m) : ((str l).toList == (str m).toList) = false := by
  simp only [beq_eq_false_iff_ne]
  intro e
  rw [ByteArray.toList_eq, ByteArray.toList_eq] at e
  apply h
  unfold str at e
  simp only at e
  exact (List.map_inj_right (fun x y e => by injection e)).1 e

theorem own_bytes {base n c : Nat} {w : World} {a : Option Addr} {l : Bs} (h : Own base w a n c l) (g : Nat) (ha : a = some ⟨g, 0, none⟩) (i : Nat) (hi : i < n) : w.cell? ⟨g, i, none⟩ = some (.int .u8 (l[i]?.getD 0#8).toNat) := by
  subst ha
  exact own_cell h.row i (by rw [h.len]; exact hi)

theorem own_new_at (w : World) (base g : Nat) (hg : w.heap.size = g) (hb : base ≤ g) : Own base (w.alloc (.cells #[] 5)) (some ⟨g, 0, none⟩) 0 0 [] := by
  subst hg
  exact own_new w base hb

theorem own_turn {base n c g : Nat} {w : World} {l : Bs} (h : Own base w (some ⟨g, 0, none⟩) n c l) (p : Nat) (x : BitVec 8) :
    Own base (w.setCell ⟨g, p, none⟩ (.int .u8 x.toNat)) (some ⟨g, 0, none⟩) n c (l.set p x) := by
  have hs := h.row.stored p (by8 x)
  refine ⟨?_, h.cap⟩
  rw [List.map_set]
  exact hs.1

theorem str_app (l m : Bs) : str (l ++ m) = str l ++ str m := by
  unfold str
  rw [ByteArray.mk_append_mk, List.map_append]

/-- an append of bytes onto an own row, as a step of a region that draws -/
theorem step_put {ops : Array Oper} {o : Oper} {a : Act} {w : World} {K : Act → World → Prop} {Q : Exit → Act → World → Prop} {E : Prop} (hgd : o.guard = none) (s x : Operand)
    (ho : o.op = .call { callee := .builtin .append, args := #[s, x], argTypes := #[32, 32] })
    (base : Nat) (A1 : Option Addr) (n c1 : Nat) (k : Bs) (hs : a.eval s = .slice A1 n c1) (hown : Own base w A1 n c1 k)
    (B : Nat) (A : Option Addr) (m c : Nat) (l : Bs) (hx : a.eval x = .slice A m c) (hr : Bytes w B A m l)
    (hroom : n + m ≤ 140737488355328) (hbase : base ≤ w.heap.size)
    (h : ∀ A2 c2 w', Own base w' A2 (n + m) c2 (k ++ l) → Below base w w' → K (a.put o.dst (.slice A2 (n + m) c2)) w') :
    if Region.wanted o (yielded ops a.tmps) = true then Oper.wp Try.prog o a w K Q else E := by
  have hw : Region.wanted o (yielded ops a.tmps) = true := by simp [Region.wanted, hgd]
  rw [if_pos hw]
  obtain ⟨i0, hi0, hi1, hi2, hi3⟩ := byte_info
  obtain ⟨v', w', hrun, h1, h2, h3⟩ := run_app (P := Try.prog) (w := w) base 32 o.type 5 i0 _ Try.underlying32 hi0 hi1 hi2 hi3 rfl _ n k hown.row B A m c l hr hroom hbase
  obtain ⟨A2, c2, rfl, h4⟩ := Own.of_row h1
  unfold Oper.wp execOp
  simp only [ho, resolve, invoke, builtin, Sem.run_bind, Sem.run_pure, Result.andThen_ok, List.map_toArray, List.map_cons, List.map_nil, hs, hx, hrun]
  exact h A2 c2 w' h4 ((Below.refl _ _).grown h2 hbase (fun g hg => (hown.row.lt g hg).1))

theorem make_full (W : World) (l : Int) (r : Nat) (hl : l = r) (hr : r ≤ 1099511627776) :
    (Instr.makeSlice 32 (.int .i64 l) (.int .i64 l)).run Try.prog W = .ok (.slice (some ⟨W.heap.size, 0, none⟩) r r) (W.alloc (.cells (zb r) 5)) := by
  obtain ⟨i0, hi0, hi1, hi2, hi3⟩ := byte_info
  subst hl
  have h := run_make (P := Try.prog) W 32 5 i0 _ Try.underlying32 hi0 hi1 .i64 .i64 (r : Int) (r : Int) (by omega) (Int.le_refl _) (by rw [hi3]; omega) (by omega)
  rw [h, Int.toNat_natCast, hi2, Nat.mul_one]
  have e : (madeCells (Value.int IntKind.u8 0).cells r) = zb r := by
    apply Array.toList_inj.1
    rw [show (Value.int IntKind.u8 0).cells = #[Value.int IntKind.u8 0] from rfl, toList_madeCells_one]
    simp [zb, by8]
  rw [e]

theorem full_new (w : World) (base : Nat) (hb : base ≤ w.heap.size) (r : Nat) (hc : r ≤ 1000000000) : Own base (w.alloc (.cells (zb r) 5)) (some ⟨w.heap.size, 0, none⟩) r r (List.replicate r 0#8) :=
  ⟨⟨by simp, .inr ⟨w.heap.size, r, zb r, rfl, hb, heap_alloc_new w _, Nat.le_refl _, by unfold maxLen; omega, by simp [zb], by simp [zb]⟩⟩, Nat.le_refl _⟩

theorem full_drew (w : World) (r : Nat) (hc : r ≤ 1000000000) : Own w.heap.size (w.alloc (.cells (zb r) 5)).drew (some ⟨w.heap.size, 0, none⟩) r r (List.replicate r 0#8) :=
  ⟨(full_new w w.heap.size (Nat.le_refl _) r hc).row.drew, Nat.le_refl _⟩

theorem bytes_drew {w : World} {B n : Nat} {a : Option Addr} {l : Bs} (h : Bytes w B a n l) : Bytes w.drew B a n l := h.keep fun _ _ => rfl

theorem str_size (l : Bs) : (str l).size = l.length := by
  unfold str
  simp [ByteArray.size]

end Go.Proofs.Ytflfchcncmpnbaa
