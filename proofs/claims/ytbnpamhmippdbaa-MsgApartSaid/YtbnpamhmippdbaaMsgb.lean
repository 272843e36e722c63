/- Strings behind bytes; a struct that was laid; what the law's own Body answers. -/
import Derived.Test.YtbnpamhmippdbaaMsgp
namespace Go.Proofs.Ytbnpamhmippdbaa
open Go.RowKit
open Fr Ms

/-- a struct (or a row) that was laid -/
structure Bx (g : Nat) (w : World) (vs : Array Value) : Prop where
  head : ∃ t, w.heap[g]? = some (.cells vs t (0, 0))

theorem Bx.new (w : World) (g : Nat) (hg : w.heap.size = g) (vs : Array Value) (t : TypeId) : Bx g (w.alloc (.cells vs t)) vs := by
  subst hg
  exact ⟨t, heap_alloc_new w _⟩

theorem Bx.room {g : Nat} {w : World} {vs : Array Value} (h : Bx g w vs) : g + 1 ≤ w.heap.size := by
  obtain ⟨t, h⟩ := h.head
  rcases Nat.lt_or_ge g w.heap.size with h' | h'
  · exact h'
  · rw [Array.getElem?_eq_none h'] at h; cases h

theorem Bx.cell {g : Nat} {w : World} {vs : Array Value} (h : Bx g w vs) (i : Nat) (v : Value) (hv : vs[i]? = some v) : w.cell? ⟨g, i, none⟩ = some v := by
  obtain ⟨t, h⟩ := h.head
  rw [cell_of_row _ _ _ _ _ _ h]
  exact hv

theorem Bx.free {g : Nat} {w : World} {vs : Array Value} (h : Bx g w vs) (i : Nat) : w.frozen? ⟨g, i, none⟩ = false := by
  obtain ⟨t, h⟩ := h.head
  exact frozen_of_row w g i _ _ h

theorem Bx.go {g B : Nat} {w w' : World} {vs : Array Value} (h : Bx g w vs) (hb : Below B w w') (hB : g + 1 ≤ B) : Bx g w' vs := by
  obtain ⟨t, h⟩ := h.head
  exact ⟨t, (hb.block g hB).trans h⟩

theorem Bx.set {g : Nat} {w : World} {vs : Array Value} (h : Bx g w vs) (i : Nat) (v : Value) : Bx g (w.setCell ⟨g, i, none⟩ v) (vs.setIfInBounds i v) := by
  obtain ⟨t, h⟩ := h.head
  exact ⟨t, heap_setCell_same w g i vs t v h⟩

theorem strCells_str (t : Bs) : Lib.strCells (str t) = t.map by8 := by
  unfold Lib.strCells str
  simp [by8]

/-- any string is bytes -/
def bs (s : ByteArray) : Bs := s.data.toList.map fun c => c.toBitVec

theorem str_bs (s : ByteArray) : str (bs s) = s := by
  unfold str bs
  rw [List.map_map]
  show (⟨(List.map id s.data.toList).toArray⟩ : ByteArray) = s
  simp

/-- an append of a string's bytes onto an own row, in the walk -/
theorem wpList_puts {w : World} {ops : Array Oper} {rest : List Oper} {o : Oper} {a : Act} {Q : Exit → Act → World → Prop} (hgd : o.guard = none) (s x : Operand)
    (ho : o.op = .call { callee := .builtin .append, args := #[s, x], argTypes := #[28, 9] })
    (base : Nat) (A1 : Option Addr) (n c1 : Nat) (k : Bs) (hs : a.eval s = .slice A1 n c1) (hown : Own base w A1 n c1 k)
    (l : Bs) (hx : a.eval x = .string (str l)) (hroom : n + l.length ≤ 1000000000) (hbase : base ≤ w.heap.size)
    (h : ∀ A2 c2 w', Own base w' A2 (n + l.length) c2 (k ++ l) → Below base w w' → wpList Try.prog ops Q rest (a.put o.dst (.slice A2 (n + l.length) c2)) w') :
    wpList Try.prog ops Q (o :: rest) a w := by
  obtain ⟨i0, hi0, hi1, hi2, hi3⟩ := byte_info
  have hsz := str_size l
  refine Lib.wpList_append_own_string w hgd s x 28 9 ho base 5 i0 Try.underlying28 Try.underlying9 hi0 hi1 hi2 hi3 _ n (k.map by8) hs hown.row (str l) hx (by unfold maxLen; omega) (by omega) hbase ?_
  intro v' w' h1 h2 h3
  rw [hsz, strCells_str, ← List.map_append] at h1
  obtain ⟨A2, c2, rfl, h4⟩ := Own.of_row h1
  exact h A2 c2 w' h4 ((Below.refl _ _).grown h2 hbase (fun g hg => (hown.row.lt g hg).1))

/-- an append of a string's bytes onto an own row, as a step of a region that draws -/
theorem step_puts {ops : Array Oper} {o : Oper} {a : Act} {w : World} {K : Act → World → Prop} {Q : Exit → Act → World → Prop} {E : Prop} (hgd : o.guard = none) (s x : Operand)
    (ho : o.op = .call { callee := .builtin .append, args := #[s, x], argTypes := #[28, 9] })
    (base : Nat) (A1 : Option Addr) (n c1 : Nat) (k : Bs) (hs : a.eval s = .slice A1 n c1) (hown : Own base w A1 n c1 k)
    (l : Bs) (hx : a.eval x = .string (str l)) (hroom : n + l.length ≤ 1000000000) (hbase : base ≤ w.heap.size)
    (h : ∀ A2 c2 w', Own base w' A2 (n + l.length) c2 (k ++ l) → Below base w w' → K (a.put o.dst (.slice A2 (n + l.length) c2)) w') :
    if Region.wanted o (yielded ops a.tmps) = true then Oper.wp Try.prog o a w K Q else E := by
  have hw : Region.wanted o (yielded ops a.tmps) = true := by simp [Region.wanted, hgd]
  rw [if_pos hw]
  obtain ⟨i0, hi0, hi1, hi2, hi3⟩ := byte_info
  have hsz := str_size l
  obtain ⟨v', w', hrun, h1, h2, _⟩ := Lib.run_append_own_string (P := Try.prog) w base 28 9 o.type 5 i0 Try.underlying28 Try.underlying9 hi0 hi1 hi2 hi3 _ n (k.map by8) hown.row (str l) (by unfold maxLen; omega) (by omega) hbase
  rw [hsz, strCells_str, ← List.map_append] at h1
  obtain ⟨A2, c2, rfl, h4⟩ := Own.of_row h1
  unfold Oper.wp execOp
  simp only [ho, resolve, invoke, builtin, Sem.run_bind, Sem.run_pure, Result.andThen_ok, List.map_toArray, List.map_cons, List.map_nil, hs, hx, hrun]
  exact h A2 c2 w' h4 ((Below.refl _ _).grown h2 hbase (fun g hg => (hown.row.lt g hg).1))

theorem own_set {base n c : Nat} {w : World} {a : Option Addr} {l : Bs} (h : Own base w a n c l) {p : Addr} (hp : p.block < base) (v : Value) : Own base (w.setCell p v) a n c l := by
  refine ⟨⟨h.row.1, ?_⟩, h.cap⟩
  rcases h.row.2 with h1 | ⟨g, cap, cur, h1, h2, h3, h4⟩
  · exact .inl h1
  · exact .inr ⟨g, cap, cur, h1, h2, by rw [Below.heap_setCell _ _ _ _ (by omega)]; exact h3, h4⟩

theorem own_drew {base n c : Nat} {w : World} {a : Option Addr} {l : Bs} (h : Own base w a n c l) : Own base w.drew a n c l := ⟨h.row.drew, h.cap⟩

theorem six_new (w : World) (v v0 v1 v2 v3 v4 v5 : Int) (h0 : v0 = (BitVec.ofInt 8 (v / 1099511627776)).toNat) (h1 : v1 = (BitVec.ofInt 8 (v / 4294967296)).toNat) (h2 : v2 = (BitVec.ofInt 8 (v / 16777216)).toNat)
    (h3 : v3 = (BitVec.ofInt 8 (v / 65536)).toNat) (h4 : v4 = (BitVec.ofInt 8 (v / 256)).toNat) (h5 : v5 = (BitVec.ofInt 8 v).toNat) :
    Bytes (w.alloc (.cells #[.int .u8 v0, .int .u8 v1, .int .u8 v2, .int .u8 v3, .int .u8 v4, .int .u8 v5] 5)) (w.heap.size + 1) (some ⟨w.heap.size, 0, none⟩) 6 (six v) := by
  subst h0 h1 h2 h3 h4 h5
  refine ⟨rfl, fun _ => ⟨_, 0, rfl, by omega, fun i hi => ?_⟩⟩
  rw [cell_of_row _ _ _ _ _ _ (heap_alloc_new _ _)]
  rcases (show i = 0 ∨ i = 1 ∨ i = 2 ∨ i = 3 ∨ i = 4 ∨ i = 5 by omega) with rfl | rfl | rfl | rfl | rfl | rfl <;> rfl

theorem byte_lo {v : Int} (n : Int) (h : v = n % 256) : v = (BitVec.ofInt 8 n).toNat := h.trans (byte_int n)

theorem body_any (k a b : Int) (t : Bs) (w : World) (hr : rt k a b t.length = true) :
    Calls Try.prog 14 #[.agg #[.int .i64 k, .int .i64 a, .int .i64 b, .string (str t)]] w fun e w' => ∃ A c, e = .returned (.slice A (6 * nu k + t.length) c) ∧ Own w.heap.size w' A (6 * nu k + t.length) c (body k a b t) ∧ Below w.heap.size w w' := by
  obtain ⟨a0, a1⟩ := rt_a hr
  obtain ⟨b0, b1⟩ := rt_b hr
  have hk := (rt_iff.1 hr).1
  have hn := nu_cases k
  have ht : t.length ≤ 2042 := Nat.le_trans (rt_n hr) (tx_le k)
  have HBD := Lib.hid (show body k a b t = (six a ++ six b).take (6 * nu k) ++ t from rfl)
  clear hr
  go_enter Try.func14, Try.ntmps14
  go_wp2_with fail
  have hx := Bx.new w w.heap.size rfl #[.int .i64 k, .int .i64 a, .int .i64 b, .string (str t)] 24
  have hbx : Below w.heap.size w (w.alloc (.cells #[.int .i64 k, .int .i64 a, .int .i64 b, .string (str t)] 24)) := (Below.refl _ _).alloc (Nat.le_refl _) _
  generalize w.alloc (.cells #[.int .i64 k, .int .i64 a, .int .i64 b, .string (str t)] 24) = W at *
  generalize hg : w.heap.size = g at *
  have HG := Lib.hid hg
  have HX0 := Lib.hid hx
  have HB0 := Lib.hid hbx
  clear hx hbx hg
  refine (has_any k _).mono ?_
  rintro e w1 ⟨n, T, rfl, hb, hyes, _⟩
  obtain ⟨rfl, rfl⟩ := hyes hk
  have HX1 := Lib.hid (HX0.out.go hb HX0.out.room)
  have HBX1 := Lib.hid (Below.trans HB0.out (hb.mono (Nat.le_trans (Nat.le_succ g) HX0.out.room)))
  have HK := Lib.hid hk
  clear hyes hb hk
  generalize hnk : nu k = n at *
  have HNK := Lib.hid hnk
  clear hnk
  go_wp2_with fail
  have HO0 := Lib.hid (own_new w1 (g + 1) HX1.out.room)
  have HXN := Lib.hid (HX1.out.go ((Below.refl _ _).alloc HX1.out.room (.cells #[] 5)) (Nat.le_refl _))
  have HBN := Lib.hid (HBX1.out.alloc (Nat.le_trans (Nat.le_succ g) HX1.out.room) (.cells #[] 5))
  generalize w1.alloc (.cells #[] 5) = w2 at *
  go_loopw [5, 6] (fun s i wr => ∃ (j : Nat) (A : Option Addr) (N c : Nat), j ≤ n ∧ N = 6 * j ∧ i = .int .i64 j ∧ s = .slice A N c ∧ Own (g + 1) wr A N c ((six a ++ six b).take N) ∧ Bx g wr #[.int .i64 k, .int .i64 a, .int .i64 b, .string (str t)] ∧ Below g w wr) (fun _ i _ => n - (intOf i).toNat)
  case atStart => exact ⟨0, _, 0, 0, by omega, rfl, rfl, rfl, HO0.out, HXN.out, HBN.out⟩
  case round =>
    obtain ⟨j, A1, N, c1, hj, hN, rfl, rfl, hown, hx, hbel⟩ := hrel
    have HO1 := Lib.hid hown
    have HX := Lib.hid hx
    have HN := Lib.hid hN
    have HB := Lib.hid hbel
    clear hown hx hbel
    have hsz := HX.out.room
    have hc1 : wr.cell? ⟨g, 1, none⟩ = some (.int .i64 a) := HX.out.cell 1 _ rfl
    have hc2 : wr.cell? ⟨g, 2, none⟩ = some (.int .i64 b) := HX.out.cell 2 _ rfl
    have hc3 : wr.cell? ⟨g, 3, none⟩ = some (.string (str t)) := HX.out.cell 3 _ rfl
    by_cases hlt : j < n
    · rcases (show j = 0 ∨ j = 1 by omega) with rfl | rfl
      · obtain rfl : N = 0 := by omega
        clear hN HN
        go_wp2_with (first
          | (at_builtin
             refine wpList_put rfl (.tmp 28) (.tmp 46) rfl (g + 1) A1 0 c1 _ rfl (HO1.out.below ((Below.refl _ _).alloc (Nat.le_refl _) _)) _ _ 6 6 (six a) rfl (six_new wr a _ _ _ _ _ _ (byte_lo _ (by omega)) (byte_lo _ (by omega)) (byte_lo _ (by omega)) (byte_lo _ (by omega)) (byte_lo _ (by omega)) (byte_lo _ (by omega))) (by omega) (by simp; omega) ?_
             intro A2 c2 w2 hown hbel
             have HO2 := Lib.hid hown
             have HT := Lib.hid (Below.trans ((Below.refl _ _).alloc hsz _) hbel)
             clear hown hbel))
        go_roundw
        case rel => exact ⟨0 + 1, A2, 0 + 6, c2, by omega, by omega, rfl, rfl, HO2.out, HX.out.go HT.out (Nat.le_refl _), Below.trans HB.out (HT.out.mono (by omega))⟩
        case measure => simp [intOf]; omega
      · obtain rfl : N = 6 := by omega
        clear hN HN
        go_wp2_with (first
          | (at_builtin
             refine wpList_put rfl (.tmp 28) (.tmp 46) rfl (g + 1) A1 6 c1 _ rfl (HO1.out.below ((Below.refl _ _).alloc (Nat.le_refl _) _)) _ _ 6 6 (six b) rfl (six_new wr b _ _ _ _ _ _ (byte_lo _ (by omega)) (byte_lo _ (by omega)) (byte_lo _ (by omega)) (byte_lo _ (by omega)) (byte_lo _ (by omega)) (byte_lo _ (by omega))) (by omega) (by simp; omega) ?_
             intro A2 c2 w2 hown hbel
             have HO2 := Lib.hid hown
             have HT := Lib.hid (Below.trans ((Below.refl _ _).alloc hsz _) hbel)
             clear hown hbel))
        go_roundw
        case rel => exact ⟨1 + 1, A2, 6 + 6, c2, by omega, by omega, rfl, rfl, HO2.out, HX.out.go HT.out (Nat.le_refl _), Below.trans HB.out (HT.out.mono (by omega))⟩
        case measure => simp [intOf]; omega
    · obtain rfl : j = n := by omega
      have hN6 : N ≤ 12 := by omega
      clear hN
      go_wp2_with (first
          | (at_builtin
             refine wpList_puts rfl (.tmp 48) (.tmp 50) rfl (g + 1) A1 N c1 _ rfl HO1.out t rfl (by omega) hsz ?_
             intro A2 c2 w2 hown hbel
             have HO2 := Lib.hid hown
             have HT := Lib.hid hbel
             clear hown hbel))
      go_ret
      have hN := HN.out
      have hg := HG.out
      have hnk := HNK.out
      have hbd := HBD.out
      subst hg hN
      rw [hnk, hbd]
      exact ⟨A2, c2, rfl, HO2.out.mono (by omega), Below.trans HB.out (HT.out.mono (by omega))⟩

end Go.Proofs.Ytbnpamhmippdbaa
