
/- What the ring's methods answer and leave: contracts of New, room, place, Base, End, put, Append, Read, Line. -/
import Derived.Test.YtanloclkbdameaaRows
import Derived.Test.YtanloclkbdameaaMem
import Derived.Test.YtanloclkbdameaaBase
import Derived.Test.YtanloclkbdameaaRg
import Derived.WalkKit
import Derived.Below
import Derived.Lib.Hide
import Derived.Deep.QuietTactic
import Derived.BigQuiet
import Derived.Laws.CopyOwn
import Derived.Deep.RegionLaw
import Derived.StillTailTactics
import Derived.Lib.SliceRun
namespace Go.Proofs.Ytanloclkbdameaa
open Go.RowKit
open Rg

theorem block_lt {w : World} {g : Nat} {o : Obj} (h : w.heap[g]? = some o) : g < w.heap.size := by
  rcases Nat.lt_or_ge g w.heap.size with h' | h'
  · exact h'
  · rw [Array.getElem?_eq_none h'] at h; cases h

/-- at block gr lies a ring's head, with e as its end; its bytes c lie in block gk -/
structure Raw (w : World) (gr gk room : Nat) (c : Bs) (e : Nat) : Prop where
  len : c.length = room
  pos : 0 < room
  small : room ≤ 65536
  few : e ≤ 1099511627776
  ne : gr ≠ gk
  head : w.heap[gr]? = some (.cells #[.int .i64 e, .slice (some ⟨gk, 0, none⟩) room room] 78 (0, 0))
  body : w.heap[gk]? = some (.cells (c.map by8).toArray 5 (0, 0))

section
variable {w w' : World} {gr gk room e : Nat} {c : Bs}
theorem Raw.end_ (h : Raw w gr gk room c e) : w.cell? ⟨gr, 0, none⟩ = some (.int .i64 e) := by
  rw [cell_of_row _ _ _ _ _ _ h.head]; rfl
theorem Raw.kept (h : Raw w gr gk room c e) : w.cell? ⟨gr, 1, none⟩ = some (.slice (some ⟨gk, 0, none⟩) room room) := by
  rw [cell_of_row _ _ _ _ _ _ h.head]; rfl
theorem Raw.drewN (h : Raw w gr gk room c e) (n : Nat) : Raw (w.drewN n) gr gk room c e := ⟨h.len, h.pos, h.small, h.few, h.ne, h.head, h.body⟩
theorem Raw.drew (h : Raw w gr gk room c e) : Raw w.drew gr gk room c e := ⟨h.len, h.pos, h.small, h.few, h.ne, h.head, h.body⟩
theorem Raw.free (h : Raw w gr gk room c e) (i : Nat) : w.frozen? ⟨gr, i, none⟩ = false := frozen_of_row w gr i _ _ h.head
theorem Raw.cell (h : Raw w gr gk room c e) (i : Nat) (hi : i < room) : w.cell? ⟨gk, i, none⟩ = some (.int .u8 (c[i]?.getD 0#8).toNat) := by
  rw [cell_of_row _ _ _ _ _ _ h.body]
  have := h.len
  simp [List.getElem?_eq_getElem (show i < c.length by omega), by8]
end

theorem Raw.body_of {w w' : World} {gr gk room e : Nat} {c c' : Bs} (h : Raw w gr gk room c e) (h1 : w'.heap[gk]? = some (.cells (c'.map by8).toArray 5 (0, 0))) (hO : Only (fun k => k = gk) w w') (hl : c'.length = room) :
    Raw w' gr gk room c' e :=
  ⟨hl, h.pos, h.small, h.few, h.ne, (hO.block gr (block_lt h.head) h.ne).trans h.head, h1⟩

theorem Raw.end_set {w : World} {gr gk room e e' : Nat} {c : Bs} (h : Raw w gr gk room c e) {v : Int} (hv : v = e') (he : e' ≤ 1099511627776) : Raw (w.setCell ⟨gr, 0, none⟩ (.int .i64 v)) gr gk room c e' :=
  ⟨h.len, h.pos, h.small, he, h.ne, by rw [heap_setCell_same w gr 0 _ _ _ h.head, hv]; rfl, by rw [heap_setCell_other w ⟨gr, 0, none⟩ gk _ (by simpa using h.ne.symm)]; exact h.body⟩

theorem room_any {gr gk room E : Nat} {c : Bs} (w : World) (h : Raw w gr gk room c E) :
    Calls Try.prog 51 #[.pointer (some ⟨gr, 0, none⟩)] w fun e w' => e = .returned (.int .i64 room) ∧ w = w' := by
  have hk := h.kept
  have h1 := h.pos
  have h2 := h.small
  go_enter Try.func51, Try.ntmps51
  go_wp2
  go_ret
  exact ⟨rfl, rfl⟩

theorem place_any {gr gk room E : Nat} {c : Bs} (n : Nat) (w : World) (h : Raw w gr gk room c E) (hn : n ≤ 1099511627776) :
    Calls Try.prog 65 #[.pointer (some ⟨gr, 0, none⟩), .int .i64 n] w fun e w' => e = .returned (.int .i64 (n % room : Nat)) ∧ w = w' := by
  have hr := Lib.hid (room_any w h)
  have h1 := h.pos
  have h2 := h.small
  go_enter Try.func65, Try.ntmps65
  go_wp2_with fail
  refine hr.out.mono ?_
  rintro e w' ⟨rfl, rfl⟩
  go_wp2
  go_ret
  exact ⟨rfl, rfl⟩

theorem base_any {gr gk room E : Nat} {c : Bs} (w : World) (h : Raw w gr gk room c E) :
    Calls Try.prog 34 #[.pointer (some ⟨gr, 0, none⟩)] w fun e w' => e = .returned (.int .i64 (E - room : Nat)) ∧ ∃ m, w' = w.drewN m := by
  have HR := Lib.hid h
  have he := h.end_
  have h1 := h.pos
  have h2 := h.small
  have h3 := h.few
  go_enter Try.func34, Try.ntmps34
  clear h
  go_wp2
  go_quiet ((go_at_call 51; exact quiet_left (room_any _ (HR.out.drewN _))))
  go_wp2
  all_goals
    go_ret
    exact ⟨ret_int (by omega), nq, rfl⟩

theorem end_any {gr gk room E : Nat} {c : Bs} (w : World) (h : Raw w gr gk room c E) :
    Calls Try.prog 37 #[.pointer (some ⟨gr, 0, none⟩)] w fun e w' => e = .returned (.int .i64 E) ∧ w = w' := by
  have he := h.end_
  go_enter Try.func37, Try.ntmps37
  go_wp2
  go_ret
  exact ⟨rfl, rfl⟩

/-- of a slice's n bytes none lies in the blocks gr, gk -/
def Away (n : Nat) (a : Option Addr) (gr gk : Nat) : Prop := 0 < n → ∀ p, a = some p → p.block ≠ gr ∧ p.block ≠ gk

theorem Bytes.away {w : World} {B n gr gk : Nat} {a : Option Addr} {l : Bs} (h : Bytes w B a n l) (h1 : B ≤ gr) (h2 : B ≤ gk) : Away n a gr gk := by
  intro hn p hp
  obtain ⟨b, off, e, hlt, _⟩ := h.2 hn
  rw [e] at hp
  injection hp with hp
  subst hp
  exact ⟨by simp; omega, by simp; omega⟩

theorem byte_size : (Try.prog.info? 5).map (·.size) = some 1 := by kernel_rfl

theorem still_of {P : Program} {f : FuncId} {args : Array Value} {w : World} {v : Value} (h : Calls P f args w fun e w' => e = .returned v ∧ w = w') :
    Calls P f args w fun e w' => e = .returned v ∧ w' = w := h.mono fun _ _ ⟨he, hw⟩ => ⟨he, hw.symm⟩

theorem Bytes.drew {w : World} {B n : Nat} {a : Option Addr} {l : Bs} (h : Bytes w B a n l) : Bytes w.drew B a n l := h

theorem put_any {gr gk room E B : Nat} {c : Bs} (a : Option Addr) (n cap : Nat) (l : Bs) (w : World) (h : Raw w gr gk room c E) (hl : Bytes w B a n l) (ha : Away n a gr gk) (hcap : n ≤ cap)
    (hn : n ≤ room) (hB : B ≤ w.heap.size) (hE : E + n ≤ 1099511627776) :
    Calls Try.prog 52 #[.pointer (some ⟨gr, 0, none⟩), .slice a n cap] w fun e w' => e = .returned (.tuple #[]) ∧ Raw w' gr gk room (put room (E % room) c l) (E + n) ∧ Only (fun k => k = gr ∨ k = gk) w w' := by
  have h1 := h.pos
  have h2 := h.small
  have h3 := h.few
  have hp := Nat.mod_lt E h1
  go_enter Try.func52, Try.ntmps52
  go_wp2
  refine region_tail 12 (by kernel_rfl) (by kernel_rfl) ?_
  intro W hW
  have h0 : Raw W gr gk room c E := by rw [hW]; exact h.drew
  have hl0 : Bytes W B a n l := by rw [hW]; exact hl
  have HO := Lib.hid (show Only (fun k => k = gr ∨ k = gk) w W by rw [hW]; exact (Only.refl _ _).drew)
  have he := h0.end_
  have hk := h0.kept
  have HR := Lib.hid h0
  have HL := Lib.hid hl0
  clear h h0 hl hl0 hW
  simp only [List.take_succ_cons, List.take_zero, List.drop_succ_cons, List.drop_zero]
  repeat still_step
  still_call (still_of (place_any E W HR.out h3))
  generalize hP : E % room = p at *
  have HP := Lib.hid hP
  clear hP
  have hp1 : ¬ room = p := by omega
  have hp2 : p ≤ room := by omega
  repeat still_step
  refine wpStill_nil ?_
  show wpList _ _ _ _ _ _
  have hlb := HL.out.1
  have HLb := Lib.hid hlb
  clear hlb
  have hxl : (l.take (min (room - p) n)).length = min (room - p) n := by simp [HLb.out]
  have hxb := HL.out.take (Nat.min_le_right (room - p) n)
  refine wpList_copyb rfl (.tmp 15) (.tmp 16) 24 24 rfl 5 Try.underlying24 byte_size (some ⟨gk, p, none⟩) a (room - p) (room - p) n cap rfl rfl gk p c 5 HR.out.body B (l.take (min (room - p) n)) (by rw [hxl]; exact Nat.min_comm _ _) (fun _ => rfl) (by rw [hxl]; exact hxb) (by rw [hxl, HR.out.len]; omega) ?_
  intro W1 hW1 hO1
  rw [hxl]
  have H1 := Lib.hid hW1
  have HO1 := Lib.hid hO1
  clear hW1 hO1 hxl hxb he hk
  generalize hm : min (room - p) n = m at *
  have Hm := Lib.hid hm
  have hmn : m ≤ n := by omega
  clear hm
  have hBW : B ≤ W.heap.size := Nat.le_trans hB HO.out.size
  have HBW := Lib.hid hBW
  clear hBW
  have hraw1 : Raw W1 gr gk room (splice c p (l.take m)) E := HR.out.body_of H1.out HO1.out (by rw [splice_len _ _ _ (by rw [HR.out.len]; have := Hm.out; simp [HLb.out]; omega), HR.out.len])
  have hby1 : Bytes W1 B a n l := HL.out.only HO1.out HBW.out (fun hn q hq => (ha hn q hq).2)
  have HR1 := Lib.hid hraw1
  have HL1 := Lib.hid hby1
  clear hraw1 hby1
  go_wp2
  refine region_tail 7 (by kernel_rfl) (by kernel_rfl) ?_
  intro W2 hW2
  have h0 : Raw W2 gr gk room (splice c p (l.take m)) E := by rw [hW2]; exact HR1.out.drew
  have hl0 : Bytes W2 B a n l := by rw [hW2]; exact HL1.out
  have HO2 := Lib.hid (show Only (fun k => k = gk) W1 W2 by rw [hW2]; exact (Only.refl _ _).drew)
  have hk := h0.kept
  have HR2 := Lib.hid h0
  have HL2 := Lib.hid hl0
  clear h0 hl0 hW2
  simp only [List.take_succ_cons, List.take_zero, List.drop_succ_cons, List.drop_zero]
  repeat still_step
  refine wpStill_nil ?_
  show wpList _ _ _ _ _ _
  have hxl : (l.drop m).length = n - m := by simp [HLb.out]
  have hxb : Bytes W2 B (cutA a cap m) (n - m) (l.drop m) := HL2.out.cut hmn hcap
  have hcl : (splice c p (l.take m)).length = room := HR2.out.len
  refine wpList_copyb rfl (.tmp 21) (.tmp 24) 24 24 rfl 5 Try.underlying24 byte_size (some ⟨gk, 0, none⟩) (cutA a cap m) room room (n - m) (cap - m) rfl rfl gk 0 (splice c p (l.take m)) 5 HR2.out.body B (l.drop m) (by rw [hxl]; exact (Nat.min_eq_left (by omega)).symm) (fun _ => rfl) (by rw [hxl]; exact hxb) (by rw [hxl, hcl]; omega) ?_
  intro W3 hW3 hO3
  have hput : splice (splice c p (l.take m)) 0 (l.drop m) = put room p c l := by
    unfold put at2
    rw [HLb.out, Hm.out]
  rw [hput] at hW3
  have hraw3 : Raw W3 gr gk room (put room p c l) E := HR2.out.body_of hW3 hO3 (put_len room p c l HR.out.len hp (by rw [HLb.out]; exact hn))
  have HR3 := Lib.hid hraw3
  have HO3 := Lib.hid hO3
  have he := hraw3.end_
  have hf := hraw3.free 0
  clear hraw3 hO3 hW3 hput hxl hxb hcl hk
  go_wp2
  all_goals
    go_end0
    have hP := HP.out
    subst hP
    exact ⟨rfl, HR3.out.end_set (by omega) (by omega), ((HO.out.trans (HO1.out.mono fun _ _ h => .inr h)).trans ((HO2.out.trans HO3.out).mono fun _ _ h => .inr h)).setCell (.inl rfl) _⟩

theorem append_any {gr gk room E B : Nat} {c : Bs} (a : Option Addr) (n cap : Nat) (l : Bs) (w : World) (h : Raw w gr gk room c E) (hl : Bytes w B a n l) (ha : Away n a gr gk) (hcap : n ≤ cap)
    (hB : B ≤ w.heap.size) (hE : E + n ≤ 1099511627776) :
    Calls Try.prog 32 #[.pointer (some ⟨gr, 0, none⟩), .slice a n cap] w fun e w' => e = .returned (.bool true) ∧
      Raw w' gr gk room (put room ((E + (n - room)) % room) c (l.drop (n - room))) (E + n) ∧ Only (fun k => k = gr ∨ k = gk) w w' := by
  have h1 := h.pos
  have h2 := h.small
  have h3 := h.few
  have he := h.end_
  have hk := h.kept
  have hf := h.free 0
  have HR := Lib.hid h
  have HL := Lib.hid hl
  clear h hl
  have hnil := fun (w : World) (a : Option Addr) (n c : Nat) => Lib.run_eql_slice_nil (P := Try.prog) w 24 5 a n c 0 0 Try.underlying24
  by_cases hle : n ≤ room
  · have h0 : n - room = 0 := by omega
    rw [h0, Nat.add_zero, List.drop_zero]
    rcases (show (n : Int) - (room : Int) < 0 ∨ n = room by omega) with hbig | rfl
    · clear h0
      go_enter Try.func32, Try.ntmps32
      go_wp2_with fail
      all_goals
        refine (put_any a n _ l _ (HR.out.end_set rfl h3) (HL.out.only ((Only.refl (fun k => k = gr) _).setCell rfl _) hB (fun hn q hq => (ha hn q hq).1)) ha (by omega) hle (by simpa [World.setCell] using hB) hE).mono ?_
        rintro e w' ⟨rfl, hr, ho⟩
        go_wp2
        go_ret
        exact ⟨rfl, hr, (((Only.refl (fun k => k = gr ∨ k = gk) w).setCell (.inl rfl) _).trans ho)⟩
    · clear h0
      go_enter Try.func32, Try.ntmps32
      go_wp2_with fail
      refine (put_any a n _ l _ (HR.out.end_set rfl h3) (HL.out.only ((Only.refl (fun k => k = gr) _).setCell rfl _) hB (fun hn q hq => (ha hn q hq).1)) ha (by omega) hle (by simpa [World.setCell] using hB) hE).mono ?_
      rintro e w' ⟨rfl, hr, ho⟩
      go_wp2
      go_ret
      exact ⟨rfl, hr, (((Only.refl (fun k => k = gr ∨ k = gk) w).setCell (.inl rfl) _).trans ho)⟩
  · obtain ⟨k0, rfl⟩ : ∃ k0, n = room + k0 := ⟨n - room, by omega⟩
    rw [Nat.add_sub_cancel_left]
    have hk0 : 0 < k0 := by omega
    have hE2 : E + k0 ≤ 1099511627776 := by omega
    clear hle
    have hcut : Bytes w B (a.map (·.add k0)) room (l.drop k0) := by
      have h := HL.out.cut (k := k0) (cap := cap) (by omega) hcap
      rw [Nat.add_sub_cancel] at h
      unfold cutA at h
      rwa [if_neg (by omega)] at h
    have haw : Away room (a.map (·.add k0)) gr gk := by
      intro _ p hp
      rcases a with _ | q
      · simp at hp
      · simp at hp
        rw [← hp, add_block]
        exact ha (by omega) q rfl
    have HC := Lib.hid hcut
    clear hcut
    go_enter Try.func32, Try.ntmps32
    go_wp2_with fail
    refine (put_any _ room _ (l.drop k0) _ (HR.out.end_set (e' := E + k0) (by omega) hE2) (HC.out.only ((Only.refl (fun k => k = gr) _).setCell rfl _) hB (fun hn q hq => (haw hn q hq).1)) haw (by omega) (Nat.le_refl _) (by simpa [World.setCell] using hB) (by omega)).mono ?_
    rintro e w' ⟨rfl, hr, ho⟩
    have hr2 : Raw w' gr gk room (put room ((E + k0) % room) c (l.drop k0)) (E + (room + k0)) := by
      rw [show E + (room + k0) = E + k0 + room by omega]; exact hr
    have HR2 := Lib.hid hr2
    clear hr hr2
    go_wp2
    go_ret
    exact ⟨rfl, HR2.out, (((Only.refl (fun k => k = gr ∨ k = gk) w).setCell (.inl rfl) _).trans ho)⟩

theorem make_bytes (W : World) (l : Int) (r : Nat) (hl : l = r) (hr : r ≤ 1099511627776) :
    (Instr.makeSlice 24 (.int .i64 l) (.int .i64 l)).run Try.prog W = .ok (.slice (some ⟨W.heap.size, 0, none⟩) r r) (W.alloc (.cells (zb r) 5)) := by
  obtain ⟨i0, hi0, hi1, hi2, hi3⟩ := byte_info
  subst hl
  have h := run_make (P := Try.prog) W 24 5 i0 _ Try.underlying24 hi0 hi1 .i64 .i64 (r : Int) (r : Int) (by omega) (Int.le_refl _) (by rw [hi3]; omega) (by omega)
  rw [h, Int.toNat_natCast, hi2, Nat.mul_one]
  have e : (madeCells (Value.int IntKind.u8 0).cells r) = zb r := by
    apply Array.toList_inj.1
    rw [show (Value.int IntKind.u8 0).cells = #[Value.int IntKind.u8 0] from rfl, toList_madeCells_one]
    simp [zb, by8]
  rw [e]

theorem new_at (size l : Int) (r : Nat) (hl : l = r) (hr1 : 0 < r) (hr : r ≤ 65536) (hc : (size < 1 ∧ l = 1) ∨ (65536 < size ∧ l = 65536) ∨ (1 ≤ size ∧ size ≤ 65536 ∧ l = size)) (w : World) :
    Calls Try.prog 29 #[.int .i64 size] w fun e w' => e = .returned (.pointer (some ⟨w.heap.size + 1, 0, none⟩)) ∧ Raw w' (w.heap.size + 1) w.heap.size r (List.replicate r 0#8) 0 ∧ Below w.heap.size w w' ∧ w'.heap.size = w.heap.size + 2 := by
  have hmk := fun W => make_bytes W l r hl (by omega)
  have H : ∀ W : World, W = (w.alloc (.cells (zb r) 5)).alloc (.cells #[.int .i64 0, .slice (some ⟨w.heap.size, 0, none⟩) r r] 78) →
      Raw W (w.heap.size + 1) w.heap.size r (List.replicate r 0#8) 0 ∧ Below w.heap.size w W ∧ W.heap.size = w.heap.size + 2 := by
    rintro W rfl
    refine ⟨⟨by simp, hr1, hr, by omega, by omega, ?_, ?_⟩, ((Below.refl _ _).alloc (Nat.le_refl _) _).alloc (by simp) _, by simp⟩
    · have := heap_alloc_new (w.alloc (.cells (zb r) 5)) (.cells #[.int .i64 0, .slice (some ⟨w.heap.size, 0, none⟩) r r] 78)
      simpa using this
    · rw [Below.heap_alloc _ _ _ (by simp), heap_alloc_new]
      rfl
  rcases hc with ⟨h1, rfl⟩ | ⟨h1, rfl⟩ | ⟨h1, h2, rfl⟩
  all_goals
    have HM := Lib.hid hl
    clear hl
    go_enter Try.func29, Try.ntmps29
    go_wp2
    go_ret
    exact ⟨rfl, H _ rfl⟩

def roomOf (size : Int) : Nat := (min (max size 1) 65536).toNat

theorem new_any (size : Int) (w : World) :
    Calls Try.prog 29 #[.int .i64 size] w fun e w' => e = .returned (.pointer (some ⟨w.heap.size + 1, 0, none⟩)) ∧ Raw w' (w.heap.size + 1) w.heap.size (roomOf size) (List.replicate (roomOf size) 0#8) 0 ∧ Below w.heap.size w w' ∧ w'.heap.size = w.heap.size + 2 := by
  unfold roomOf
  exact new_at size (min (max size 1) 65536) _ (by omega) (by omega) (by omega) (by omega) w

theorem read_no {gr gk room E : Nat} {c : Bs} (off n : Int) (w : World) (h : Raw w gr gk room c E) (ho : off < (E - room : Nat) ∨ (E : Int) < off) :
    Calls Try.prog 66 #[.pointer (some ⟨gr, 0, none⟩), .int .i64 off, .int .i64 n] w fun e w' => e = .returned (.tuple #[.slice none 0 0, .bool false]) ∧ ∃ m, w' = w.drewN m := by
  have HR := Lib.hid h
  have he := h.end_
  have h3 := h.few
  clear h
  by_cases hlo : off < (E - room : Nat)
  · have hb : decide (off < ((E - room : Nat) : Int)) = true := by simpa using hlo
    go_enter Try.func66, Try.ntmps66
    go_wp2_with fail
    refine (base_any w HR.out).mono ?_
    rintro e w' ⟨rfl, m, rfl⟩
    go_wp2
    go_ret2
    exact ⟨rfl, m, rfl⟩
  · have hhi : (E : Int) < off := by omega
    have hb : decide (off < ((E - room : Nat) : Int)) = false := by simp; omega
    go_enter Try.func66, Try.ntmps66
    go_wp2_with fail
    refine (base_any w HR.out).mono ?_
    rintro e w' ⟨rfl, m, rfl⟩
    go_wp2
    go_ret2
    exact ⟨rfl, m, rfl⟩

theorem read_none {gr gk room E : Nat} {c : Bs} (off : Nat) (n : Int) (w : World) (h : Raw w gr gk room c E) (hlo : E ≤ off + room) (hhi : off ≤ E) (hn : n < 1 ∨ off = E) :
    Calls Try.prog 66 #[.pointer (some ⟨gr, 0, none⟩), .int .i64 off, .int .i64 n] w fun e w' => e = .returned (.tuple #[.slice none 0 0, .bool true]) ∧ ∃ m, w' = w.drewN m := by
  have HR := Lib.hid h
  have he := h.end_
  have h3 := h.few
  clear h
  have hb : decide ((off : Int) < ((E - room : Nat) : Int)) = false := by simp; omega
  have hb2 : decide ((E : Int) < (off : Int)) = false := by simp; omega
  by_cases hn1 : n < (E : Int) - (off : Int)
  · have hn2 : n < 1 := by omega
    go_enter Try.func66, Try.ntmps66
    go_wp2_with fail
    refine (base_any w HR.out).mono ?_
    rintro e w' ⟨rfl, m, rfl⟩
    go_wp2
    all_goals
      go_ret2
      exact ⟨rfl, m, rfl⟩
  · have hn2 : (E : Int) - (off : Int) < 1 := by omega
    go_enter Try.func66, Try.ntmps66
    go_wp2_with fail
    refine (base_any w HR.out).mono ?_
    rintro e w' ⟨rfl, m, rfl⟩
    go_wp2
    all_goals
      go_ret2
      exact ⟨rfl, m, rfl⟩

theorem Raw.bytes {w : World} {gr gk room e : Nat} {c : Bs} (h : Raw w gr gk room c e) (k : Nat) (hk : k ≤ room) : Bytes w (gk + 1) (some ⟨gk, k, none⟩) (room - k) (c.drop k) := by
  refine ⟨by rw [List.length_drop, h.len], fun hn => ⟨gk, k, rfl, by omega, fun i hi => ?_⟩⟩
  rw [h.cell _ (by omega), List.getElem?_drop]

theorem Raw.keep {w w' : World} {gr gk room e : Nat} {c : Bs} {S : Nat → Prop} (h : Raw w gr gk room c e) (hO : Only S w w') (h1 : ¬ S gr) (h2 : ¬ S gk) : Raw w' gr gk room c e :=
  ⟨h.len, h.pos, h.small, h.few, h.ne, (hO.block gr (block_lt h.head) h1).trans h.head, (hO.block gk (block_lt h.body) h2).trans h.body⟩

theorem _root_.Go.Proofs.Ytanloclkbdameaa.Only.fresh {a b c : World} (h : Only (fun _ => False) a b) (k : Only (fun k => k = a.heap.size) b c) : Only (fun _ => False) a c :=
  ⟨k.os.trans h.os, k.tape.trans h.tape, k.output.trans h.output, Nat.le_trans h.size k.size, fun i hi _ => (k.block i (Nat.lt_of_lt_of_le hi h.size) (by omega)).trans (h.block i hi (fun h => h))⟩

theorem read_some {gr gk room E : Nat} {c : Bs} (off count : Nat) (n : Int) (w : World) (h : Raw w gr gk room c E) (hc : 1 ≤ count) (hlo : E ≤ off + room) (hhi : off + count ≤ E) (hn : n = count ∨ (E = off + count ∧ (count : Int) < n)) :
    Calls Try.prog 66 #[.pointer (some ⟨gr, 0, none⟩), .int .i64 off, .int .i64 n] w fun e w' => e = .returned (.tuple #[.slice (some ⟨w.heap.size, 0, none⟩) count count, .bool true]) ∧
      w'.heap[w.heap.size]? = some (.cells ((readOf room off count c (List.replicate count 0#8)).map by8).toArray 5 (0, 0)) ∧ Only (fun _ => False) w w' := by
  have HR := Lib.hid h
  have he := h.end_
  have h3 := h.few
  have h1 := h.pos
  have h2 := h.small
  clear h
  have hb : decide ((off : Int) < ((E - room : Nat) : Int)) = false := by simp; omega
  have hb2 : decide ((E : Int) < (off : Int)) = false := by simp; omega
  have hmk := fun W => make_bytes W count count rfl (by omega)
  have hmk2 := fun W => make_bytes W ((off : Int) + (count : Int) - (off : Int)) count (by omega) (by omega)
  have hp := Nat.mod_lt off h1
  rcases hn with rfl | ⟨rfl, hn⟩
  all_goals
    have HB2 := Lib.hid hb2
    have HB1 := Lib.hid hb
    go_enter Try.func66, Try.ntmps66
    go_wp2_with fail
    refine (base_any w HR.out).mono ?_
    rintro e w' ⟨rfl, m, rfl⟩
    go_wp2
  all_goals
    generalize hW0 : (w.drewN m).alloc (Obj.cells (zb count) 5) = W0
    have hO0 : Only (fun _ => False) w W0 := by rw [← hW0]; exact ((Only.refl _ w).drewN m).alloc _
    have hR0 := HR.out.keep hO0 (fun h => h) (fun h => h)
    have hG0 : W0.heap[w.heap.size]? = some (.cells ((List.replicate count 0#8).map by8).toArray 5 (0, 0)) := by rw [← hW0]; exact heap_alloc_new (w.drewN m) _
    clear hW0
    refine region_tail 9 (by kernel_rfl) (by kernel_rfl) ?_
    intro W hW
    have h0 := hR0.drew
    rw [← hW] at h0
    have hO := hO0.drew
    rw [← hW] at hO
    have hG : W.heap[w.heap.size]? = some (.cells ((List.replicate count 0#8).map by8).toArray 5 (0, 0)) := by rw [hW]; exact hG0
    have he0 := h0.end_
    have hk0 := h0.kept
    have HR0 := Lib.hid h0
    have HO := Lib.hid hO
    have HG := Lib.hid hG
    clear h0 hO hG hO0 hR0 hG0 hW hmk hmk2 he
    simp only [List.take_succ_cons, List.take_zero, List.drop_succ_cons, List.drop_zero]
    repeat still_step
    still_call (still_of (place_any off W HR0.out (by omega)))
    generalize hP : off % room = p at *
    have HP := Lib.hid hP
    clear hP
    have hp1 : ¬ room = p := by omega
    have hp2 : p ≤ room := by omega
    repeat still_step
    refine wpStill_nil ?_
    show wpList _ _ _ _ _ _
    have hxl : ((c.drop p).take (min count (room - p))).length = min count (room - p) := by simp [HR0.out.len]
    have hxb := (HR0.out.bytes p hp2).take (Nat.min_le_right count (room - p))
    refine wpList_copyb rfl (.tmp 35) (.tmp 43) 24 24 rfl 5 Try.underlying24 byte_size (some ⟨w.heap.size, 0, none⟩) (some ⟨gk, p, none⟩) count count (room - p) (room - p) rfl rfl w.heap.size 0 (List.replicate count 0#8) 5 HG.out (gk + 1) ((c.drop p).take (min count (room - p))) (by rw [hxl]; exact Nat.min_comm _ _) (fun _ => rfl) (by rw [hxl]; exact hxb) (by rw [hxl, List.length_replicate]; omega) ?_
    intro W1 hW1 hO1
    rw [hxl]
    have hgr : gr < w.heap.size := block_lt HR.out.head
    have hgk : gk < w.heap.size := block_lt HR.out.body
    have hraw1 := HR0.out.keep hO1 (by omega) (by omega)
    have hk1 := hraw1.kept
    have HR1 := Lib.hid hraw1
    have HG1 := Lib.hid hW1
    have HO1 := Lib.hid hO1
    clear hraw1 hW1 hO1 hxl hxb he0 hk0
    generalize hf : min count (room - p) = f at *
    have HF := Lib.hid hf
    have hf1 : f ≤ count := by omega
    clear hf
    go_wp2
    refine region_tail 7 (by kernel_rfl) (by kernel_rfl) ?_
    intro W2 hW2
    have hr2 := HR1.out.drew
    rw [← hW2] at hr2
    have hG2 : W2.heap[w.heap.size]? = some (.cells ((splice (List.replicate count 0#8) 0 ((c.drop p).take f)).map by8).toArray 5 (0, 0)) := by rw [hW2]; exact HG1.out
    have hO2 := HO1.out.drew
    rw [← hW2] at hO2
    have hk2 := hr2.kept
    have HR2 := Lib.hid hr2
    have HG2 := Lib.hid hG2
    have HO2 := Lib.hid hO2
    clear hr2 hG2 hO2 hk1 hW2
    simp only [List.take_succ_cons, List.take_zero, List.drop_succ_cons, List.drop_zero]
    repeat still_step
    refine wpStill_nil ?_
    show wpList _ _ _ _ _ _
    have hxl : (c.take (count - f)).length = count - f := by have := HF.out; simp [HR0.out.len]; omega
    have hxb := (HR2.out.bytes 0 (Nat.zero_le _)).take (show count - f ≤ room - 0 by have := HF.out; omega)
    rw [List.drop_zero] at hxb
    have hl2 : (splice (List.replicate count 0#8) 0 ((c.drop p).take f)).length = count := by
      rw [splice_len _ _ _ (by simp; omega), List.length_replicate]
    refine wpList_copyb rfl (.tmp 47) (.tmp 51) 24 24 rfl 5 Try.underlying24 byte_size _ (some ⟨gk, 0, none⟩) (count - f) (count - f) room room rfl rfl w.heap.size f _ 5 HG2.out (gk + 1) (c.take (count - f)) (by rw [hxl]; exact (Nat.min_eq_right (by have := HF.out; omega)).symm) (by rw [hxl]; intro h; rw [if_neg (by omega)]) (by rw [hxl]; exact hxb) (by rw [hxl, hl2]; omega) ?_
    intro W3 hG3 hO3
    have hread : splice (splice (List.replicate count 0#8) 0 ((c.drop p).take f)) f (c.take (count - f)) = readOf room off count c (List.replicate count 0#8) := by
      unfold readOf
      rw [HP.out, HF.out]
    rw [hread] at hG3
    have HG3 := Lib.hid hG3
    have HO3 := Lib.hid hO3
    clear hG3 hO3 hread hxl hxb hl2 hk2
    go_wp2
  all_goals
    try subst h
    go_ret2
    exact ⟨rfl, HG3.out, (HO.out.fresh HO2.out).fresh HO3.out⟩

end Go.Proofs.Ytanloclkbdameaa
