
/- Where a line begins: the contract of the ring's Line. -/
import Derived.Test.YtanloclkbdameaaRingw
import Derived.Deep.LoopGhost
namespace Go.Proofs.Ytanloclkbdameaa
open Go.RowKit
open Rg

/-- may a line begin at i, asked from off on? -/
def Begins (b0 : Nat) (L : Bs) (off : Int) (i : Nat) : Prop := off ≤ i ∧ (i = 0 ∨ (b0 < i ∧ L[i - 1]? = some 10#8))

/-- r is the least place from b0 on where a line begins; else the end -/
def IsLine (b0 : Nat) (L : Bs) (off : Int) (r : Nat) : Prop :=
  r ≤ L.length ∧ (r < L.length → b0 ≤ r ∧ Begins b0 L off r) ∧ ∀ i, b0 ≤ i → i < r → ¬ Begins b0 L off i

theorem isLine_unique {b0 : Nat} {L : Bs} {off : Int} {r s : Nat} (h : IsLine b0 L off r) (k : IsLine b0 L off s) : r = s := by
  obtain ⟨h1, h2, h3⟩ := h
  obtain ⟨k1, k2, k3⟩ := k
  rcases Nat.lt_trichotomy r s with e | e | e
  · have := h2 (by omega)
    exact absurd this.2 (k3 r this.1 e)
  · exact e
  · have := k2 (by omega)
    exact absurd this.2 (h3 s this.1 e)

theorem quiet_add_left {P : Program} {f : FuncId} {args : Array Value} {w : World} {a n : Nat} {v : Value}
    (h : Calls P f args (w.drewN (a + n)) fun e w' => e = .returned v ∧ w.drewN (a + n) = w') :
    Calls P f args (w.drewN (a + n)) fun e w'' => e = .returned v ∧ ∃ m, w'' = w.drewN (a + m) :=
  h.mono fun _ _ ⟨he, hm⟩ => ⟨he, n, hm.symm⟩

set_option maxHeartbeats 1000000 in
theorem line_any {gr gk room : Nat} {c L : Bs} (off : Int) (w : World) (h : Raw w gr gk room c L.length) (hI : Inv room c L) :
    Calls Try.prog 50 #[.pointer (some ⟨gr, 0, none⟩), .int .i64 off] w fun e w' => ∃ r : Nat, e = .returned (.int .i64 r) ∧ IsLine (L.length - room) L off r ∧ ∃ m, w' = w.drewN m := by
  have HR := Lib.hid h
  have he := h.end_
  have hk := h.kept
  have h3 := h.few
  have h1 := h.pos
  have h2 := h.small
  have HI := Lib.hid hI
  have hB := base_any w h
  clear h hI
  generalize hE : L.length = E at *
  have HE := Lib.hid hE
  clear hE
  generalize hb0 : E - room = b0 at *
  have HB0 := Lib.hid hb0
  clear hb0
  have HB := Lib.hid hB
  clear hB
  by_cases hA : off ≤ 0 ∧ b0 = 0
  · obtain ⟨ho, rfl⟩ := hA
    go_enter Try.func50, Try.ntmps50
    go_wp2_with fail
    refine HB.out.mono ?_
    rintro e w' ⟨rfl, m, rfl⟩
    go_wp2
    go_ret
    refine ⟨0, rfl, ⟨by omega, fun _ => ⟨by omega, by omega, .inl rfl⟩, fun i _ hi => absurd hi (by omega)⟩, m, rfl⟩
  have hb0le : b0 ≤ 1099511627776 := by have := HB0.out; omega
  have hg : decide (off ≤ 0) = true ∧ ((b0 : Int) == 0) = false ∨ decide (off ≤ 0) = false := by
    by_cases h : off ≤ 0
    · exact .inl ⟨by simpa using h, by simp; omega⟩
    · exact .inr (by simp; omega)
  have hfree : ∀ a : Int, (a = off ∨ a = (b0 : Int) + 1) → off ≤ a → (b0 : Int) + 1 ≤ a → ∀ i : Nat, b0 ≤ i → (i : Int) < a → ¬ Begins b0 L off i := by
    intro a ha1 ha2 ha3 i hi hik hbg
    obtain ⟨hb1, hb2⟩ := hbg
    rcases hb2 with hb2 | ⟨hb2, _⟩
    · subst hb2
      exact hA ⟨by omega, by omega⟩
    · omega
  have HF := Lib.hid hfree
  clear hfree hA
  rcases (show off < (b0 : Int) + 1 ∨ (b0 : Int) + 1 ≤ off by omega) with hcase | hcase
  all_goals
    rcases hg with ⟨hg1, hg2⟩ | hg1
  all_goals
    go_enter Try.func50, Try.ntmps50
    go_wp2_with fail
    refine HB.out.mono ?_
    rintro e w' ⟨rfl, m, rfl⟩
    go_wp2
  all_goals
    generalize hWm : w.drewN m = wm
    have hRm : Raw wm gr gk room c E := by rw [← hWm]; exact HR.out.drewN m
    have hWm' : ∃ m, wm = w.drewN m := ⟨m, hWm.symm⟩
    have HWm := Lib.hid hWm'
    have HRm := Lib.hid hRm
    have hem := hRm.end_
    have hkm := hRm.kept
    clear hWm hWm' hRm he hk
  all_goals
    go_loopw [6] (fun i wr => ∃ a : Int, i = .int .i64 a ∧ (b0 : Int) + 1 ≤ a ∧ off ≤ a ∧ (∀ i : Nat, b0 ≤ i → (i : Int) < a → ¬ Begins b0 L off i) ∧ ∃ m, wr = wm.drewN m) (fun i _ => (E - intOf i).toNat)
    case atStart => exact ⟨_, rfl, by omega, by omega, HF.out _ (by omega) (by omega) (by omega), 0, rfl⟩
    case round =>
      obtain ⟨a, rfl, ha1, ha2, hfr, m2, rfl⟩ := hrel
      obtain ⟨k, rfl⟩ : ∃ k : Nat, a = (k : Int) + 1 := ⟨(a - 1).toNat, by omega⟩
      have HFr := Lib.hid hfr
      clear hfr
      by_cases hlt : k + 1 < E
      · have hcell := HRm.out.cell (k % room) (Nat.mod_lt _ h1)
        have hkr := Nat.mod_lt k h1
        have hval : c[k % room]? = L[k]? := HI.out.2 k (by rw [HE.out]; omega) (by rw [HE.out]; have := HB0.out; omega)
        have HV := Lib.hid hval
        clear hval
        generalize hx : c[k % room]?.getD 0#8 = x at *
        have HX := Lib.hid hx
        clear hx
        go_wp2
        go_quiet ((go_at_call 65; first | exact quiet_left (place_any k _ (HRm.out.drewN _) (by omega)) | exact quiet_add_left (place_any k _ (HRm.out.drewN _) (by omega))))
        have hLk : L[k]? = some x := by
          have h1' : k < L.length := by rw [HE.out]; omega
          have h2' := HV.out
          rw [List.getElem?_eq_getElem h1'] at h2' ⊢
          rw [← HX.out, h2']
          rfl
        have HLk := Lib.hid hLk
        clear hLk
        cases hx10 : ((x.toNat : Int) == 10)
        · have hnot : ∀ i : Nat, b0 ≤ i → (i : Int) < (k : Int) + 1 + 1 → ¬ Begins b0 L off i := by
            intro i hi hik
            by_cases h : (i : Int) < (k : Int) + 1
            · exact HFr.out i hi h
            · obtain rfl : i = k + 1 := by omega
              rintro ⟨_, hb | ⟨_, hb⟩⟩
              · omega
              · rw [Nat.add_sub_cancel, HLk.out] at hb
                injection hb with hb
                subst hb
                simp at hx10
          have HN := Lib.hid hnot
          clear hnot
          go_wp2
          go_roundw
          case rel => exact ⟨(k : Int) + 1 + 1, rfl, by omega, by omega, HN.out, m2 + nq, by first | rfl | rw [World.drewN_drewN]⟩
          case measure => simp [intOf]; omega
        · have hbeg : b0 ≤ k + 1 ∧ Begins b0 L off (k + 1) := by
            refine ⟨by omega, by omega, .inr ⟨by omega, ?_⟩⟩
            have e : x = 10#8 := by
              apply BitVec.eq_of_toNat_eq
              simp at hx10
              simp
              omega
            rw [Nat.add_sub_cancel, HLk.out, e]
          have HG := Lib.hid hbeg
          clear hbeg
          go_wp2
          go_ret
          obtain ⟨m', hm'⟩ := HWm.out
          refine ⟨k + 1, ret_int (by omega), ⟨by rw [HE.out]; omega, fun _ => HG.out, fun i hi hik => HFr.out i hi (by omega)⟩, m' + (m2 + nq), by rw [hm', World.drewN_drewN, World.drewN_drewN]⟩
      · go_wp2
        go_ret
        obtain ⟨m', hm'⟩ := HWm.out
        refine ⟨E, rfl, ⟨by rw [HE.out]; omega, fun h => absurd h (by rw [HE.out]; omega), fun i hi hik => HFr.out i hi (by omega)⟩, m' + m2, by rw [hm', World.drewN_drewN]⟩

end Go.Proofs.Ytanloclkbdameaa
