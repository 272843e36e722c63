/- What the program's own functions of layer 9 answer. -/
import Derived.Test.YtceomegglopbcaaDoorOrk
import Derived.Deep.RegionHeld
namespace Go.Proofs.YtceomegglopbcaaDoor
open Go.RowKit
open Dgs Orm

def PG (w : World) (s : Bs) (e : Ending) (w' : World) : Prop :=
  Below w.heap.size w w' ∧ ((∃ k n, Is s k n ∧ e = .returned (.tuple #[.agg #[.int .i64 k, .int .i64 n], .int .i64 0])) ∨ ((∀ k n, ¬ Is s k n) ∧ e = .returned (.tuple #[.agg #[.int .i64 0, .int .i64 0], .int .i64 8])))

def rtB (k n : Int) : Bool := decide (Rt k n)

theorem rtB_yes {k n : Int} (h : Rt k n) : rtB k n = true := by unfold rtB; simp [h]
theorem rtB_no {k n : Int} (h : ¬ Rt k n) : rtB k n = false := by unfold rtB; simp [h]

def RightGives (w : World) (b : Bool) (e : Ending) (w' : World) : Prop := e = .returned (.bool b) ∧ Below w.heap.size w w'

theorem obox (w : World) (k n : Int) : Below w.heap.size w (w.alloc (.cells #[.int .i64 k, .int .i64 n] 24)) := (Below.refl _ _).alloc (Nat.le_refl _) _

set_option maxRecDepth 100000 in
theorem oright_lo (k n : Int) (w : World) (h : k < 1) : Calls Tryd.prog 9 #[.agg #[.int .i64 k, .int .i64 n]] w (RightGives w false) := by
  have hb := Lib.hid (obox w k n)
  go_enter Tryd.func9, Tryd.ntmps9
  go_wp2_with fail
  refine (kright_any k false (by simp <;> omega) _).mono ?_
  rintro e w1 ⟨rfl, rfl⟩
  go_wp2
  go_ret
  exact ⟨by simp, hb.out⟩

set_option maxRecDepth 100000 in
theorem oright_hi (k n : Int) (w : World) (h1 : 11 < k) : Calls Tryd.prog 9 #[.agg #[.int .i64 k, .int .i64 n]] w (RightGives w false) := by
  have hb := Lib.hid (obox w k n)
  go_enter Tryd.func9, Tryd.ntmps9
  go_wp2_with fail
  refine (kright_any k false (by simp <;> omega) _).mono ?_
  rintro e w1 ⟨rfl, rfl⟩
  go_wp2
  go_ret
  exact ⟨by simp, hb.out⟩

set_option maxRecDepth 100000 in
theorem oright_z (k n : Int) (w : World) (h0 : 1 ≤ k) (h1 : k ≤ 5) (h2 : n = 0) : Calls Tryd.prog 9 #[.agg #[.int .i64 k, .int .i64 n]] w (RightGives w true) := by
  subst h2
  have hb := Lib.hid (obox w k 0)
  go_enter Tryd.func9, Tryd.ntmps9
  go_wp2_with fail
  refine (kright_any k true (by simp <;> omega) _).mono ?_
  rintro e w1 ⟨rfl, rfl⟩
  go_wp2_with fail
  refine (khas_any k false (by simp <;> omega) _).mono ?_
  rintro e w1 ⟨rfl, rfl⟩
  go_wp2
  go_ret
  exact ⟨by simp <;> omega, hb.out⟩

set_option maxRecDepth 100000 in
theorem oright_nz (k n : Int) (w : World) (h0 : 1 ≤ k) (h1 : k ≤ 5) (h2 : (n == 0) = false) : Calls Tryd.prog 9 #[.agg #[.int .i64 k, .int .i64 n]] w (RightGives w false) := by
  have hb := Lib.hid (obox w k n)
  go_enter Tryd.func9, Tryd.ntmps9
  go_wp2_with fail
  refine (kright_any k true (by simp <;> omega) _).mono ?_
  rintro e w1 ⟨rfl, rfl⟩
  go_wp2_with fail
  refine (khas_any k false (by simp <;> omega) _).mono ?_
  rintro e w1 ⟨rfl, rfl⟩
  go_wp2
  go_ret
  exact ⟨by simp <;> omega, hb.out⟩

set_option maxRecDepth 100000 in
theorem oright_neg (k n : Int) (w : World) (h0 : 6 ≤ k) (h1 : k ≤ 11) (h2 : n < 0) : Calls Tryd.prog 9 #[.agg #[.int .i64 k, .int .i64 n]] w (RightGives w false) := by
  have hb := Lib.hid (obox w k n)
  go_enter Tryd.func9, Tryd.ntmps9
  go_wp2_with fail
  refine (kright_any k true (by simp <;> omega) _).mono ?_
  rintro e w1 ⟨rfl, rfl⟩
  go_wp2_with fail
  refine (khas_any k true (by simp <;> omega) _).mono ?_
  rintro e w1 ⟨rfl, rfl⟩
  go_wp2
  go_ret
  exact ⟨by simp <;> omega, hb.out⟩

set_option maxRecDepth 100000 in
theorem oright_big (k n : Int) (w : World) (h0 : 6 ≤ k) (h1 : k ≤ 11) (h2 : 0 ≤ n) (h3 : 1099511627776 < n) : Calls Tryd.prog 9 #[.agg #[.int .i64 k, .int .i64 n]] w (RightGives w false) := by
  have hb := Lib.hid (obox w k n)
  go_enter Tryd.func9, Tryd.ntmps9
  go_wp2_with fail
  refine (kright_any k true (by simp <;> omega) _).mono ?_
  rintro e w1 ⟨rfl, rfl⟩
  go_wp2_with fail
  refine (khas_any k true (by simp <;> omega) _).mono ?_
  rintro e w1 ⟨rfl, rfl⟩
  go_wp2
  go_ret
  exact ⟨by simp <;> omega, hb.out⟩

set_option maxRecDepth 100000 in
theorem oright_ok (k n : Int) (w : World) (h0 : 6 ≤ k) (h1 : k ≤ 11) (h2 : 0 ≤ n) (h3 : n ≤ 1099511627776) : Calls Tryd.prog 9 #[.agg #[.int .i64 k, .int .i64 n]] w (RightGives w true) := by
  have hb := Lib.hid (obox w k n)
  go_enter Tryd.func9, Tryd.ntmps9
  go_wp2_with fail
  refine (kright_any k true (by simp <;> omega) _).mono ?_
  rintro e w1 ⟨rfl, rfl⟩
  go_wp2_with fail
  refine (khas_any k true (by simp <;> omega) _).mono ?_
  rintro e w1 ⟨rfl, rfl⟩
  go_wp2
  go_ret
  exact ⟨by simp <;> omega, hb.out⟩

theorem oright_any (k n : Int) (w : World) : Calls Tryd.prog 9 #[.agg #[.int .i64 k, .int .i64 n]] w fun e w' => e = .returned (.bool (rtB k n)) ∧ Below w.heap.size w w' := by
  rcases Int.lt_or_le k 1 with h1 | h1
  · rw [rtB_no fun r => by have := r.k0; omega]
    exact oright_lo k n w h1
  rcases Int.lt_or_le 11 k with h2 | h2
  · rw [rtB_no fun r => by have := r.k1; omega]
    exact oright_hi k n w h2
  rcases Int.lt_or_le 5 k with h5 | h5
  · rcases Int.lt_or_le n 0 with h3 | h3
    · rw [rtB_no fun r => by have := r.n0; omega]
      exact oright_neg k n w (by omega) h2 h3
    · rcases Int.lt_or_le 1099511627776 n with h4 | h4
      · rw [rtB_no fun r => by have := r.n1; omega]
        exact oright_big k n w (by omega) h2 h3 h4
      · rw [rtB_yes ⟨h1, h2, h3, h4, fun h => by omega⟩]
        exact oright_ok k n w (by omega) h2 h3 h4
  · by_cases hn : n = 0
    · rw [rtB_yes ⟨h1, h2, by omega, by omega, fun _ => hn⟩]
      exact oright_z k n w h1 h5 hn
    · rw [rtB_no fun r => hn (r.z h5)]
      exact oright_nz k n w h1 h5 (by simp [hn])

set_option maxRecDepth 100000 in
theorem ostring_any (k n : Int) (w : World) (ht : TI w) : Calls Tryd.prog 8 #[.agg #[.int .i64 k, .int .i64 n]] w (TextGives w (text k n)) := by
  have hbox := Lib.hid (obox w k n)
  by_cases hr : Rt k n
  · obtain ⟨j, rfl⟩ : ∃ j : Nat, k = j := ⟨k.toNat, by have := hr.k0; omega⟩
    have h0 := hr.k0
    have h1 := hr.k1
    have n0 := hr.n0
    have n1 := hr.n1
    have hR := Lib.hid (fun W => oright_any (j : Int) n W)
    have HRT := Lib.hid (rtB_yes hr)
    have HTX := Lib.hid (text_of hr)
    have hz := hr.z
    have HT := Lib.hid ht
    have hx : Bx w.heap.size (w.alloc (.cells #[.int .i64 j, .int .i64 n] 24)) #[.int .i64 j, .int .i64 n] := Bx.new w _ rfl _ _
    have HX := Lib.hid hx
    clear hr ht hx
    by_cases h5 : (j : Int) ≤ 5
    · have hs : tx j n = wd j := tx_word (k := j) (by omega)
      have HS := Lib.hid hs
      clear hs hz
      go_enter Tryd.func8, Tryd.ntmps8
      go_wp2_with fail
      refine (hR.out _).mono ?_
      rintro e w1 ⟨rfl, hb1⟩
      rw [HRT.out]
      have HB := Lib.hid (Below.trans hbox.out (hb1.mono hbox.out.size))
      have hx1 := HX.out.go hb1 HX.out.room
      have HX1 := Lib.hid hx1
      have c0 : w1.cell? ⟨w.heap.size, 0, none⟩ = some (.int .i64 j) := hx1.cell 0 _ rfl
      have hw : w1.cell? ⟨0, j, none⟩ = some (.string (str (wd j))) := (HT.out.below HB.out).words j (by omega)
      clear hb1 hx1
      go_wp2_with fail
      refine (khas_any (j : Int) false (by simp <;> omega) _).mono ?_
      rintro e w2 ⟨rfl, rfl⟩
      go_wp2
      go_ret
      exact ⟨by rw [HTX.out, HS.out]; rfl, HB.out⟩
    · have hs : str (tx j n) = str (wd j) ++ ⟨#[32]⟩ ++ str (dgs n.toNat) := by
        rw [show tx j n = wd j ++ [32#8] ++ dgs n.toNat from tx_pre (k := j) (by omega), str_app, str_app]
        rfl
      have HS := Lib.hid hs
      have hl := str_size (dgs n.toNat)
      have hl2 := dgs_len n.toNat 12 (by omega)
      have hl3 := str_size (wd j)
      have hl4 := wd_len j
      clear hs hz
      go_enter Tryd.func8, Tryd.ntmps8
      go_wp2_with fail
      refine (hR.out _).mono ?_
      rintro e w1 ⟨rfl, hb1⟩
      rw [HRT.out]
      have HB := Lib.hid (Below.trans hbox.out (hb1.mono hbox.out.size))
      have hx1 := HX.out.go hb1 HX.out.room
      have HX1 := Lib.hid hx1
      have c0 : w1.cell? ⟨w.heap.size, 0, none⟩ = some (.int .i64 j) := hx1.cell 0 _ rfl
      have c1 : w1.cell? ⟨w.heap.size, 1, none⟩ = some (.int .i64 n) := hx1.cell 1 _ rfl
      have hw : w1.cell? ⟨0, j, none⟩ = some (.string (str (wd j))) := (HT.out.below HB.out).words j (by omega)
      have HT1 := Lib.hid (HT.out.below HB.out)
      clear hb1 hx1
      go_wp2_with fail
      refine (khas_any (j : Int) true (by simp <;> omega) _).mono ?_
      rintro e w2 ⟨rfl, rfl⟩
      go_upto_region 5 with fail
      have hf := fmt_any n n0 (by omega) w1.drew (HT1.out.below (below_drew (Below.refl _ _)))
      have HF := Lib.hid hf
      have HTW := Lib.hid (fun W (hb : Below w1.heap.size w1 W) => (HT1.out.below hb).words j (by omega))
      rw [hl3.symm] at hl4
      rw [hl.symm] at hl2
      clear hl hl3 hf
      generalize str (dgs n.toNat) = d at *
      generalize str (wd j) = x at *
      have q1 : ¬ (9223372036854775807 < x.size + 1) := by omega
      have q2 : ¬ (9223372036854775807 < x.size + 1 + d.size) := by omega
      go_region_held (fun w' => w'.cell? ⟨w.heap.size, 0, none⟩ = some (.int .i64 j) ∧ w'.cell? ⟨w.heap.size, 1, none⟩ = some (.int .i64 n) ∧ w'.cell? ⟨0, j, none⟩ = some (.string x))
        (first | exact ⟨HXa.out.cell 0 _ rfl, HXa.out.cell 1 _ rfl, HWa.out⟩ | exact ⟨c0, c1, hw⟩)
        (first
          | (go_at_call 12; refine HF.out.mono ?_; rintro e wa ⟨rfl, hba⟩; have hba : Below w1.heap.size w1.drew wa := hba; have HXa := Lib.hid (HX1.out.go (below_back hba) HX1.out.room); have HWa := Lib.hid (HTW.out wa (below_back hba)); have HBa := Lib.hid (Below.trans HB.out ((below_back hba).mono HB.out.size)); clear hba)
          | fail)
      all_goals
        rename_i hh
        clear hh
        go_wp2
        go_ret
        exact ⟨by rw [HTX.out, HS.out]; rfl, HBa.out⟩
  · have HR := Lib.hid (fun W => oright_any k n W)
    have HRT := Lib.hid (rtB_no hr)
    have HTX := Lib.hid (text_none hr)
    clear hr ht
    go_enter Tryd.func8, Tryd.ntmps8
    go_wp2_with fail
    refine (HR.out _).mono ?_
    rintro e w1 ⟨rfl, hb1⟩
    rw [HRT.out]
    have HB := Lib.hid (Below.trans hbox.out (hb1.mono hbox.out.size))
    clear hb1
    go_wp2
    go_ret
    exact ⟨by rw [HTX.out]; rfl, HB.out⟩

end Go.Proofs.YtceomegglopbcaaDoor
