/- FrameJoins: for every input the law answers true, and its arguments read as before. Conditions: none. -/
import Derived.Test.YtdeinmbhnedgkaaRows
import Derived.WalkKit
import Derived.ProofKit
import Derived.OpenShut
import Derived.ShutString
import Derived.ChangeOld
import Derived.Below
import Derived.Test.YtdeinmbhnedgkaaFlaw
import Derived.Deep.QuietTactic
import Derived.BigQuiet
namespace Go.Proofs.Ytdeinmbhnedgkaa.frameJoins
open Go.ChangeShapes Go.WideShapes Go.ChangeAt Go.RowKit
open Go.ChangeMaps (open_string shut_string)
set_option linter.unusedVariables false

theorem own : ownKnob Try.prog.godebug = none := by kernel_rfl
theorem laidOut : laidOutB Try.prog = true := by kernel_rfl

open Fr

set_option maxRecDepth 100000 in
set_option maxHeartbeats 2000000 in
theorem walk (a0 : Option Addr) (len0 cap0 : Nat) (z0 : List Int) (a1 : Option Addr) (len1 cap1 : Nat) (z1 : List Int) (a2 : Int) (a3 : Int) (w : World) (w0 : IsRow .u8 w a0 len0 cap0 z0) (w1 : IsRow .u8 w a1 len1 cap1 z1) (w2 : (Lit.int .u8 a2).wf = true) (w3 : (Lit.int .u8 a3).wf = true) :
    Calls Try.prog 6 #[.slice a0 len0 cap0, .slice a1 len1 cap1, .int .u8 a2, .int .u8 a3] w fun e w' => e = .returned (.bool true) ∧ Below w.heap.size w w' := by
  obtain ⟨j, rfl⟩ := u8_wf w2
  obtain ⟨k, rfl⟩ := u8_wf w3
  obtain ⟨la, hla, _⟩ := IsRow.bytes w0
  obtain ⟨lb, hlb, _⟩ := IsRow.bytes w1
  obtain ⟨hcap0, hmax0⟩ := IsRow.cap w0
  obtain ⟨hcap1, hmax1⟩ := IsRow.cap w1
  have HLa := Lib.hid hla
  have HLb := Lib.hid hlb
  clear hla hlb w0 w1 w2 w3
  by_cases hlen : 300 < len0 ∨ 300 < len1
  · rcases hlen with hlen | hlen
    all_goals
      go_enter Try.func6, Try.ntmps6
      go_wp2_with fail
      refine (head_any w).mono ?_
      rintro e w1 ⟨rfl, hb1⟩
      go_wp2
      all_goals
        go_ret
        exact ⟨rfl, hb1⟩
  · have hle0 : len0 ≤ 300 := by omega
    have hle1 : len1 ≤ 300 := by omega
    have d0 : decide (300 < (len0 : Int)) = false := by simp; omega
    have d1 : decide (300 < (len1 : Int)) = false := by simp; omega
    clear hlen
    go_enter Try.func6, Try.ntmps6
    go_wp2_with fail
    refine (head_any w).mono ?_
    rintro e w1 ⟨rfl, hb1⟩
    have HB1 := Lib.hid hb1
    have HLa1 := Lib.hid (HLa.out.below hb1)
    have HLb1 := Lib.hid (HLb.out.below hb1)
    clear hb1 HLa HLb
    go_wp2_with fail
    refine (put_eq none 0 0 w.heap.size [] j a0 len0 cap0 la (fr j la) (len0 + 5) (by omega) rfl w1 (Bytes.nil _) HLa1.out HB1.out.size (by omega) (by omega)).mono ?_
    rintro e w2 ⟨A2, c2, rfl, hown, hb2⟩
    have HB2 := Lib.hid (Below.trans HB1.out (hb2.mono HB1.out.size))
    have HLa2 := Lib.hid (HLa1.out.below (hb2.mono HB1.out.size))
    have HLb2 := Lib.hid (HLb1.out.below (hb2.mono HB1.out.size))
    have HO2 := Lib.hid (hown.mono HB1.out.size)
    clear hown hb2 HLa1 HLb1
    go_wp2_with fail
    refine (put_eq A2 (len0 + 5) c2 w2.heap.size (fr j la) k a1 len1 cap1 lb (fr j la ++ fr k lb) (len0 + len1 + 10) (by omega) rfl w2 HO2.out.bytes (HLb2.out.more HB2.out.size) (Nat.le_refl _) (by omega) (by omega)).mono ?_
    rintro e w3 ⟨A3, c3, rfl, hown, hb3⟩
    have HB3 := Lib.hid (Below.trans HB2.out (hb3.mono HB2.out.size))
    have HLa3 := Lib.hid (HLa2.out.below (hb3.mono HB2.out.size))
    have HLb3 := Lib.hid (HLb2.out.below (hb3.mono HB2.out.size))
    have HO3 := Lib.hid (HO2.out.below hb3)
    have HP3 := Lib.hid (hown.mono HB2.out.size)
    clear hown hb3 HLa2 HLb2 HO2
    go_wp2_with fail
    refine (get_yes_any A3 (len0 + len1 + 10) c3 w3.heap.size j la (fr k lb) len0 HLa3.out.1 (by omega) w3 HP3.out.bytes (Nat.le_refl _) HP3.out.cap (by omega)).mono ?_
    rintro e w4 ⟨A4, c4, rfl, hby4, hb4⟩
    have HB4 := Lib.hid (Below.trans HB3.out (hb4.mono HB3.out.size))
    have HLa4 := Lib.hid (HLa3.out.below (hb4.mono HB3.out.size))
    have HLb4 := Lib.hid (HLb3.out.below (hb4.mono HB3.out.size))
    have HO4 := Lib.hid (HO3.out.below hb4)
    have HP4 := Lib.hid (HP3.out.below hb4)
    have HY4 := Lib.hid hby4
    clear hby4 hb4 HLa3 HLb3 HO3 HP3
    go_wp2_with fail
    have hx := Box.new w4 j A4 len0 c4 _ rfl
    have hbx : Below w4.heap.size w4 (w4.alloc (.cells #[.int .u8 j.toNat, .slice A4 len0 c4] 26)) := (Below.refl _ _).alloc (Nat.le_refl _) _
    generalize w4.alloc (.cells #[.int .u8 j.toNat, .slice A4 len0 c4] 26) = W at *
    have HX := Lib.hid hx
    have HBX := Lib.hid (Below.trans HB4.out (hbx.mono HB4.out.size))
    have HLa5 := Lib.hid (HLa4.out.below (hbx.mono HB4.out.size))
    have HLb5 := Lib.hid (HLb4.out.below (hbx.mono HB4.out.size))
    have HO5 := Lib.hid (HO4.out.below hbx)
    have HP5 := Lib.hid (HP4.out.below hbx)
    have HY5 := Lib.hid (HY4.out.below hbx)
    have hz : w4.heap.size ≤ W.heap.size := hbx.size
    generalize w4.heap.size = z at *
    clear hx hbx HLa4 HLb4 HO4 HP4 HY4
    obtain ⟨g2, rfl, hg2, hgl2⟩ := HO5.out.form (by omega)
    obtain ⟨g3, rfl, hg3, hgl3⟩ := HP5.out.form (by omega)
    have hcp := HP5.out.cap
    have hfl : (fr j la).length = len0 + 5 := HO5.out.len
    have hpre : Bytes W W.heap.size (some ⟨g3, 0, none⟩) (len0 + 5) (fr j la) := by
      have := HP5.out.bytes.take (k := len0 + 5) (by omega)
      rwa [List.take_left' hfl] at this
    have hsuf : Bytes W W.heap.size (some ⟨g3, len0 + 5, none⟩) (len1 + 5) (fr k lb ++ []) := by
      have := HP5.out.bytes.cut2 (cap := c3) (j := len0 + 5) (by omega) hcp (by omega)
      rwa [List.drop_left' hfl, Nat.zero_add, show len0 + len1 + 10 - (len0 + 5) = len1 + 5 by omega, ← List.append_nil (fr k lb)] at this
    have HSuf := Lib.hid hsuf
    have c0 := HX.out.kind
    have c1 := HX.out.body
    have k1 := fun N => conv_str (cap := c4) (HY5.out.keep (w' := W.drewN N) (fun _ _ => rfl))
    have k2 := fun N => conv_str (cap := cap0) (HLa5.out.keep (w' := W.drewN N) (fun _ _ => rfl))
    have k3 := fun N => conv_str (cap := c3) (hpre.keep (w' := W.drewN N) (fun _ _ => rfl))
    have k4 := fun N => conv_str (cap := c2) (HO5.out.bytes.keep (w' := W.drewN N) (fun _ _ => rfl))
    have j0 : (len0 : Int) + 5 ≤ (c3 : Int) := by omega
    have j1 : ((len0 : Int) + 5).toNat = len0 + 5 := by omega
    have j2 : ¬ c3 = len0 + 5 := by omega
    have HF := Lib.hid hfl
    clear hpre hsuf hfl
    go_quiet (fail)
    clear k1 k2 k3 k4
    have hbn := below_drewN (Below.refl W.heap.size W) nq
    have HBX2 := Lib.hid (Below.trans HBX.out (hbn.mono HBX.out.size))
    have HSuf2 := Lib.hid (HSuf.out.below hbn)
    have HW2 := Lib.hid hbn.size
    have HLb6 := Lib.hid (HLb5.out.below (hbn.mono HBX.out.size))
    clear hbn HBX HSuf HLb5 c0 c1
    generalize W.drewN nq = W2 at *
    go_wp2_with fail
    rw [show len0 + len1 + 5 - len0 = len1 + 5 by omega]
    have hw2 : W.heap.size ≤ W2.heap.size := HW2.out
    refine (get_yes_any _ (len1 + 5) _ W.heap.size k lb [] len1 HLb6.out.1 (by omega) W2 HSuf2.out hw2 (by omega) (by omega)).mono ?_
    rintro e w6 ⟨A6, c6, rfl, hby6, hb6⟩
    have HB6 := Lib.hid (Below.trans HBX2.out (hb6.mono HBX2.out.size))
    have HLb7 := Lib.hid (HLb6.out.below (hb6.mono HBX2.out.size))
    have HY6 := Lib.hid hby6
    clear hby6 hb6 hw2
    have hbx : Below w6.heap.size w6 (w6.alloc (.cells #[.int .u8 k.toNat, .slice A6 len1 c6] 26)) := (Below.refl _ _).alloc (Nat.le_refl _) _
    have k1 := conv_str (cap := c6) (HY6.out.below hbx)
    have k2 := conv_str (cap := cap1) (HLb7.out.below (hbx.mono HB6.out.size))
    have q0 : ((len0 : Int) + 5 + ((len1 : Int) + 5) == (len0 : Int) + (len1 : Int) + 10) = true := by simp; omega
    have HB7 := Lib.hid (Below.trans HB6.out (hbx.mono HB6.out.size))
    clear hbx
    go_wp2
    go_ret
    exact ⟨rfl, HB7.out⟩

set_option maxRecDepth 100000 in
theorem lifted (os : Os) (started : os.Started) (H : Type) (enc : TypeId × Value → H) :
    ReturnsInHanded {} Try.checked os 6 .any (Rows.frameJoinsSpec.pre6 enc Try.prog Try.f6 Rows.frameJoinsRow.domain false) (Rows.frameJoinsSpec.post enc Try.prog Try.f6 false true false false) := by
  refine returnsInHanded_of_change (C := Try.checked) own started (by kernel_rfl) Try.func6
    (ChangeSpec.witness6 (enc := enc) (C := Try.checked) false ⟨#[], #[.slice none 0 0, .slice none 0 0, .int .u8 0, .int .u8 0], []⟩ 8 (by kernel_rfl) (by kernel_rfl) (by kernel_rfl) (by kernel_rfl)) ?_
  intro W base args ds gs before hval0 hW hcnd _
  have hval : ∀ (j : Nat) t v, Try.f6.params[j]? = some t → args[j]? = some v → Value.okWide Try.prog W .any base t v := hval0
  have hW' := hW
  obtain ⟨p, q, hA0, hV, rfl, hfz, hnd⟩ := hW
  have hA : DataW.TrodAll enc Try.prog W 0 (fun _ => true) true Try.f6.params.toList args.toList ds p := hA0
  rw [Try.params6] at hA hval
  obtain ⟨v0, vs0, d0, ds0, p0, q0, hargs, rfl, rfl, h0, r0⟩ := trodAll_cons hA
  obtain ⟨v1, vs1, d1, ds1, p1, q1, rfl, rfl, rfl, h1, r1⟩ := trodAll_cons r0
  obtain ⟨v2, vs2, d2, ds2, p2, q2, rfl, rfl, rfl, h2, r2⟩ := trodAll_cons r1
  obtain ⟨v3, vs3, d3, ds3, p3, q3, rfl, rfl, rfl, h3, r3⟩ := trodAll_cons r2
  obtain ⟨rfl, rfl, rfl⟩ := trodAll_nil r3
  obtain rfl : args = #[v0, v1, v2, v3] := by cases args; simp_all
  obtain ⟨rfl, rfl⟩ := trodVars_none hV
  obtain ⟨a0, len0, cap0, rfl⟩ := okWide_slice Try.underlying22 (hval 0 22 v0 rfl rfl)
  have k0 := h0
  have lt0 : ∀ x ∈ p0, x.block < W.heap.size := by obtain ⟨m, hm⟩ := k0; exact DataW.trod_lt m _ _ _ hm
  obtain ⟨z0, w0⟩ : ∃ zs, IsRow .u8 W a0 len0 cap0 zs := by
    obtain ⟨fuel, hf⟩ := h0
    rcases open_ints Try.underlying22 Try.underlying5 (by kernel_rfl) hf with ⟨hcs, _⟩ | ⟨x, l, c, zs, hcs, _, hl, hm, hz, _, hcell, hwz⟩
    · simp [Value.cells] at hcs
      obtain ⟨rfl, rfl, rfl⟩ := hcs
      exact ⟨[], .inl ⟨rfl, rfl, rfl, rfl⟩⟩
    · simp [Value.cells] at hcs
      obtain ⟨rfl, rfl, rfl⟩ := hcs
      exact ⟨zs, .inr ⟨_, rfl, hl, hm, by simpa using hz, hcell, hwz⟩⟩
  obtain ⟨a1, len1, cap1, rfl⟩ := okWide_slice Try.underlying22 (hval 1 22 v1 rfl rfl)
  have k1 := h1
  have lt1 : ∀ x ∈ p1, x.block < W.heap.size := by obtain ⟨m, hm⟩ := k1; exact DataW.trod_lt m _ _ _ hm
  obtain ⟨z1, w1⟩ : ∃ zs, IsRow .u8 W a1 len1 cap1 zs := by
    obtain ⟨fuel, hf⟩ := h1
    rcases open_ints Try.underlying22 Try.underlying5 (by kernel_rfl) hf with ⟨hcs, _⟩ | ⟨x, l, c, zs, hcs, _, hl, hm, hz, _, hcell, hwz⟩
    · simp [Value.cells] at hcs
      obtain ⟨rfl, rfl, rfl⟩ := hcs
      exact ⟨[], .inl ⟨rfl, rfl, rfl, rfl⟩⟩
    · simp [Value.cells] at hcs
      obtain ⟨rfl, rfl, rfl⟩ := hcs
      exact ⟨zs, .inr ⟨_, rfl, hl, hm, by simpa using hz, hcell, hwz⟩⟩
  obtain ⟨a2, rfl, rfl, rfl, w2⟩ := open_int Try.underlying5 (hval 2 5 v2 rfl rfl) h2
  obtain ⟨a3, rfl, rfl, rfl, w3⟩ := open_int Try.underlying5 (hval 3 5 v3 rfl rfl) h3
  clear hA0 hval0
  refine (walk a0 len0 cap0 z0 a1 len1 cap1 z1 a2 a3 W w0 w1 w2 w3).mono fun e W' ⟨he, bel⟩ => ?_
  subst he
  exact ⟨_, rfl, _, _, _, [], _, [], hW', trodAll_mk1 (shut_bool Try.underlying4 _), (trodAll_cons_mk (Below.trod laidOut (by kernel_rfl) (of_decide_eq_true (by kernel_rfl)) k0 bel lt0) (trodAll_cons_mk (Below.trod laidOut (by kernel_rfl) (of_decide_eq_true (by kernel_rfl)) k1 bel lt1) (trodAll_cons_mk (shut_int Try.underlying5 w2) (trodAll_cons_mk (shut_int Try.underlying5 w3) trodAll_mk0)))), rfl, bel.frame _, fun h => by cases h⟩

theorem over : Rows.frameJoinsRow.holds Try.pinned (OpenSpec.ofChange Rows.frameJoinsSpec) :=
  OpenClaim.holds_of_wide 6 Try.f6 rfl rfl rfl rfl rfl rfl rfl ⟨rfl, rfl, rfl, rfl, rfl⟩ rfl rfl rfl rfl rfl (by kernel_rfl) Try.func6 (by kernel_rfl)
    (of_decide_eq_true (by kernel_rfl)) (by unfold Func.isWrapper; first | (rw [if_pos (by decide +kernel)]; kernel_rfl) | (rw [if_neg (by decide +kernel)]; exact ⟨rfl, rfl⟩))
    (fun os started H enc _ => lifted os started H enc)

end Go.Proofs.Ytdeinmbhnedgkaa.frameJoins
namespace Go.Proofs.Ytdeinmbhnedgkaa
theorem frameJoins_holds : Rows.FrameJoinsSaid := frameJoins.over
#print axioms frameJoins_holds
end Go.Proofs.Ytdeinmbhnedgkaa
