/- ConfRights: for every input the law answers true, and its arguments read as before. Conditions: none. -/
import Derived.Test.YtackkepkmejljaaInv
import Derived.Deep.RegionHeld
namespace Go.Proofs.Ytackkepkmejljaa.confRights
open Go.ChangeShapes Go.WideShapes Go.ChangeAt Go.RowKit
theorem walk (ca0 cb0 cc0 cd0 ce0 cf0 cg0 ch0 : Int) (w : World)  :
    Calls Try.prog 3 #[.agg (cv ca0 cb0 cc0 cd0 ce0 cf0 cg0 ch0)] w fun e w' => e = .returned (.bool true) ∧ Below w.heap.size w w' := by
  go_enter Try.func3, Try.ntmps3
  unfold cv
  go_upto_region 1 with fail
  have HX := Lib.hid (Bx.new w w.heap.size rfl #[.int .i64 ca0, .int .i64 cb0, .int .i64 cc0, .int .i64 cd0, .int .i64 ce0, .int .i64 cf0, .int .i64 cg0, .int .i64 ch0] 23)
  have HB : Hid (Below w.heap.size w (w.alloc (.cells #[.int .i64 ca0, .int .i64 cb0, .int .i64 cc0, .int .i64 cd0, .int .i64 ce0, .int .i64 cf0, .int .i64 cg0, .int .i64 ch0] 23))) := Lib.hid ((Below.refl w.heap.size w).alloc (Nat.le_refl _) _)
  have HG : Hid (w.heap.size + 1 ≤ (w.alloc (.cells #[.int .i64 ca0, .int .i64 cb0, .int .i64 cc0, .int .i64 cd0, .int .i64 ce0, .int .i64 cf0, .int .i64 cg0, .int .i64 ch0] 23)).heap.size) := Lib.hid (by simp)
  generalize w.alloc _ = w1 at *
  go_wp2_with fail
  refine (lhead_any _).mono ?_
  rintro _ w2 ⟨rfl, hb2⟩
  have HX2 := Lib.hid (HX.out.go hb2 HG.out)
  have HB2 := Lib.hid (Below.trans HB.out (hb2.mono (Nat.le_trans (Nat.le_succ _) HG.out)))
  clear HX HB HG hb2
  go_upto_region 3 with fail
  have hz : w.heap.size + 1 ≤ w2.heap.size := HX2.out.room
  have HCR := Lib.hid (right_any ca0 cb0 cc0 cd0 ce0 cf0 cg0 ch0)
  have HCL := Lib.hid (lright_any ca0 cb0 cc0 cd0 ce0 cf0 cg0 ch0)
  generalize rt ca0 cb0 cc0 cd0 ce0 cf0 cg0 ch0 = R at *
  unfold cv at HCR HCL
  have k0 := HX2.out.cell 0 _ rfl
  have k1 := HX2.out.cell 1 _ rfl
  have k2 := HX2.out.cell 2 _ rfl
  have k3 := HX2.out.cell 3 _ rfl
  have k4 := HX2.out.cell 4 _ rfl
  have k5 := HX2.out.cell 5 _ rfl
  have k6 := HX2.out.cell 6 _ rfl
  have k7 := HX2.out.cell 7 _ rfl
  simp at k0 k1 k2 k3 k4 k5 k6 k7
  go_region_held (fun w' => w'.cell? ⟨w.heap.size, 0, none⟩ = some (.int .i64 ca0) ∧ w'.cell? ⟨w.heap.size, 1, none⟩ = some (.int .i64 cb0) ∧ w'.cell? ⟨w.heap.size, 2, none⟩ = some (.int .i64 cc0) ∧ w'.cell? ⟨w.heap.size, 3, none⟩ = some (.int .i64 cd0) ∧ w'.cell? ⟨w.heap.size, 4, none⟩ = some (.int .i64 ce0) ∧ w'.cell? ⟨w.heap.size, 5, none⟩ = some (.int .i64 cf0) ∧ w'.cell? ⟨w.heap.size, 6, none⟩ = some (.int .i64 cg0) ∧ w'.cell? ⟨w.heap.size, 7, none⟩ = some (.int .i64 ch0))
    (first | exact ⟨HXb.out.cell 0 _ rfl, HXb.out.cell 1 _ rfl, HXb.out.cell 2 _ rfl, HXb.out.cell 3 _ rfl, HXb.out.cell 4 _ rfl, HXb.out.cell 5 _ rfl, HXb.out.cell 6 _ rfl, HXb.out.cell 7 _ rfl⟩ | exact ⟨HXa.out.cell 0 _ rfl, HXa.out.cell 1 _ rfl, HXa.out.cell 2 _ rfl, HXa.out.cell 3 _ rfl, HXa.out.cell 4 _ rfl, HXa.out.cell 5 _ rfl, HXa.out.cell 6 _ rfl, HXa.out.cell 7 _ rfl⟩ | exact ⟨k0, k1, k2, k3, k4, k5, k6, k7⟩)
    (first
      | (go_at_call 6; refine (HCR.out _).mono ?_; rintro e wa ⟨rfl, hba⟩; have hba : Below w2.heap.size w2.drew wa := hba; have HBa := Lib.hid (below_back hba); have HXa := Lib.hid (HX2.out.go HBa.out (by omega)); clear hba)
      | (go_at_call 7; refine (HCL.out _).mono ?_; rintro e wb ⟨rfl, hbb⟩; have HBb := Lib.hid (Below.trans HBa.out (hbb.mono HBa.out.size)); have HXb := Lib.hid (HX2.out.go HBb.out (by omega)); clear hbb))
  go_wp2
  go_ret
  exact ⟨by cases R <;> rfl, Below.trans HB2.out (HBb.out.mono (by omega))⟩

set_option maxRecDepth 100000 in
theorem lifted (os : Os) (started : os.Started) (H : Type) (enc : TypeId × Value → H) :
    ReturnsInHanded {} Try.checked os 3 .any (Rows.confRightsSpec.pre6 enc Try.prog Try.f3 Rows.confRightsRow.domain false) (Rows.confRightsSpec.post enc Try.prog Try.f3 false true false false) := by
  refine returnsInHanded_of_change_sized (C := Try.checked) own started (by kernel_rfl) Try.func3
    (ChangeSpec.witness6 (enc := enc) (C := Try.checked) false ⟨#[], #[.agg #[.int .i64 0, .int .i64 0, .int .i64 0, .int .i64 0, .int .i64 0, .int .i64 0, .int .i64 0, .int .i64 0]], []⟩ 8 (by kernel_rfl) (by kernel_rfl) (by kernel_rfl) (by kernel_rfl)) ?_
  intro W base args ds gs before hval0 hW hcnd hsz0 _
  have hval : ∀ (j : Nat) t v, Try.f3.params[j]? = some t → args[j]? = some v → Value.okWide Try.prog W .any base t v := hval0
  have hW' := hW
  obtain ⟨p, q, hA0, hV, rfl, hfz, hnd⟩ := hW
  have hsz : (DataW.weightsEach Try.prog (Try.f3.params.toList ++ Rows.confRightsSpec.plain.varTypes Try.prog) (ds ++ gs)).all (· ≤ reachBytes) = true := hsz0
  have hA : DataW.TrodAll enc Try.prog W 0 (fun _ => true) true Try.f3.params.toList args.toList ds p := hA0
  rw [Try.params3] at hA hval hsz
  obtain ⟨v0, vs0, d0, ds0, p0, q0, hargs, rfl, rfl, h0, r0⟩ := trodAll_cons hA
  obtain ⟨rfl, rfl, rfl⟩ := trodAll_nil r0
  obtain rfl : args = #[v0] := by cases args; simp_all
  obtain ⟨rfl, rfl⟩ := trodVars_none hV
  have k0 := h0
  have lt0 : ∀ x ∈ p0, x.block < W.heap.size := by obtain ⟨m, hm⟩ := k0; exact DataW.trod_lt m _ _ _ hm
  obtain ⟨ca0, cb0, cc0, cd0, ce0, cf0, cg0, ch0, rfl⟩ := open_conf (hval 0 23 v0 rfl rfl) h0
  clear hA0 hval0 hsz hsz0
  refine (walk ca0 cb0 cc0 cd0 ce0 cf0 cg0 ch0 W ).mono fun e W' ⟨he, bel⟩ => ?_
  subst he
  exact ⟨_, rfl, _, _, _, [], _, [], hW', trodAll_mk1 (shut_bool Try.underlying4 _), (trodAll_cons_mk (Below.trod laidOut (by kernel_rfl) (of_decide_eq_true (by kernel_rfl)) k0 bel lt0) trodAll_mk0), rfl, bel.frame _, fun h => by cases h⟩

theorem over : Rows.confRightsRow.holds Try.pinned (OpenSpec.ofChange Rows.confRightsSpec) :=
  OpenClaim.holds_of_wide 3 Try.f3 rfl rfl rfl rfl rfl rfl rfl ⟨rfl, rfl, rfl, rfl, rfl⟩ rfl rfl rfl rfl rfl (by kernel_rfl) Try.func3 (by kernel_rfl)
    (of_decide_eq_true (by kernel_rfl)) (by unfold Func.isWrapper; first | (rw [if_pos (by decide +kernel)]; kernel_rfl) | (rw [if_neg (by decide +kernel)]; exact ⟨rfl, rfl⟩))
    (fun os started H enc _ => lifted os started H enc)

end Go.Proofs.Ytackkepkmejljaa.confRights
namespace Go.Proofs.Ytackkepkmejljaa
theorem confRights_holds : Rows.ConfRightsSaid := confRights.over
#print axioms confRights_holds
end Go.Proofs.Ytackkepkmejljaa
