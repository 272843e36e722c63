/- OrderTexts: for every input the law answers true, and its arguments read as before. Conditions: none. -/
import Derived.Test.YtceomegglopbcaaDoorOrd
namespace Go.Proofs.YtceomegglopbcaaDoor.orderTexts
open Go.ChangeShapes Go.WideShapes Go.ChangeAt Go.RowKit
open Dgs Orm

set_option maxRecDepth 100000 in
theorem walk (k_0 n_0 : Int) (w : World) (w0 : (Lit.int .i64 k_0).wf = true ∧ (Lit.int .i64 n_0).wf = true) (ht : TI w) :
    Calls Tryd.prog 3 #[.agg #[.int .i64 k_0, .int .i64 n_0]] w fun e w' => e = .returned (.bool true) ∧ Below w.heap.size w w' := by
  have HW := Lib.hid w0
  have HT := Lib.hid ht
  have HB0 := Lib.hid (below_lit2 w (.cells #[.int .i64 k_0, .int .i64 n_0] 24))
  have HX0 := Lib.hid (Bx.new w _ rfl #[.int .i64 k_0, .int .i64 n_0] 24)
  have HT0 := Lib.hid (ht.below HB0.out)
  have hh := ohead_any _ HT0.out
  clear w0 ht
  go_enter Tryd.func3, Tryd.ntmps3
  go_wp2_with fail
  refine hh.mono ?_
  rintro e w1 ⟨rfl, hb1⟩
  have HB1 := Lib.hid (Below.trans HB0.out (hb1.mono HB0.out.size))
  have HT1 := Lib.hid (HT0.out.below hb1)
  have HX1 := Lib.hid (HX0.out.go hb1 HX0.out.room)
  have c0 := HX1.out.cell 0 _ rfl
  have c1 := HX1.out.cell 1 _ rfl
  clear hh hb1 HB0 HT0 HX0
  have hp := ltext_any k_0 n_0 w1 HT1.out
  go_wp2_with fail
  refine hp.mono ?_
  clear hp
  rintro e w2 ⟨rfl, hb2⟩
  have HB2 := Lib.hid (Below.trans HB1.out (hb2.mono HB1.out.size))
  have HT2 := Lib.hid (HT1.out.below hb2)
  have HX2 := Lib.hid (HX1.out.go hb2 HX1.out.room)
  clear c0 c1 hb2 HB1 HT1 HX1
  have c0 := HX2.out.cell 0 _ rfl
  have c1 := HX2.out.cell 1 _ rfl
  have hp := ostring_any k_0 n_0 w2 HT2.out
  go_wp2_with fail
  refine hp.mono ?_
  clear hp
  rintro e w3 ⟨rfl, hb3⟩
  have HB3 := Lib.hid (Below.trans HB2.out (hb3.mono HB2.out.size))
  have HT3 := Lib.hid (HT2.out.below hb3)
  have HX3 := Lib.hid (HX2.out.go hb3 HX2.out.room)
  clear c0 c1 hb3 HB2 HT2 HX2
  have c0 := HX3.out.cell 0 _ rfl
  have c1 := HX3.out.cell 1 _ rfl
  have hzz : ((str (text k_0 n_0)).toList == (str (text k_0 n_0)).toList) = true := by simp
  have hp := oright_any k_0 n_0 w3
  go_wp2_with fail
  refine hp.mono ?_
  clear hp
  rintro e w4 ⟨rfl, hb4⟩
  have HB4 := Lib.hid (Below.trans HB3.out (hb4.mono HB3.out.size))
  have HT4 := Lib.hid (HT3.out.below hb4)
  have HX4 := Lib.hid (HX3.out.go hb4 HX3.out.room)
  clear c0 c1 hb4 HB3 HT3 HX3
  have c0 := HX4.out.cell 0 _ rfl
  have c1 := HX4.out.cell 1 _ rfl
  by_cases hr : Rt k_0 n_0
  · have hrb : rtB k_0 n_0 = true := by unfold rtB; simp [hr]
    have HR := Lib.hid hr
    rw [text_of hr] at hzz ⊢
    rw [hrb]
    have hne : ((str (tx k_0 n_0)).toList == (⟨#[]⟩ : ByteArray).toList) = false := str_ne (m := []) (tx_ne hr)
    have hne2 : (str (tx k_0 n_0)).toList.isEmpty = false := by
      cases h : (str (tx k_0 n_0)).toList.isEmpty
      · rfl
      · rw [List.isEmpty_iff] at h
        rw [h, s_nil] at hne
        simp at hne
    have hp := oparse_any (tx k_0 n_0) w4 HT4.out (by have := tx_len hr; omega)
    clear hr hrb
    go_wp2_with fail
    refine hp.mono ?_
    clear hp
    rintro e w5 ⟨hb5, ⟨k, n, hi, rfl⟩ | ⟨hno, _⟩⟩
    · obtain ⟨rfl, rfl⟩ := hi.one (show Is _ k_0 n_0 from ⟨HR.out, rfl⟩)
      have hbl := below_lit2 w5 (.cells #[.int .i64 k, .int .i64 n] 24)
      have hx5 := HX4.out.go hb5 HX4.out.room
      have HX5 := Lib.hid (hx5.go hbl hx5.room)
      have HY5 := Lib.hid (Bx.new w5 _ rfl #[.int .i64 k, .int .i64 n] 24)
      clear c0 c1
      have c0 := HX5.out.cell 0 _ rfl
      have c1 := HX5.out.cell 1 _ rfl
      have e0 := HY5.out.cell 0 _ rfl
      have e1 := HY5.out.cell 1 _ rfl
      have HB5 := Lib.hid (Below.trans (Below.trans HB4.out (hb5.mono HB4.out.size)) (hbl.mono (Nat.le_trans HB4.out.size hb5.size)))
      clear hx5 hbl hb5 hi
      go_wp2
      go_ret
      exact ⟨rfl, HB5.out⟩
    · exact absurd (show Is _ k_0 n_0 from ⟨HR.out, rfl⟩) (hno _ _)
  · have hrb : rtB k_0 n_0 = false := by unfold rtB; simp [hr]
    rw [text_none hr] at hzz ⊢
    rw [hrb, show str [] = ⟨#[]⟩ from rfl]
    have hp := oparse_any [] w4 HT4.out (by simp)
    rw [show str [] = ⟨#[]⟩ from rfl] at hp
    clear hr hrb hzz
    go_wp2_with fail
    refine hp.mono ?_
    clear hp
    rintro e w5 ⟨hb5, ⟨k, n, hi, _⟩ | ⟨_, rfl⟩⟩
    · exact absurd hi.2 (tx_ne hi.1)
    · have hbl := below_lit2 w5 (.cells #[.int .i64 0, .int .i64 0] 24)
      have hx5 := HX4.out.go hb5 HX4.out.room
      have HX5 := Lib.hid (hx5.go hbl hx5.room)
      have HY5 := Lib.hid (Bx.new w5 _ rfl #[.int .i64 0, .int .i64 0] 24)
      clear c0 c1
      have e0 := HY5.out.cell 0 _ rfl
      have e1 := HY5.out.cell 1 _ rfl
      have HB5 := Lib.hid (Below.trans (Below.trans HB4.out (hb5.mono HB4.out.size)) (hbl.mono (Nat.le_trans HB4.out.size hb5.size)))
      clear hx5 hbl hb5
      go_wp2
      go_ret
      exact ⟨rfl, HB5.out⟩

set_option maxRecDepth 100000 in
theorem lifted (os : Os) (started : os.Started) (H : Type) (enc : TypeId × Value → H) :
    ReturnsInHanded {} Tryd.checked os 3 .any (fun w args => (Rows.orderTextsSpec.pre enc Tryd.prog Tryd.f3 [] false w args ∧ laidMetH Tryd.prog laidL w) ∧ sizedMet enc Tryd.prog Tryd.f3 (OpenSpec.ofChange Rows.orderTextsSpec) false w args)
      (Rows.orderTextsSpec.post enc Tryd.prog Tryd.f3 false true false false) := by
  refine returnsInHanded_of_change_and (C := Tryd.checked) (X := fun w _ => laidMetH Tryd.prog laidL w) (fun _ _ _ hh h => h.of_heap hh) own started (by kernel_rfl) Tryd.func3
    (ChangeSpec.witness_shaped (enc := enc) (C := Tryd.checked) (os := os) (X := fun w _ => laidMetH Tryd.prog laidL w) false (World.doorLaid Tryd.prog 400 os) #[.agg #[.int .i64 0, .int .i64 0]] 8 rfl (World.shaped_of_RefB (by kernel_rfl) (by kernel_rfl)) (by kernel_rfl) (by kernel_rfl) (by kernel_rfl) (door_met os _)) ?_
  intro W base args ds gs before hval0 hW hcnd hsz0 hL _
  have hti := ti_of hL
  have hval : ∀ (j : Nat) t v, Tryd.f3.params[j]? = some t → args[j]? = some v → Value.okWide Tryd.prog W .any base t v := hval0
  have hW' := hW
  obtain ⟨p, q, hA0, hV, rfl, hfz, hnd⟩ := hW
  have hsz : (DataW.weightsEach Tryd.prog (Tryd.f3.params.toList ++ Rows.orderTextsSpec.plain.varTypes Tryd.prog) (ds ++ gs)).all (· ≤ reachBytes) = true := hsz0
  have hA : DataW.TrodAll enc Tryd.prog W 0 (fun _ => true) true Tryd.f3.params.toList args.toList ds p := hA0
  rw [Tryd.params3] at hA hval hsz
  obtain ⟨v0, vs0, d0, ds0, p0, q0, hargs, rfl, rfl, h0, r0⟩ := trodAll_cons hA
  obtain ⟨rfl, rfl, rfl⟩ := trodAll_nil r0
  obtain rfl : args = #[v0] := by cases args; simp_all
  obtain ⟨rfl, rfl⟩ := trodVars_none hV
  have k0 := h0
  have lt0 : ∀ x ∈ p0, x.block < W.heap.size := by obtain ⟨m, hm⟩ := k0; exact DataW.trod_lt m _ _ _ hm
  obtain ⟨k_0, n_0, rfl, w0⟩ := open_order (hval 0 24 v0 rfl rfl) h0
  clear hA0 hval0 hsz hsz0
  refine (walk k_0 n_0 W w0 hti).mono fun e W' ⟨he, bel⟩ => ?_
  subst he
  exact ⟨_, rfl, _, _, _, [], _, [], hW', trodAll_mk1 (shut_bool Tryd.underlying4 _), (trodAll_cons_mk (Below.trod laidOut (by kernel_rfl) (of_decide_eq_true (by kernel_rfl)) k0 bel lt0) trodAll_mk0), rfl, bel.frame _, fun h => by cases h⟩

theorem over : Rows.OrderTextsSaid :=
  OpenClaim.holds_of_wide 3 Tryd.f3 rfl rfl rfl rfl rfl rfl rfl ⟨rfl, rfl, rfl, rfl, rfl⟩ rfl rfl rfl rfl rfl (by kernel_rfl) Tryd.func3 (by kernel_rfl)
    (of_decide_eq_true (by kernel_rfl)) (by unfold Func.isWrapper; first | (rw [if_pos (by decide +kernel)]; kernel_rfl) | (rw [if_neg (by decide +kernel)]; exact ⟨rfl, rfl⟩))
    (fun os started H enc _ => lifted os started H enc)

end Go.Proofs.YtceomegglopbcaaDoor.orderTexts
namespace Go.Proofs.YtceomegglopbcaaDoor
theorem orderTexts_holds : Rows.OrderTextsCardSaid :=
  Claim7.holds_tied_plain_at .later [] _ true _ true
    orderTexts.over (fun _ h => by cases h) (by kernel_rfl) (fun _ h => by cases h) orderTexts_row_tie rfl ⟨rfl, rfl⟩ (by kernel_rfl) rfl
    (fun f fn hf hfn => by
      obtain rfl : f = 3 := Option.some.inj ((show Tryd.prog.funcNamed Rows.orderTextsRow.func = some 3 by kernel_rfl).symm.trans hf) |>.symm
      obtain rfl : fn = Tryd.f3 := (Option.some.inj (Tryd.func3.symm.trans hfn)).symm
      exact ⟨by kernel_rfl, fun j t ht => by
        rw [Tryd.params3] at ht
        have hm : t ∈ [24] := by simpa using Array.mem_of_getElem? ht
        have hall : ([24].all fun u => !Tryd.prog.wantsStandIn u) = true := by kernel_rfl
        exact (show Tryd.prog.wantsStandIn t = false by simpa using List.all_eq_true.1 hall t hm)⟩)
    (by kernel_rfl)
#print axioms orderTexts_holds
end Go.Proofs.YtceomegglopbcaaDoor
