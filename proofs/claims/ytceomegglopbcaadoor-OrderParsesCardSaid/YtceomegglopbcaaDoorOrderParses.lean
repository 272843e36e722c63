/- OrderParses: for every input the law answers true, and its arguments read as before. Conditions: none. -/
import Derived.Test.YtceomegglopbcaaDoorOrd
namespace Go.Proofs.YtceomegglopbcaaDoor.orderParses
open Go.ChangeShapes Go.WideShapes Go.ChangeAt Go.RowKit
open Dgs Orm

set_option maxRecDepth 100000 in
theorem walk (t0 : Bs) (w : World) (w0 : t0.length ≤ maxLen) (ht : TI w) :
    Calls Tryd.prog 4 #[.string (str t0)] w fun e w' => e = .returned (.bool true) ∧ Below w.heap.size w w' := by
  have hsz := str_size t0
  have hmax : t0.length ≤ 9223372036854775807 := by unfold maxLen at w0; omega
  have HT := Lib.hid ht
  clear w0
  by_cases hlen : 100 < t0.length
  · have hd0 : decide (100 < (t0.length : Int)) = true := by simp; omega
    have hh := ohead_any w ht
    clear ht
    go_enter Tryd.func4, Tryd.ntmps4
    go_wp2_with fail
    refine hh.mono ?_
    rintro e w1 ⟨rfl, hb1⟩
    clear hh
    go_wp2
    go_ret
    exact ⟨rfl, hb1⟩
  · have hd0 : decide (100 < (t0.length : Int)) = false := by simp; omega
    have hh := ohead_any w ht
    clear ht
    go_enter Tryd.func4, Tryd.ntmps4
    go_wp2_with fail
    refine hh.mono ?_
    rintro e w1 ⟨rfl, hb1⟩
    have HB1 := Lib.hid hb1
    have HT1 := Lib.hid (HT.out.below hb1)
    clear hh hb1
    have hp := oparse_any t0 w1 HT1.out (by omega)
    go_wp2_with fail
    refine hp.mono ?_
    clear hp
    rintro e w2 ⟨hb2, hq⟩
    obtain ⟨k, n, er, hor, rfl⟩ : ∃ k n er : Int, ((Is t0 k n ∧ er = 0) ∨ ((∀ a b, ¬ Is t0 a b) ∧ k = 0 ∧ n = 0 ∧ er = 8)) ∧ e = .returned (.tuple #[.agg #[.int .i64 k, .int .i64 n], .int .i64 er]) := by
      rcases hq with ⟨k, n, hi, rfl⟩ | ⟨hno, rfl⟩
      · exact ⟨k, n, 0, .inl ⟨hi, rfl⟩, rfl⟩
      · exact ⟨0, 0, 8, .inr ⟨hno, rfl, rfl, rfl⟩, rfl⟩
    clear hq
    have HOR := Lib.hid hor
    have HX := Lib.hid (Bx.new w2 _ rfl #[.int .i64 k, .int .i64 n] 24)
    have HB2 := Lib.hid (Below.trans (Below.trans HB1.out (hb2.mono HB1.out.size)) ((below_lit2 w2 (.cells #[.int .i64 k, .int .i64 n] 24)).mono (Nat.le_trans HB1.out.size hb2.size)))
    have HT2 := Lib.hid ((HT1.out.below hb2).below (below_lit2 w2 (.cells #[.int .i64 k, .int .i64 n] 24)))
    clear hb2 hor
    have hp := lparse_any t0 _ HT2.out (by omega)
    go_wp2_with fail
    refine hp.mono ?_
    clear hp
    rintro e w3 ⟨hb3, hq⟩
    have hx3 := HX.out.go hb3 HX.out.room
    rcases hq with ⟨k2, n2, hi, rfl⟩ | ⟨hno, a, b, rfl⟩
    · rcases HOR.out with ⟨hi1, rfl⟩ | ⟨hno, _⟩
      · obtain ⟨rfl, rfl⟩ := hi1.one hi
        have hbl := below_lit2 w3 (.cells #[.int .i64 k, .int .i64 n] 24)
        have HX3 := Lib.hid (hx3.go hbl hx3.room)
        have HY3 := Lib.hid (Bx.new w3 _ rfl #[.int .i64 k, .int .i64 n] 24)
        have c0 := HX3.out.cell 0 _ rfl
        have c1 := HX3.out.cell 1 _ rfl
        have e0 := HY3.out.cell 0 _ rfl
        have e1 := HY3.out.cell 1 _ rfl
        have HB3 := Lib.hid (Below.trans (Below.trans HB2.out (hb3.mono HB2.out.size)) (hbl.mono (Nat.le_trans HB2.out.size hb3.size)))
        clear hx3 hbl hb3 hi hi1
        go_wp2
        go_ret
        exact ⟨rfl, HB3.out⟩
      · exact absurd hi (hno _ _)
    · rcases HOR.out with ⟨hi1, _⟩ | ⟨_, rfl, rfl, rfl⟩
      · exact absurd hi1 (hno _ _)
      · have hbl := below_lit2 w3 (.cells #[.int .i64 a, .int .i64 b] 24)
        have HX3 := Lib.hid (hx3.go hbl hx3.room)
        have c0 := HX3.out.cell 0 _ rfl
        have c1 := HX3.out.cell 1 _ rfl
        have HB3 := Lib.hid (Below.trans (Below.trans HB2.out (hb3.mono HB2.out.size)) (hbl.mono (Nat.le_trans HB2.out.size hb3.size)))
        clear hx3 hbl hb3 hno
        go_wp2
        go_ret
        exact ⟨rfl, HB3.out⟩

set_option maxRecDepth 100000 in
theorem lifted (os : Os) (started : os.Started) (H : Type) (enc : TypeId × Value → H) :
    ReturnsInHanded {} Tryd.checked os 4 .any (fun w args => (Rows.orderParsesSpec.pre enc Tryd.prog Tryd.f4 [] false w args ∧ laidMetH Tryd.prog laidL w) ∧ sizedMet enc Tryd.prog Tryd.f4 (OpenSpec.ofChange Rows.orderParsesSpec) false w args)
      (Rows.orderParsesSpec.post enc Tryd.prog Tryd.f4 false true false false) := by
  refine returnsInHanded_of_change_and (C := Tryd.checked) (X := fun w _ => laidMetH Tryd.prog laidL w) (fun _ _ _ hh h => h.of_heap hh) own started (by kernel_rfl) Tryd.func4
    (ChangeSpec.witness_shaped (enc := enc) (C := Tryd.checked) (os := os) (X := fun w _ => laidMetH Tryd.prog laidL w) false (World.doorLaid Tryd.prog 400 os) #[.string ⟨#[]⟩] 8 rfl (World.shaped_of_RefB (by kernel_rfl) (by kernel_rfl)) (by kernel_rfl) (by kernel_rfl) (by kernel_rfl) (door_met os _)) ?_
  intro W base args ds gs before hval0 hW hcnd hsz0 hL _
  have hti := ti_of hL
  have hval : ∀ (j : Nat) t v, Tryd.f4.params[j]? = some t → args[j]? = some v → Value.okWide Tryd.prog W .any base t v := hval0
  have hW' := hW
  obtain ⟨p, q, hA0, hV, rfl, hfz, hnd⟩ := hW
  have hsz : (DataW.weightsEach Tryd.prog (Tryd.f4.params.toList ++ Rows.orderParsesSpec.plain.varTypes Tryd.prog) (ds ++ gs)).all (· ≤ reachBytes) = true := hsz0
  have hA : DataW.TrodAll enc Tryd.prog W 0 (fun _ => true) true Tryd.f4.params.toList args.toList ds p := hA0
  rw [Tryd.params4] at hA hval hsz
  obtain ⟨v0, vs0, d0, ds0, p0, q0, hargs, rfl, rfl, h0, r0⟩ := trodAll_cons hA
  obtain ⟨rfl, rfl, rfl⟩ := trodAll_nil r0
  obtain rfl : args = #[v0] := by cases args; simp_all
  obtain ⟨rfl, rfl⟩ := trodVars_none hV
  have k0 := h0
  have lt0 : ∀ x ∈ p0, x.block < W.heap.size := by obtain ⟨m, hm⟩ := k0; exact DataW.trod_lt m _ _ _ hm
  obtain ⟨s0, rfl, _, _, hs0⟩ := Go.ChangeMaps.open_string Tryd.underlying9 (hval 0 9 v0 rfl rfl) h0
  obtain ⟨t0, rfl, w0⟩ := as_str s0 hs0
  clear hA0 hval0 hsz hsz0
  refine (walk t0 W w0 hti).mono fun e W' ⟨he, bel⟩ => ?_
  subst he
  exact ⟨_, rfl, _, _, _, [], _, [], hW', trodAll_mk1 (shut_bool Tryd.underlying4 _), (trodAll_cons_mk (Below.trod laidOut (by kernel_rfl) (of_decide_eq_true (by kernel_rfl)) k0 bel lt0) trodAll_mk0), rfl, bel.frame _, fun h => by cases h⟩

theorem over : Rows.OrderParsesSaid :=
  OpenClaim.holds_of_wide 4 Tryd.f4 rfl rfl rfl rfl rfl rfl rfl ⟨rfl, rfl, rfl, rfl, rfl⟩ rfl rfl rfl rfl rfl (by kernel_rfl) Tryd.func4 (by kernel_rfl)
    (of_decide_eq_true (by kernel_rfl)) (by unfold Func.isWrapper; first | (rw [if_pos (by decide +kernel)]; kernel_rfl) | (rw [if_neg (by decide +kernel)]; exact ⟨rfl, rfl⟩))
    (fun os started H enc _ => lifted os started H enc)

end Go.Proofs.YtceomegglopbcaaDoor.orderParses
namespace Go.Proofs.YtceomegglopbcaaDoor
theorem orderParses_holds : Rows.OrderParsesCardSaid :=
  Claim7.holds_tied_plain_at .later [] _ true _ true
    orderParses.over (fun _ h => by cases h) (by kernel_rfl) (fun _ h => by cases h) orderParses_row_tie rfl ⟨rfl, rfl⟩ (by kernel_rfl) rfl
    (fun f fn hf hfn => by
      obtain rfl : f = 4 := Option.some.inj ((show Tryd.prog.funcNamed Rows.orderParsesRow.func = some 4 by kernel_rfl).symm.trans hf) |>.symm
      obtain rfl : fn = Tryd.f4 := (Option.some.inj (Tryd.func4.symm.trans hfn)).symm
      exact ⟨by kernel_rfl, fun j t ht => by
        rw [Tryd.params4] at ht
        have hm : t ∈ [9] := by simpa using Array.mem_of_getElem? ht
        have hall : ([9].all fun u => !Tryd.prog.wantsStandIn u) = true := by kernel_rfl
        exact (show Tryd.prog.wantsStandIn t = false by simpa using List.all_eq_true.1 hall t hm)⟩)
    (by kernel_rfl)
#print axioms orderParses_holds
end Go.Proofs.YtceomegglopbcaaDoor
