/- InqEnds: for every input the law answers true, and its arguments read as before. Conditions: none. -/
import Derived.Test.YtanloclkbdameaaIqh
import Derived.Test.YtanloclkbdameaaSz
import Derived.Test.YtanloclkbdameaaInb
namespace Go.Proofs.Ytanloclkbdameaa.inqEnds
open Go.ChangeShapes Go.WideShapes Go.ChangeAt Go.RowKit
theorem i64_nat {k : Nat} (h : k ≤ 1000000) : wf64 (k : Int) := WalkArith.wf_i64 (by omega)

set_option maxRecDepth 100000 in
set_option maxHeartbeats 1000000 in
theorem walk (a0 : Int) (a1 : Option Addr) (len1 cap1 : Nat) (z1 : List Int) (a2 : Option Addr) (len2 cap2 : Nat) (z2 : List Int) (a3 : Int) (w : World) (w0 : (Lit.int .i64 a0).wf = true) (w1 : IsRow .u8 w a1 len1 cap1 z1) (w2 : IsRow .u8 w a2 len2 cap2 z2) (w3 : (Lit.int .i64 a3).wf = true) :
    Calls Try.prog 5 #[.int .i64 a0, .slice a1 len1 cap1, .slice a2 len2 cap2, .int .i64 a3] w fun e w' => e = .returned (.bool true) ∧ Below w.heap.size w w' := by
  obtain ⟨p0, hp0, ep0⟩ := rest_any a0 400 (by decide) (by decide)
  obtain ⟨r, hr, er⟩ := rest_any a3 3 (by decide) (by decide)
  obtain ⟨l1, hl1, hmax1⟩ := w1.bytes
  obtain ⟨l2, hl2, hmax2⟩ := w2.bytes
  have hlen1 := hl1.1
  have hlen2 := hl2.1
  subst hlen1 hlen2
  have HL1 := Lib.hid hl1
  have HL2 := Lib.hid hl2
  have HA0 := Lib.hid w0
  have HA3 := Lib.hid w3
  have HSz := Lib.hid (show sizeOf' ((1 : Int) + (p0 : Int)) = 1 + p0 from by unfold sizeOf'; omega)
  clear HA0 HA3 w0 w1 w2 w3 hl1 hl2
  by_cases hg : 300 < l1.length
  · go_enter Try.func5, Try.ntmps5
    go_wp2_with fail
    refine (ihead_any w).mono ?_
    rintro e w1 ⟨rfl, hb1⟩
    go_wp2
    go_ret
    exact ⟨rfl, hb1⟩
  by_cases hg2 : 300 < l2.length
  · have hd1 : decide ((l1.length : Int) > 300) = false := by simp; omega
    go_enter Try.func5, Try.ntmps5
    go_wp2_with fail
    refine (ihead_any w).mono ?_
    rintro e w1 ⟨rfl, hb1⟩
    go_wp2
    go_ret
    exact ⟨rfl, hb1⟩
  have hlen1 : l1.length ≤ 300 := by omega
  have hlen2 : l2.length ≤ 300 := by omega
  have hd1 : decide ((l1.length : Int) > 300) = false := by simp; omega
  have hd2 : decide ((l2.length : Int) > 300) = false := by simp; omega
  clear hg hg2
  have hr3 : r = 0 ∨ r = 1 ∨ r = 2 := by omega
  have k0 : FOk 0 (fnew 5) := fok_new 5
  have k1 := k0.join (id := 1) 1 (by decide)
  have k2 := k1.ask 1
  have k3 := k2.join (id := 2) r (by decide)
  have e1 : whyE false (fjoin (fask (fjoin (fnew 5) 1 1) 1) 2 r) 1 = 0 := by rcases hr3 with rfl | rfl | rfl <;> rfl
  have e2 : wf64 (r : Int) := by rcases hr3 with rfl | rfl | rfl <;> decide
  have K := Lib.hid (And.intro k0 (And.intro k1 (And.intro k2 k3)))
  have E := Lib.hid (And.intro e1 e2)
  clear k0 k1 k2 k3 e1 e2 hr3
  go_enter Try.func5, Try.ntmps5
  go_wp2_with fail
  refine (ihead_any w).mono ?_
  rintro e w1 ⟨rfl, hb1⟩
  have HB1 := Lib.hid hb1
  clear hb1
  go_wp2_with fail
  refine (tnew_any 5 w1).mono ?_
  rintro e w2 ⟨F, gt, rfl, ht, hF, hb2⟩
  have H2 := Lib.hid (TB.new HB1.out HB1.out.size ht hF hb2)
  clear ht hF hb2 HB1
  go_wp2_with fail
  refine (iq_new _ w2).mono ?_
  rintro e w3 ⟨g, G, rfl, hq, hG, hb3⟩
  rw [HSz.out] at hq
  have H3 := Lib.hid (TQ.made H2.out hq hG hb3)
  clear hq hG hb3 H2
  go_wp2_with fail
  refine (tjoin_any H3.out.tb.tab (K.out.1) (by decide) 1 1 (by decide) (by decide)).mono ?_
  intro e w4 hg
  obtain ⟨F4, rfl, h4, _⟩ := H3.out.t hg
  have H4 := Lib.hid h4
  clear hg h4 H3
  go_wp2_with fail
  refine (task_any H4.out.tb.tab (K.out.2.1) (by decide) 1 (by decide)).mono ?_
  intro e w5 hg
  obtain ⟨F5, rfl, h5, _⟩ := H4.out.t hg
  have H5 := Lib.hid h5
  clear hg h5 H4
  go_wp2_with fail
  refine (tjoin_any H5.out.tb.tab (K.out.2.2.1) (by decide) 2 r (by decide) E.out.2).mono ?_
  intro e w6 hg
  obtain ⟨F6, rfl, h6, _⟩ := H5.out.t hg
  have H6 := Lib.hid h6
  have K6 := Lib.hid K.out.2.2.2
  have E6 := Lib.hid E.out.1
  clear hg h6 H5 K E
  generalize fjoin (fask (fjoin (fnew 5) 1 1) 1) 2 (r : Int) = s at *
  by_cases hfit : l1.length ≤ 1 + p0
  · have hdf : decide ((l1.length : Int) ≤ 1 + (p0 : Int)) = true := by simp; omega
    go_wp2_with fail
    refine (iq_offer_yes H6.out.qu H6.out.tb.tab K6.out 1 (by decide) cap1 (HL1.out.below H6.out.tb.bel) E6.out (by simp; omega) (by decide)).mono ?_
    intro e w7 hg
    obtain ⟨G7, rfl, h7, _⟩ := H6.out.q hg
    rw [Nat.zero_add] at h7
    have H7 := Lib.hid h7
    clear hg h7 H6
    have hws := H7.out.qu.fit
    clear hws
    go_wp2_with fail
    refine (iq_total H7.out.qu).mono ?_
    rintro e w8 ⟨rfl, rfl⟩
    go_wp2_with fail
    refine (iq_end H7.out.qu).mono ?_
    intro e w9 hg
    obtain ⟨G9, rfl, h9, _⟩ := H7.out.q hg
    have H9 := Lib.hid h9
    clear hg h9 H7
    go_wp2
    go_loopw [13] (fun i wr => ∃ k : Nat, k ≤ 4 ∧ i = .int .i64 k ∧ TQ w.heap.size w wr F6 gt s G9 (IR l1.length true) g 0 []) (fun i _ => 4 - (intOf i).toNat)
    case atStart => exact ⟨0, by omega, rfl, H9.out⟩
    case round =>
      obtain ⟨k, hk, rfl, htq⟩ := hrel
      have HT := Lib.hid htq
      clear htq H9
      by_cases hlt : k < 4
      · go_wp2_with fail
        refine (iq_offer_why HT.out.qu HT.out.tb.tab K6.out (k : Int) (i64_nat (by omega)) a2 l2.length cap2 1 rfl (by decide)).mono ?_
        rintro e wa ⟨rfl, ma, hwa⟩
        have HT2 := Lib.hid (hwa ▸ HT.out.drewN ma)
        clear hwa HT
        go_wp2
        go_roundw
        case rel => exact ⟨k + 1, by omega, by go_num, HT2.out⟩
        case measure => simp [intOf]; omega
      · obtain rfl : k = 4 := by omega
        go_wp2_with fail
        refine (q_len HT.out.qu).mono ?_
        rintro e wa ⟨rfl, rfl⟩
        go_wp2_with fail
        refine (q_take HT.out.qu 1000 0 rfl).mono ?_
        rintro e wb ⟨rfl, hbb, hgb⟩
        obtain ⟨Gb, _, hb, _⟩ := HT.out.q hgb
        have HTb := Lib.hid hb
        clear hbb hgb hb HT
        go_wp2_with fail
        refine (iq_total HTb.out.qu).mono ?_
        rintro e wc ⟨rfl, rfl⟩
        go_wp2
        go_ret
        exact ⟨rfl, HTb.out.tb.bel⟩
  · have hdf : decide ((l1.length : Int) ≤ 1 + (p0 : Int)) = false := by simp; omega
    go_wp2_with fail
    refine (iq_offer_full H6.out.qu H6.out.tb.tab K6.out 1 (by decide) a1 l1.length cap1 E6.out (by simp; omega)).mono ?_
    rintro e w7 ⟨rfl, m7, hw7⟩
    have H7 := Lib.hid (hw7 ▸ H6.out.drewN m7)
    clear hw7 H6
    have hws := H7.out.qu.fit
    clear hws
    go_wp2_with fail
    refine (iq_total H7.out.qu).mono ?_
    rintro e w8 ⟨rfl, rfl⟩
    go_wp2_with fail
    refine (iq_end H7.out.qu).mono ?_
    intro e w9 hg
    obtain ⟨G9, rfl, h9, _⟩ := H7.out.q hg
    have H9 := Lib.hid h9
    clear hg h9 H7
    go_wp2
    go_loopw [13] (fun i wr => ∃ k : Nat, k ≤ 4 ∧ i = .int .i64 k ∧ TQ w.heap.size w wr F6 gt s G9 (IR 0 true) g 0 []) (fun i _ => 4 - (intOf i).toNat)
    case atStart => exact ⟨0, by omega, rfl, H9.out⟩
    case round =>
      obtain ⟨k, hk, rfl, htq⟩ := hrel
      have HT := Lib.hid htq
      clear htq H9
      by_cases hlt : k < 4
      · go_wp2_with fail
        refine (iq_offer_why HT.out.qu HT.out.tb.tab K6.out (k : Int) (i64_nat (by omega)) a2 l2.length cap2 1 rfl (by decide)).mono ?_
        rintro e wa ⟨rfl, ma, hwa⟩
        have HT2 := Lib.hid (hwa ▸ HT.out.drewN ma)
        clear hwa HT
        go_wp2
        go_roundw
        case rel => exact ⟨k + 1, by omega, by go_num, HT2.out⟩
        case measure => simp [intOf]; omega
      · obtain rfl : k = 4 := by omega
        go_wp2_with fail
        refine (q_len HT.out.qu).mono ?_
        rintro e wa ⟨rfl, rfl⟩
        go_wp2_with fail
        refine (q_take HT.out.qu 1000 0 rfl).mono ?_
        rintro e wb ⟨rfl, hbb, hgb⟩
        obtain ⟨Gb, _, hb, _⟩ := HT.out.q hgb
        have HTb := Lib.hid hb
        clear hbb hgb hb HT
        go_wp2_with fail
        refine (iq_total HTb.out.qu).mono ?_
        rintro e wc ⟨rfl, rfl⟩
        go_wp2
        go_ret
        exact ⟨rfl, HTb.out.tb.bel⟩

set_option maxRecDepth 100000 in
theorem lifted (os : Os) (started : os.Started) (H : Type) (enc : TypeId × Value → H) :
    ReturnsInHanded {} Try.checked os 5 .any (Rows.inqEndsSpec.pre6 enc Try.prog Try.f5 Rows.inqEndsRow.domain false) (Rows.inqEndsSpec.post enc Try.prog Try.f5 false true false false) := by
  refine returnsInHanded_of_change_sized (C := Try.checked) own started (by kernel_rfl) Try.func5
    (ChangeSpec.witness6 (enc := enc) (C := Try.checked) false ⟨#[], #[.int .i64 0, .slice none 0 0, .slice none 0 0, .int .i64 0], []⟩ 8 (by kernel_rfl) (by kernel_rfl) (by kernel_rfl) (by kernel_rfl)) ?_
  intro W base args ds gs before hval0 hW hcnd hsz0 _
  have hval : ∀ (j : Nat) t v, Try.f5.params[j]? = some t → args[j]? = some v → Value.okWide Try.prog W .any base t v := hval0
  have hW' := hW
  obtain ⟨p, q, hA0, hV, rfl, hfz, hnd⟩ := hW
  have hsz : (DataW.weightsEach Try.prog (Try.f5.params.toList ++ Rows.inqEndsSpec.plain.varTypes Try.prog) (ds ++ gs)).all (· ≤ reachBytes) = true := hsz0
  have hA : DataW.TrodAll enc Try.prog W 0 (fun _ => true) true Try.f5.params.toList args.toList ds p := hA0
  rw [Try.params5] at hA hval hsz
  obtain ⟨v0, vs0, d0, ds0, p0, q0, hargs, rfl, rfl, h0, r0⟩ := trodAll_cons hA
  obtain ⟨v1, vs1, d1, ds1, p1, q1, rfl, rfl, rfl, h1, r1⟩ := trodAll_cons r0
  obtain ⟨v2, vs2, d2, ds2, p2, q2, rfl, rfl, rfl, h2, r2⟩ := trodAll_cons r1
  obtain ⟨v3, vs3, d3, ds3, p3, q3, rfl, rfl, rfl, h3, r3⟩ := trodAll_cons r2
  obtain ⟨rfl, rfl, rfl⟩ := trodAll_nil r3
  obtain rfl : args = #[v0, v1, v2, v3] := by cases args; simp_all
  obtain ⟨rfl, rfl⟩ := trodVars_none hV
  obtain ⟨a0, rfl, rfl, rfl, w0⟩ := open_int Try.underlying3 (hval 0 3 v0 rfl rfl) h0
  obtain ⟨a1, len1, cap1, rfl⟩ := okWide_slice Try.underlying24 (hval 1 24 v1 rfl rfl)
  have k1 := h1
  have lt1 : ∀ x ∈ p1, x.block < W.heap.size := by obtain ⟨m, hm⟩ := k1; exact DataW.trod_lt m _ _ _ hm
  obtain ⟨z1, w1⟩ : ∃ zs, IsRow .u8 W a1 len1 cap1 zs := by
    obtain ⟨fuel, hf⟩ := h1
    exact open_brow hf
  obtain ⟨a2, len2, cap2, rfl⟩ := okWide_slice Try.underlying24 (hval 2 24 v2 rfl rfl)
  have k2 := h2
  have lt2 : ∀ x ∈ p2, x.block < W.heap.size := by obtain ⟨m, hm⟩ := k2; exact DataW.trod_lt m _ _ _ hm
  obtain ⟨z2, w2⟩ : ∃ zs, IsRow .u8 W a2 len2 cap2 zs := by
    obtain ⟨fuel, hf⟩ := h2
    exact open_brow hf
  obtain ⟨a3, rfl, rfl, rfl, w3⟩ := open_int Try.underlying3 (hval 3 3 v3 rfl rfl) h3
  clear hA0 hval0 hsz hsz0
  refine (walk a0 a1 len1 cap1 z1 a2 len2 cap2 z2 a3 W w0 w1 w2 w3).mono fun e W' ⟨he, bel⟩ => ?_
  subst he
  exact ⟨_, rfl, _, _, _, [], _, [], hW', trodAll_mk1 (shut_bool Try.underlying4 _), (trodAll_cons_mk (shut_int Try.underlying3 w0) (trodAll_cons_mk (Below.trod laidOut (by kernel_rfl) (of_decide_eq_true (by kernel_rfl)) k1 bel lt1) (trodAll_cons_mk (Below.trod laidOut (by kernel_rfl) (of_decide_eq_true (by kernel_rfl)) k2 bel lt2) (trodAll_cons_mk (shut_int Try.underlying3 w3) trodAll_mk0)))), rfl, bel.frame _, fun h => by cases h⟩

theorem over : Rows.inqEndsRow.holds Try.pinned (OpenSpec.ofChange Rows.inqEndsSpec) :=
  OpenClaim.holds_of_wide 5 Try.f5 rfl rfl rfl rfl rfl rfl rfl ⟨rfl, rfl, rfl, rfl, rfl⟩ rfl rfl rfl rfl rfl (by kernel_rfl) Try.func5 (by kernel_rfl)
    (of_decide_eq_true (by kernel_rfl)) (by unfold Func.isWrapper; first | (rw [if_pos (by decide +kernel)]; kernel_rfl) | (rw [if_neg (by decide +kernel)]; exact ⟨rfl, rfl⟩))
    (fun os started H enc _ => lifted os started H enc)

end Go.Proofs.Ytanloclkbdameaa.inqEnds
namespace Go.Proofs.Ytanloclkbdameaa
theorem inqEnds_holds : Rows.InqEndsSaid := inqEnds.over
#print axioms inqEnds_holds
end Go.Proofs.Ytanloclkbdameaa
