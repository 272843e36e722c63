/- OutqWhole: for every input the law answers true, and its arguments read as before. Conditions: none. -/
import Derived.Test.YtlifnjihnppckaaOuth
import Derived.Test.YtlifnjihnppckaaIns
import Derived.Deep.DeepCutAuto
import Derived.Deep.RegionHeld
namespace Go.Proofs.Ytlifnjihnppckaa.outqWhole
open Go.ChangeShapes Go.WideShapes Go.ChangeAt Go.RowKit
set_option maxRecDepth 100000 in
set_option maxHeartbeats 2000000 in
theorem walk (a0 : Option Addr) (len0 cap0 : Nat) (A0 : Nat → Option Addr) (L0 C0 : Nat → Nat) (T0 : Nat → Bs) (a1 : Option Addr) (len1 cap1 : Nat) (z1 : List Int) (w : World) (w0 : Pcs w w.heap.size a0 len0 A0 L0 C0 T0) (g0 : len0 ≤ cap0 ∧ cap0 ≤ maxLen) (w1 : IsRow .i64 w a1 len1 cap1 z1) :
    Calls Try.prog 7 #[.slice a0 len0 cap0, .slice a1 len1 cap1] w fun e w' => e = .returned (.bool true) ∧ Below w.heap.size w w' := by
  have HW0 := Lib.hid w0
  have HW1 := Lib.hid w1
  have hmax0 : len0 ≤ 9223372036854775807 := by have := g0.1; have := g0.2; unfold maxLen at this; omega
  have hmax1 : len1 ≤ 9223372036854775807 := by have h := w1.cap; unfold maxLen at h; omega
  clear w0 w1 g0
  by_cases hlen : 60 < len0 ∨ 60 < len1
  · rcases hlen with hlen | hlen
    all_goals
      go_enter Try.func7, Try.ntmps7
      go_wp2_with fail
      refine (ohead_any w).mono ?_
      rintro e w1 ⟨rfl, hb1⟩
      go_wp2
      all_goals
        go_ret
        exact ⟨rfl, hb1⟩
  · have hl0 : len0 ≤ 60 := by omega
    have hl1 : len1 ≤ 60 := by omega
    have hd0 : decide (60 < (len0 : Int)) = false := by simp; omega
    have hd1 : decide (60 < (len1 : Int)) = false := by simp; omega
    clear hlen
    go_enter Try.func7, Try.ntmps7
    go_wp2_with fail
    refine (ohead_any w).mono ?_
    rintro e w1 ⟨rfl, hb1⟩
    have HB1 := Lib.hid hb1
    clear hb1
    go_wp2_with fail
    refine (qu_new 65536 w1).mono ?_
    rintro e w2 ⟨rfl, hq2, hb2⟩
    rw [show sizeOf' 65536 = 65536 by decide] at hq2
    have HQ2 := Lib.hid (hq2.mono HB1.out.size (Nat.le_refl _))
    have HB2 := Lib.hid (Below.trans HB1.out (hb2.mono HB1.out.size))
    generalize w1.heap.size = g at *
    clear hq2 hb2 HB1
    go_wp2
    go_loopw [6, 25] (fun s6 i wr => ∃ (k : Nat) (h : Bs), k ≤ len0 ∧ i = .int .i64 k ∧ s6 = .string (str h) ∧ h.length ≤ 200 * k ∧ Qu w.heap.size wr.heap.size wr g 65536 h ∧ Below w.heap.size w wr) (fun _ i _ => len0 - (intOf i).toNat)
    case atStart => exact ⟨0, [], by omega, rfl, rfl, by simp, HQ2.out, HB2.out⟩
    case round =>
      obtain ⟨k, h, hk, rfl, rfl, hlh, hq, hb⟩ := hrel
      have hsz := hb.size
      have HQ := Lib.hid hq
      have HB := Lib.hid hb
      have hss := str_size h
      clear hq hb HB2 HQ2
      by_cases hlt : k < len0
      · obtain ⟨b, off, rfl, hbB, hc⟩ := (HW0.out.below HB.out).outer (by omega)
        have hc0 := hc k hlt
        have HIn := Lib.hid ((HW0.out.below HB.out).inner k hlt).1
        have hLr : L0 k ≤ 140737488355328 := by have := (HW0.out.inner k hlt).2; unfold most at this; omega
        clear hc
        by_cases hbig : 200 < L0 k
        · have hd2 : decide (200 < (L0 k : Int)) = true := by simp; omega
          go_wp2
          go_ret
          exact ⟨by simp, HB.out⟩
        · have hd2 : decide (200 < (L0 k : Int)) = false := by simp; omega
          go_wp2_with fail
          refine (qu_put_yes HQ.out (C0 k) HIn.out (by omega)).mono ?_
          rintro e w3 ⟨rfl, hq3, ho3⟩
          have hbl := zone_below ho3 hsz (Nat.le_refl _)
          have HI3 := Lib.hid (HIn.out.below hbl)
          have HB3 := Lib.hid (Below.trans HB.out hbl)
          have HQ3 := Lib.hid hq3
          have hcv := conv_str (cap := C0 k) HI3.out
          have htl := HI3.out.1
          have hst : (str (T0 k)).size = L0 k := by rw [str_size, htl]
          have hsum : ¬ (9223372036854775807 < h.length + L0 k) := by omega
          have HT := Lib.hid htl
          clear hq3 ho3 hbl htl
          go_wp2
          go_roundw
          case rel => exact ⟨k + 1, h ++ T0 k, by omega, by go_num, by rw [str_app], by rw [List.length_append, HT.out]; omega, HQ3.out, HB3.out⟩
          case measure => simp [intOf]; omega
      · obtain rfl : k = len0 := by omega
        go_wp2
        go_loopw [9, 48] (fun s9 i wx => ∃ (j : Nat) (p q : Bs), j ≤ len1 ∧ i = .int .i64 j ∧ s9 = .string (str p) ∧ h = p ++ q ∧ Qu w.heap.size wx.heap.size wx g 65536 q ∧ Below w.heap.size w wx) (fun _ i _ => len1 - (intOf i).toNat)
        case atStart => exact ⟨0, [], h, by omega, rfl, rfl, rfl, HQ.out, HB.out⟩
        case round =>
          obtain ⟨j, p, q, hj, rfl, rfl, hpq, hq, hb⟩ := hrel
          have hsz2 := hb.size
          have HQq := Lib.hid hq
          have HBq := Lib.hid hb
          have HPQ := Lib.hid hpq
          have hsp := str_size p
          have hple : p.length ≤ 200 * k := by rw [hpq, List.length_append] at hlh; omega
          clear hq hb hpq
          by_cases hjl : j < len1
          · obtain ⟨b, off, rfl, hbB, hc⟩ := HW1.out.ints (by omega)
            have hc0 : wr.cell? ⟨b, off + j, none⟩ = some (.int .i64 (z1.getD j 0)) := (HBq.out.cell (p := ⟨b, off + j, none⟩) hbB).trans (hc j hjl)
            clear hc
            generalize z1.getD j 0 = t at hc0
            obtain ⟨r, hr, hand⟩ := and63 t
            go_wp2_with fail
            refine (qu_take HQq.out r (min r q.length) (by unfold takes; omega)).mono ?_
            rintro e w3 ⟨rfl, ho3, hq3, hO3⟩
            have hcv := conv_str (cap := min r q.length) ho3.bytes
            have HQ3 := Lib.hid hq3
            have HB3 := Lib.hid (Below.trans HBq.out (zone_below hO3 hsz2 (Nat.le_refl _)))
            clear ho3 hq3 hO3
            have hml : min r q.length ≤ q.length := Nat.min_le_right _ _
            generalize min r q.length = m at *
            have hst : (str (q.take m)).size = m := by rw [str_size, List.length_take]; omega
            have hqle : q.length ≤ 200 * k := by have := HPQ.out; rw [this, List.length_append] at hlh; omega
            have hsum : ¬ (9223372036854775807 < p.length + m) := by omega
            go_wp2
            go_roundw
            case rel => exact ⟨j + 1, p ++ q.take m, q.drop m, by omega, by go_num, by rw [str_app], by rw [List.append_assoc, List.take_append_drop]; exact HPQ.out, HQ3.out, HB3.out⟩
            case measure => simp [intOf]; omega
          · obtain rfl : j = len1 := by omega
            have hqle : q.length ≤ 200 * k := by have := HPQ.out; rw [this, List.length_append] at hlh; omega
            go_wp2_with fail
            refine (qu_take HQq.out 100000 q.length (by unfold takes; omega)).mono ?_
            rintro e w3 ⟨rfl, ho3, hq3, hO3⟩
            rw [List.take_length] at ho3
            rw [List.drop_length] at hq3
            have hcv := conv_str (cap := q.length) ho3.bytes
            have HQ3 := Lib.hid hq3
            have HB3 := Lib.hid (Below.trans HBq.out (zone_below hO3 hsz2 (Nat.le_refl _)))
            clear ho3 hq3 hO3
            have hst : (str q).size = q.length := str_size q
            have hsum : ¬ (9223372036854775807 < p.length + q.length) := by omega
            have hfin : str p ++ str q = str h := by rw [HPQ.out, str_app]
            go_wp2_with fail
            refine (qu_len HQ3.out).mono ?_
            rintro e w4 ⟨rfl, rfl⟩
            go_wp2_with fail
            refine (qu_take HQ3.out 1 0 rfl).mono ?_
            rintro e w4 ⟨rfl, ho4, hq4, hO4⟩
            have HB4 := Lib.hid (Below.trans HB3.out (zone_below hO4 HB3.out.size (Nat.le_refl _)))
            clear ho4 hq4 hO4
            go_wp2
            go_ret
            exact ⟨rfl, HB4.out⟩

set_option maxRecDepth 100000 in
theorem lifted (os : Os) (started : os.Started) (H : Type) (enc : TypeId × Value → H) :
    ReturnsInHanded {} Try.checked os 7 .any (Rows.outqWholeSpec.pre6 enc Try.prog Try.f7 Rows.outqWholeRow.domain false) (Rows.outqWholeSpec.post enc Try.prog Try.f7 false true false false) := by
  refine returnsInHanded_of_change_sized (C := Try.checked) own started (by kernel_rfl) Try.func7
    (ChangeSpec.witness6 (enc := enc) (C := Try.checked) false ⟨#[], #[.slice none 0 0, .slice none 0 0], []⟩ 8 (by kernel_rfl) (by kernel_rfl) (by kernel_rfl) (by kernel_rfl)) ?_
  intro W base args ds gs before hval0 hW hcnd hsz0 _
  have hval : ∀ (j : Nat) t v, Try.f7.params[j]? = some t → args[j]? = some v → Value.okWide Try.prog W .any base t v := hval0
  have hW' := hW
  obtain ⟨p, q, hA0, hV, rfl, hfz, hnd⟩ := hW
  have hsz : (DataW.weightsEach Try.prog (Try.f7.params.toList ++ Rows.outqWholeSpec.plain.varTypes Try.prog) (ds ++ gs)).all (· ≤ reachBytes) = true := hsz0
  have hA : DataW.TrodAll enc Try.prog W 0 (fun _ => true) true Try.f7.params.toList args.toList ds p := hA0
  rw [Try.params7] at hA hval hsz
  obtain ⟨v0, vs0, d0, ds0, p0, q0, hargs, rfl, rfl, h0, r0⟩ := trodAll_cons hA
  obtain ⟨v1, vs1, d1, ds1, p1, q1, rfl, rfl, rfl, h1, r1⟩ := trodAll_cons r0
  obtain ⟨rfl, rfl, rfl⟩ := trodAll_nil r1
  obtain rfl : args = #[v0, v1] := by cases args; simp_all
  obtain ⟨rfl, rfl⟩ := trodVars_none hV
  obtain ⟨a0, len0, cap0, rfl⟩ := okWide_slice Try.underlying22 (hval 0 22 v0 rfl rfl)
  have k0 := h0
  have lt0 : ∀ x ∈ p0, x.block < W.heap.size := by obtain ⟨m, hm⟩ := k0; exact DataW.trod_lt m _ _ _ hm
  obtain ⟨A0, L0, C0, T0, w0, g0⟩ : ∃ A L C T, Pcs W W.heap.size a0 len0 A L C T ∧ len0 ≤ cap0 ∧ cap0 ≤ maxLen := by
    obtain ⟨fuel, hf⟩ := h0
    exact open_pcs hf (fits_of hsz (j := 0) rfl rfl)
  obtain ⟨a1, len1, cap1, rfl⟩ := okWide_slice Try.underlying36 (hval 1 36 v1 rfl rfl)
  have k1 := h1
  have lt1 : ∀ x ∈ p1, x.block < W.heap.size := by obtain ⟨m, hm⟩ := k1; exact DataW.trod_lt m _ _ _ hm
  obtain ⟨z1, w1⟩ : ∃ zs, IsRow .i64 W a1 len1 cap1 zs := by
    obtain ⟨fuel, hf⟩ := h1
    exact open_row hf
  clear hA0 hval0 hsz hsz0
  refine (walk a0 len0 cap0 A0 L0 C0 T0 a1 len1 cap1 z1 W w0 g0 w1).mono fun e W' ⟨he, bel⟩ => ?_
  subst he
  exact ⟨_, rfl, _, _, _, [], _, [], hW', trodAll_mk1 (shut_bool Try.underlying4 _), (trodAll_cons_mk (Below.trod laidOut (by kernel_rfl) (of_decide_eq_true (by kernel_rfl)) k0 bel lt0) (trodAll_cons_mk (Below.trod laidOut (by kernel_rfl) (of_decide_eq_true (by kernel_rfl)) k1 bel lt1) trodAll_mk0)), rfl, bel.frame _, fun h => by cases h⟩

theorem over : Rows.outqWholeRow.holds Try.pinned (OpenSpec.ofChange Rows.outqWholeSpec) :=
  OpenClaim.holds_of_wide 7 Try.f7 rfl rfl rfl rfl rfl rfl rfl ⟨rfl, rfl, rfl, rfl, rfl⟩ rfl rfl rfl rfl rfl (by kernel_rfl) Try.func7 (by kernel_rfl)
    (of_decide_eq_true (by kernel_rfl)) (by unfold Func.isWrapper; first | (rw [if_pos (by decide +kernel)]; kernel_rfl) | (rw [if_neg (by decide +kernel)]; exact ⟨rfl, rfl⟩))
    (fun os started H enc _ => lifted os started H enc)

end Go.Proofs.Ytlifnjihnppckaa.outqWhole
namespace Go.Proofs.Ytlifnjihnppckaa
theorem outqWhole_holds : Rows.OutqWholeSaid := outqWhole.over
#print axioms outqWhole_holds
end Go.Proofs.Ytlifnjihnppckaa
