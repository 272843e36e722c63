/- FloorActs: for every input the law answers true, and its arguments read as before. Conditions: none. -/
import Derived.Test.YtoohlingoklaaaaFos
import Derived.Test.YtoohlingoklaaaaInc
import Derived.Deep.RegionHeld
namespace Go.Proofs.Ytoohlingoklaaaa.floorActs
open Go.ChangeShapes Go.WideShapes Go.ChangeAt Go.RowKit
/-- both have done the same -/
def Same (N base : Nat) (w0 w : World) (g gm : Nat) : Prop := ∃ F2 M2 s2, FOk N s2 ∧ TM base w0 w F2 g s2 M2 gm s2

set_option maxRecDepth 100000 in
set_option maxHeartbeats 4000000 in
theorem walk (a0 : Int) (a1 : Option Addr) (len1 cap1 : Nat) (K1 I1 R1 : Nat → Int) (w : World) (w0 : (Lit.int .i64 a0).wf = true) (w1 : Facts w w.heap.size a1 len1 K1 I1 R1) (g1 : len1 ≤ cap1 ∧ cap1 ≤ maxLen) :
    Calls Try.prog 3 #[.int .i64 a0, .slice a1 len1 cap1] w fun e w' => e = .returned (.bool true) ∧ Below w.heap.size w w' := by
  have HW1 := Lib.hid w1
  have hm1 : len1 ≤ 9223372036854775807 := by have := g1.1; have := g1.2; unfold maxLen at this; omega
  have HA0 := Lib.hid w0
  clear w0 w1 g1 HA0
  go_enter Try.func3, Try.ntmps3
  go_wp2_with fail
  refine (fhead_any w).mono ?_
  rintro e wa ⟨rfl, hb1⟩
  have HB1 := Lib.hid hb1
  clear hb1
  by_cases hlen : 150 < len1
  · have hd : decide (150 < (len1 : Int)) = true := by simp; omega
    go_wp2
    go_ret
    exact ⟨rfl, HB1.out⟩
  · have hd : decide (150 < (len1 : Int)) = false := by simp; omega
    have hl1 : len1 ≤ 150 := by omega
    clear hlen
    go_wp2_with fail
    refine (tnew_any a0 wa).mono ?_
    rintro e wb ⟨F, g, rfl, ht, hF, hb2⟩
    have HT1 := Lib.hid (TB.new HB1.out HB1.out.size ht hF hb2)
    clear ht hF hb2 HB1
    go_wp2_with fail
    refine (mnew_any a0 wb).mono ?_
    rintro e wc ⟨M, gm, rfl, hM, hMl, hb3⟩
    have HT2 := Lib.hid (show TM w.heap.size w wc F g (fnew a0) M gm (fnew a0) from
      ⟨HT1.out.keep (only_of_below hb3) (fun _ _ h => h) (fun _ h => h.elim), hM, fun b hb hMb => by have := HT1.out.tab.lt b hb; have := hMl b hMb; omega, fun b hb => Nat.le_trans HT1.out.hs (hMl b hb)⟩)
    clear hM hMl hb3 HT1
    go_wp2_with fail
    go_loopw [22] (fun i wr => ∃ k : Nat, k ≤ len1 ∧ i = .int .i64 (k : Nat) ∧ Same k w.heap.size w wr g gm) (fun i _ => len1 - (intOf i).toNat)
    case atStart => exact ⟨0, by omega, rfl, F, M, fnew a0, fok_new a0, HT2.out⟩
    case round =>
      obtain ⟨k, hk, rfl, F1, M1, s, hok, ht⟩ := hrel
      have HT := Lib.hid ht
      have HK := Lib.hid hok
      clear ht hok HT2
      by_cases hlt : k < len1
      · obtain ⟨b, off, rfl, hbB, hc⟩ := (HW1.out.below HT.out.tb.bel).outer (by omega)
        obtain ⟨hc0, hc1, hc2⟩ := hc k hlt
        obtain ⟨hwk, hwi, hwr⟩ := HW1.out.inner k hlt
        clear hc
        obtain ⟨K, hK⟩ : ∃ K, K1 k = K := ⟨_, rfl⟩
        obtain ⟨I, hI⟩ : ∃ I, I1 k = I := ⟨_, rfl⟩
        obtain ⟨R, hR⟩ : ∃ R, R1 k = R := ⟨_, rfl⟩
        rw [hK] at hc0 hwk
        rw [hI] at hc1 hwi
        rw [hR] at hc2 hwr
        have HWI := Lib.hid hwi
        have HWR := Lib.hid hwr
        clear hK hI hR hwk hwi hwr
        obtain ⟨r, hr15, hand⟩ := and15 K
        go_upto_region 12 with fail
        have HX := Lib.hid (Bx.new wr _ rfl #[.int .i64 K, .int .i64 I, .int .i64 R] 29)
        have HT3 := Lib.hid (HT.out.alloc (.cells #[.int .i64 K, .int .i64 I, .int .i64 R] 29))
        have HF := Lib.hid (show ∀ b, F1 b → ¬ b = wr.heap.size from fun b hb e => by have := HT.out.tb.tab.lt b hb; omega)
        have HM := Lib.hid (show ∀ b, M1 b → ¬ b = wr.heap.size from fun b hb e => by have := HT.out.md.lt b hb; omega)
        generalize wr.alloc (.cells #[.int .i64 K, .int .i64 I, .int .i64 R] 29) = w3 at *
        generalize wr.heap.size = ga at *
        have hx0 := HX.out.cell 0 (.int .i64 K) rfl
        have hx1 := HX.out.cell 1 (.int .i64 I) rfl
        clear hc0 hc1 hc2 HT
        have HTd := Lib.hid HT3.out.drew
        have HXd := Lib.hid (HX.out.keep ((Only.refl (fun _ => False) w3).drew) (fun h => h))
        have hk150 : k ≤ 150 := by omega
        clear hbB
        rcases (show r = 0 ∨ r = 1 ∨ r = 2 ∨ r = 3 ∨ r = 4 ∨ r = 5 ∨ r = 6 ∨ r = 7 ∨ r = 8 ∨ r = 9 ∨ 10 ≤ r by omega) with rfl | rfl | rfl | rfl | rfl | rfl | rfl | rfl | rfl | rfl | h10
        · go_wp2_with fail
          go_region_held (fun w' => w'.cell? ⟨ga, 1, none⟩ = some (.int .i64 I)) (first | go_keep | exact HXb.out.cell 1 _ rfl | exact HXa.out.cell 1 _ rfl)
            (first
              | (go_at_call 10; refine (tjoin_any HTd.out.tb.tab HK.out (by omega) I R HWI.out HWR.out).mono ?_; intro e w5 hg; obtain ⟨F5, rfl, h5, hO5⟩ := HTd.out.step hg; have HT5 := Lib.hid h5; have HXa := Lib.hid (HXd.out.keep hO5 (fun hb => HF.out _ hb rfl)); clear hg h5 hO5)
              | (go_at_call 11; obtain ⟨bm, la, n, c, hmd⟩ := HT5.out.md; refine (mjoin_any hmd HK.out (by omega) I R HWI.out HWR.out).mono ?_; intro e w6 hg; obtain ⟨M6, rfl, h6, hO6⟩ := HT5.out.mstep hg; have HT6 := Lib.hid h6; have HXb := Lib.hid (HXa.out.keep hO6 (fun hb => HM.out _ hb rfl)); clear hg h6 hO6 hmd)
              | fail)
          all_goals
            have HK5 := Lib.hid (HK.out.join R (wf64_bounds HWI.out).2)
            clear HT3 HX HF HM HK hx0 hx1
            go_wp2_with fail
            refine (mshows_any HT6.out HK5.out (by omega)).mono ?_
            rintro e w7 ⟨rfl, F7, ht7⟩
            have HT7 := Lib.hid ht7
            clear ht7
            go_wp2
            go_roundw
            case rel => exact ⟨k + 1, by omega, by go_num, F7, M6, _, HK5.out, HT7.out⟩
            case measure => simp [intOf]; omega
        · go_wp2_with fail
          go_region_held (fun w' => w'.cell? ⟨ga, 1, none⟩ = some (.int .i64 I)) (first | go_keep | exact HXb.out.cell 1 _ rfl | exact HXa.out.cell 1 _ rfl)
            (first
              | (go_at_call 10; refine (tjoin_any HTd.out.tb.tab HK.out (by omega) I R HWI.out HWR.out).mono ?_; intro e w5 hg; obtain ⟨F5, rfl, h5, hO5⟩ := HTd.out.step hg; have HT5 := Lib.hid h5; have HXa := Lib.hid (HXd.out.keep hO5 (fun hb => HF.out _ hb rfl)); clear hg h5 hO5)
              | (go_at_call 11; obtain ⟨bm, la, n, c, hmd⟩ := HT5.out.md; refine (mjoin_any hmd HK.out (by omega) I R HWI.out HWR.out).mono ?_; intro e w6 hg; obtain ⟨M6, rfl, h6, hO6⟩ := HT5.out.mstep hg; have HT6 := Lib.hid h6; have HXb := Lib.hid (HXa.out.keep hO6 (fun hb => HM.out _ hb rfl)); clear hg h6 hO6 hmd)
              | fail)
          all_goals
            have HK5 := Lib.hid (HK.out.join R (wf64_bounds HWI.out).2)
            clear HT3 HX HF HM HK hx0 hx1
            go_wp2_with fail
            refine (mshows_any HT6.out HK5.out (by omega)).mono ?_
            rintro e w7 ⟨rfl, F7, ht7⟩
            have HT7 := Lib.hid ht7
            clear ht7
            go_wp2
            go_roundw
            case rel => exact ⟨k + 1, by omega, by go_num, F7, M6, _, HK5.out, HT7.out⟩
            case measure => simp [intOf]; omega
        · go_wp2_with fail
          go_region_held (fun w' => w'.cell? ⟨ga, 1, none⟩ = some (.int .i64 I)) (first | go_keep | exact HXb.out.cell 1 _ rfl | exact HXa.out.cell 1 _ rfl)
            (first
              | (go_at_call 12; refine (tleave_any HTd.out.tb.tab HK.out (by omega) I HWI.out).mono ?_; intro e w5 hg; obtain ⟨F5, rfl, h5, hO5⟩ := HTd.out.step hg; have HT5 := Lib.hid h5; have HXa := Lib.hid (HXd.out.keep hO5 (fun hb => HF.out _ hb rfl)); clear hg h5 hO5)
              | (go_at_call 13; obtain ⟨bm, la, n, c, hmd⟩ := HT5.out.md; refine (mleave_any hmd HK.out (by omega) I HWI.out).mono ?_; intro e w6 hg; obtain ⟨M6, rfl, h6, hO6⟩ := HT5.out.mstep hg; have HT6 := Lib.hid h6; have HXb := Lib.hid (HXa.out.keep hO6 (fun hb => HM.out _ hb rfl)); clear hg h6 hO6 hmd)
              | fail)
          all_goals
            have HK5 := Lib.hid ((HK.out.leave I).mono (Nat.le_succ k))
            clear HT3 HX HF HM HK hx0 hx1
            go_wp2_with fail
            refine (mshows_any HT6.out HK5.out (by omega)).mono ?_
            rintro e w7 ⟨rfl, F7, ht7⟩
            have HT7 := Lib.hid ht7
            clear ht7
            go_wp2
            go_roundw
            case rel => exact ⟨k + 1, by omega, by go_num, F7, M6, _, HK5.out, HT7.out⟩
            case measure => simp [intOf]; omega
        · go_wp2_with fail
          go_region_held (fun w' => w'.cell? ⟨ga, 1, none⟩ = some (.int .i64 I)) (first | go_keep | exact HXb.out.cell 1 _ rfl | exact HXa.out.cell 1 _ rfl)
            (first
              | (go_at_call 14; refine (tset_any HTd.out.tb.tab HK.out (by omega) I R HWI.out HWR.out).mono ?_; intro e w5 hg; obtain ⟨F5, rfl, h5, hO5⟩ := HTd.out.step hg; have HT5 := Lib.hid h5; have HXa := Lib.hid (HXd.out.keep hO5 (fun hb => HF.out _ hb rfl)); clear hg h5 hO5)
              | (go_at_call 15; obtain ⟨bm, la, n, c, hmd⟩ := HT5.out.md; refine (mset_any hmd HK.out (by omega) I R HWI.out HWR.out).mono ?_; intro e w6 hg; obtain ⟨M6, rfl, h6, hO6⟩ := HT5.out.mstep hg; have HT6 := Lib.hid h6; have HXb := Lib.hid (HXa.out.keep hO6 (fun hb => HM.out _ hb rfl)); clear hg h6 hO6 hmd)
              | fail)
          all_goals
            have HK5 := Lib.hid ((HK.out.set I R).mono (Nat.le_succ k))
            clear HT3 HX HF HM HK hx0 hx1
            go_wp2_with fail
            refine (mshows_any HT6.out HK5.out (by omega)).mono ?_
            rintro e w7 ⟨rfl, F7, ht7⟩
            have HT7 := Lib.hid ht7
            clear ht7
            go_wp2
            go_roundw
            case rel => exact ⟨k + 1, by omega, by go_num, F7, M6, _, HK5.out, HT7.out⟩
            case measure => simp [intOf]; omega
        · go_wp2_with fail
          go_region_held (fun w' => w'.cell? ⟨ga, 1, none⟩ = some (.int .i64 I)) (first | go_keep | exact HXb.out.cell 1 _ rfl | exact HXa.out.cell 1 _ rfl)
            (first
              | (go_at_call 16; refine (task_any HTd.out.tb.tab HK.out (by omega) I HWI.out).mono ?_; intro e w5 hg; obtain ⟨F5, rfl, h5, hO5⟩ := HTd.out.step hg; have HT5 := Lib.hid h5; have HXa := Lib.hid (HXd.out.keep hO5 (fun hb => HF.out _ hb rfl)); clear hg h5 hO5)
              | (go_at_call 17; obtain ⟨bm, la, n, c, hmd⟩ := HT5.out.md; refine (mask_any hmd HK.out (by omega) I HWI.out).mono ?_; intro e w6 hg; obtain ⟨M6, rfl, h6, hO6⟩ := HT5.out.mstep hg; have HT6 := Lib.hid h6; have HXb := Lib.hid (HXa.out.keep hO6 (fun hb => HM.out _ hb rfl)); clear hg h6 hO6 hmd)
              | fail)
          all_goals
            have HK5 := Lib.hid (HK.out.ask I)
            clear HT3 HX HF HM HK hx0 hx1
            go_wp2_with fail
            refine (mshows_any HT6.out HK5.out (by omega)).mono ?_
            rintro e w7 ⟨rfl, F7, ht7⟩
            have HT7 := Lib.hid ht7
            clear ht7
            go_wp2
            go_roundw
            case rel => exact ⟨k + 1, by omega, by go_num, F7, M6, _, HK5.out, HT7.out⟩
            case measure => simp [intOf]; omega
        · go_wp2_with fail
          go_region_held (fun w' => w'.cell? ⟨ga, 1, none⟩ = some (.int .i64 I)) (first | go_keep | exact HXb.out.cell 1 _ rfl | exact HXa.out.cell 1 _ rfl)
            (first
              | (go_at_call 16; refine (task_any HTd.out.tb.tab HK.out (by omega) I HWI.out).mono ?_; intro e w5 hg; obtain ⟨F5, rfl, h5, hO5⟩ := HTd.out.step hg; have HT5 := Lib.hid h5; have HXa := Lib.hid (HXd.out.keep hO5 (fun hb => HF.out _ hb rfl)); clear hg h5 hO5)
              | (go_at_call 17; obtain ⟨bm, la, n, c, hmd⟩ := HT5.out.md; refine (mask_any hmd HK.out (by omega) I HWI.out).mono ?_; intro e w6 hg; obtain ⟨M6, rfl, h6, hO6⟩ := HT5.out.mstep hg; have HT6 := Lib.hid h6; have HXb := Lib.hid (HXa.out.keep hO6 (fun hb => HM.out _ hb rfl)); clear hg h6 hO6 hmd)
              | fail)
          all_goals
            have HK5 := Lib.hid (HK.out.ask I)
            clear HT3 HX HF HM HK hx0 hx1
            go_wp2_with fail
            refine (mshows_any HT6.out HK5.out (by omega)).mono ?_
            rintro e w7 ⟨rfl, F7, ht7⟩
            have HT7 := Lib.hid ht7
            clear ht7
            go_wp2
            go_roundw
            case rel => exact ⟨k + 1, by omega, by go_num, F7, M6, _, HK5.out, HT7.out⟩
            case measure => simp [intOf]; omega
        · go_wp2_with fail
          go_region_held (fun w' => w'.cell? ⟨ga, 1, none⟩ = some (.int .i64 I)) (first | go_keep | exact HXb.out.cell 1 _ rfl | exact HXa.out.cell 1 _ rfl)
            (first
              | (go_at_call 16; refine (task_any HTd.out.tb.tab HK.out (by omega) I HWI.out).mono ?_; intro e w5 hg; obtain ⟨F5, rfl, h5, hO5⟩ := HTd.out.step hg; have HT5 := Lib.hid h5; have HXa := Lib.hid (HXd.out.keep hO5 (fun hb => HF.out _ hb rfl)); clear hg h5 hO5)
              | (go_at_call 17; obtain ⟨bm, la, n, c, hmd⟩ := HT5.out.md; refine (mask_any hmd HK.out (by omega) I HWI.out).mono ?_; intro e w6 hg; obtain ⟨M6, rfl, h6, hO6⟩ := HT5.out.mstep hg; have HT6 := Lib.hid h6; have HXb := Lib.hid (HXa.out.keep hO6 (fun hb => HM.out _ hb rfl)); clear hg h6 hO6 hmd)
              | fail)
          all_goals
            have HK5 := Lib.hid (HK.out.ask I)
            clear HT3 HX HF HM HK hx0 hx1
            go_wp2_with fail
            refine (mshows_any HT6.out HK5.out (by omega)).mono ?_
            rintro e w7 ⟨rfl, F7, ht7⟩
            have HT7 := Lib.hid ht7
            clear ht7
            go_wp2
            go_roundw
            case rel => exact ⟨k + 1, by omega, by go_num, F7, M6, _, HK5.out, HT7.out⟩
            case measure => simp [intOf]; omega
        · go_wp2_with fail
          go_region_held (fun w' => w'.cell? ⟨ga, 1, none⟩ = some (.int .i64 I)) (first | go_keep | exact HXb.out.cell 1 _ rfl | exact HXa.out.cell 1 _ rfl)
            (first
              | (go_at_call 18; refine (tdrop_any HTd.out.tb.tab HK.out (by omega) I HWI.out).mono ?_; intro e w5 hg; obtain ⟨F5, rfl, h5, hO5⟩ := HTd.out.step hg; have HT5 := Lib.hid h5; have HXa := Lib.hid (HXd.out.keep hO5 (fun hb => HF.out _ hb rfl)); clear hg h5 hO5)
              | (go_at_call 19; obtain ⟨bm, la, n, c, hmd⟩ := HT5.out.md; refine (mdrop_any hmd HK.out (by omega) I HWI.out).mono ?_; intro e w6 hg; obtain ⟨M6, rfl, h6, hO6⟩ := HT5.out.mstep hg; have HT6 := Lib.hid h6; have HXb := Lib.hid (HXa.out.keep hO6 (fun hb => HM.out _ hb rfl)); clear hg h6 hO6 hmd)
              | fail)
          all_goals
            have HK5 := Lib.hid ((HK.out.drop I).mono (Nat.le_succ k))
            clear HT3 HX HF HM HK hx0 hx1
            go_wp2_with fail
            refine (mshows_any HT6.out HK5.out (by omega)).mono ?_
            rintro e w7 ⟨rfl, F7, ht7⟩
            have HT7 := Lib.hid ht7
            clear ht7
            go_wp2
            go_roundw
            case rel => exact ⟨k + 1, by omega, by go_num, F7, M6, _, HK5.out, HT7.out⟩
            case measure => simp [intOf]; omega
        · go_wp2_with fail
          go_region_held (fun w' => w'.cell? ⟨ga, 1, none⟩ = some (.int .i64 I)) (first | go_keep | exact HXb.out.cell 1 _ rfl | exact HXa.out.cell 1 _ rfl)
            (first
              | (go_at_call 20; refine (tgive_any HTd.out.tb.tab HK.out (by omega) I HWI.out).mono ?_; intro e w5 hg; obtain ⟨F5, rfl, h5, hO5⟩ := HTd.out.step hg; have HT5 := Lib.hid h5; have HXa := Lib.hid (HXd.out.keep hO5 (fun hb => HF.out _ hb rfl)); clear hg h5 hO5)
              | (go_at_call 21; obtain ⟨bm, la, n, c, hmd⟩ := HT5.out.md; refine (mgive_any hmd HK.out (by omega) I HWI.out).mono ?_; intro e w6 hg; obtain ⟨M6, rfl, h6, hO6⟩ := HT5.out.mstep hg; have HT6 := Lib.hid h6; have HXb := Lib.hid (HXa.out.keep hO6 (fun hb => HM.out _ hb rfl)); clear hg h6 hO6 hmd)
              | fail)
          all_goals
            have HK5 := Lib.hid (HK.out.give I)
            clear HT3 HX HF HM HK hx0 hx1
            go_wp2_with fail
            refine (mshows_any HT6.out HK5.out (by omega)).mono ?_
            rintro e w7 ⟨rfl, F7, ht7⟩
            have HT7 := Lib.hid ht7
            clear ht7
            go_wp2
            go_roundw
            case rel => exact ⟨k + 1, by omega, by go_num, F7, M6, _, HK5.out, HT7.out⟩
            case measure => simp [intOf]; omega
        · go_wp2_with fail
          refine (trev_any HT3.out.tb.tab HK.out (by omega)).mono ?_
          intro e w5 hg
          obtain ⟨F5, rfl, h5, hO5⟩ := HT3.out.step hg
          have HT5 := Lib.hid h5
          clear hg h5 hO5
          obtain ⟨bm, la, n, c, hmd⟩ := HT5.out.md
          go_wp2_with fail
          refine (mrev_any hmd (by have := hmd.len; have := HK.out.ln; omega)).mono ?_
          intro e w6 hg
          obtain ⟨M6, rfl, h6, hO6⟩ := HT5.out.mstep hg
          have HT6 := Lib.hid h6
          clear hg h6 hO6 hmd
          have HK5 := Lib.hid (HK.out.rev.mono (Nat.le_succ k))
          clear HT3 HX HF HM HK hx0 hx1
          go_wp2_with fail
          refine (mshows_any HT6.out HK5.out (by omega)).mono ?_
          rintro e w7 ⟨rfl, F7, ht7⟩
          have HT7 := Lib.hid ht7
          clear ht7
          go_wp2
          go_roundw
          case rel => exact ⟨k + 1, by omega, by go_num, F7, M6, _, HK5.out, HT7.out⟩
          case measure => simp [intOf]; omega
        · go_wp2_with fail
          refine (ttick_any HT3.out.tb.tab HK.out (by omega)).mono ?_
          intro e w5 hg
          obtain ⟨F5, rfl, h5, hO5⟩ := HT3.out.step hg
          have HT5 := Lib.hid h5
          clear hg h5 hO5
          obtain ⟨bm, la, n, c, hmd⟩ := HT5.out.md
          go_wp2_with fail
          refine (mtick_any hmd HK.out (by have := hmd.len; have := HK.out.ln; omega)).mono ?_
          intro e w6 hg
          obtain ⟨M6, rfl, h6, hO6⟩ := HT5.out.mstep hg
          have HT6 := Lib.hid h6
          clear hg h6 hO6 hmd
          have HK5 := Lib.hid (HK.out.tick.mono (Nat.le_succ k))
          clear HT3 HX HF HM HK hx0 hx1
          go_wp2_with fail
          refine (mshows_any HT6.out HK5.out (by omega)).mono ?_
          rintro e w7 ⟨rfl, F7, ht7⟩
          have HT7 := Lib.hid ht7
          clear ht7
          go_wp2
          go_roundw
          case rel => exact ⟨k + 1, by omega, by go_num, F7, M6, _, HK5.out, HT7.out⟩
          case measure => simp [intOf]; omega
      · obtain rfl : k = len1 := by omega
        go_wp2
        go_ret
        exact ⟨rfl, HT.out.tb.bel⟩

set_option maxRecDepth 100000 in
theorem lifted (os : Os) (started : os.Started) (H : Type) (enc : TypeId × Value → H) :
    ReturnsInHanded {} Try.checked os 3 .any (Rows.floorActsSpec.pre6 enc Try.prog Try.f3 Rows.floorActsRow.domain false) (Rows.floorActsSpec.post enc Try.prog Try.f3 false true false false) := by
  refine returnsInHanded_of_change_sized (C := Try.checked) own started (by kernel_rfl) Try.func3
    (ChangeSpec.witness6 (enc := enc) (C := Try.checked) false ⟨#[], #[.int .i64 0, .slice none 0 0], []⟩ 8 (by kernel_rfl) (by kernel_rfl) (by kernel_rfl) (by kernel_rfl)) ?_
  intro W base args ds gs before hval0 hW hcnd hsz0 _
  have hval : ∀ (j : Nat) t v, Try.f3.params[j]? = some t → args[j]? = some v → Value.okWide Try.prog W .any base t v := hval0
  have hW' := hW
  obtain ⟨p, q, hA0, hV, rfl, hfz, hnd⟩ := hW
  have hsz : (DataW.weightsEach Try.prog (Try.f3.params.toList ++ Rows.floorActsSpec.plain.varTypes Try.prog) (ds ++ gs)).all (· ≤ reachBytes) = true := hsz0
  have hA : DataW.TrodAll enc Try.prog W 0 (fun _ => true) true Try.f3.params.toList args.toList ds p := hA0
  rw [Try.params3] at hA hval hsz
  obtain ⟨v0, vs0, d0, ds0, p0, q0, hargs, rfl, rfl, h0, r0⟩ := trodAll_cons hA
  obtain ⟨v1, vs1, d1, ds1, p1, q1, rfl, rfl, rfl, h1, r1⟩ := trodAll_cons r0
  obtain ⟨rfl, rfl, rfl⟩ := trodAll_nil r1
  obtain rfl : args = #[v0, v1] := by cases args; simp_all
  obtain ⟨rfl, rfl⟩ := trodVars_none hV
  obtain ⟨a0, rfl, rfl, rfl, w0⟩ := open_int Try.underlying3 (hval 0 3 v0 rfl rfl) h0
  obtain ⟨a1, len1, cap1, rfl⟩ := okWide_slice Try.underlying22 (hval 1 22 v1 rfl rfl)
  have k1 := h1
  have lt1 : ∀ x ∈ p1, x.block < W.heap.size := by obtain ⟨m, hm⟩ := k1; exact DataW.trod_lt m _ _ _ hm
  obtain ⟨K1, I1, R1, w1, g1⟩ : ∃ K I R, Facts W W.heap.size a1 len1 K I R ∧ len1 ≤ cap1 ∧ cap1 ≤ maxLen := by
    obtain ⟨fuel, hf⟩ := h1
    exact open_facts hf
  clear hA0 hval0 hsz hsz0
  refine (walk a0 a1 len1 cap1 K1 I1 R1 W w0 w1 g1).mono fun e W' ⟨he, bel⟩ => ?_
  subst he
  exact ⟨_, rfl, _, _, _, [], _, [], hW', trodAll_mk1 (shut_bool Try.underlying4 _), (trodAll_cons_mk (shut_int Try.underlying3 w0) (trodAll_cons_mk (Below.trod laidOut (by kernel_rfl) (of_decide_eq_true (by kernel_rfl)) k1 bel lt1) trodAll_mk0)), rfl, bel.frame _, fun h => by cases h⟩

theorem over : Rows.floorActsRow.holds Try.pinned (OpenSpec.ofChange Rows.floorActsSpec) :=
  OpenClaim.holds_of_wide 3 Try.f3 rfl rfl rfl rfl rfl rfl rfl ⟨rfl, rfl, rfl, rfl, rfl⟩ rfl rfl rfl rfl rfl (by kernel_rfl) Try.func3 (by kernel_rfl)
    (of_decide_eq_true (by kernel_rfl)) (by unfold Func.isWrapper; first | (rw [if_pos (by decide +kernel)]; kernel_rfl) | (rw [if_neg (by decide +kernel)]; exact ⟨rfl, rfl⟩))
    (fun os started H enc _ => lifted os started H enc)

end Go.Proofs.Ytoohlingoklaaaa.floorActs
namespace Go.Proofs.Ytoohlingoklaaaa
theorem floorActs_holds : Rows.FloorActsSaid := floorActs.over
#print axioms floorActs_holds
end Go.Proofs.Ytoohlingoklaaaa
