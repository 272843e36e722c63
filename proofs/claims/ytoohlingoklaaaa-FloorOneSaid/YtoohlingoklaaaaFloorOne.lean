/- FloorOne: for every input the law answers true, and its arguments read as before. Conditions: none. -/
import Derived.Test.YtoohlingoklaaaaFoh
import Derived.Test.YtoohlingoklaaaaSm
import Derived.Test.YtoohlingoklaaaaInc
import Derived.Deep.RegionHeld
import Derived.Deep.CutBlock
namespace Go.Proofs.Ytoohlingoklaaaa.floorOne
open Go.ChangeShapes Go.WideShapes Go.ChangeAt Go.RowKit
/-- so much was done to a table -/
def OneT (N base : Nat) (w0 w : World) (g : Nat) : Prop := ∃ F s, FOk N s ∧ TB base w0 w F g s

/-- .. and who holds the floor, and waits, was told, in one line -/
def OneL (N base : Nat) (w0 : World) (g gs : Nat) (s9 : Value) (wx : World) : Prop :=
  ∃ F s A n c, s9 = .slice A n c ∧ FOk N s ∧ TB base w0 wx F g s ∧ Sm gs wx [] ∧ ¬ F gs ∧ base ≤ gs ∧ Vals wx wx.heap.size A n (ints s.line) ∧ n ≤ c ∧ (0 < n → ¬ In A gs)

theorem TB.one {N base g : Nat} {w0 w w' : World} {F : Nat → Prop} {s s2 : Fl} {v : Value} {e : Ending} (h : TB base w0 w F g s) (hk : FOk N s2) (hg : TGives F g w s2 v e w') : e = .returned v ∧ OneT N base w0 w' g := by
  obtain ⟨F2, rfl, h2, _⟩ := h.step hg
  exact ⟨rfl, F2, s2, hk, h2⟩

set_option maxRecDepth 100000 in
set_option maxHeartbeats 4000000 in
theorem walk (a0 : Int) (a1 : Option Addr) (len1 cap1 : Nat) (K1 I1 R1 : Nat → Int) (w : World) (w0 : (Lit.int .i64 a0).wf = true) (w1 : Facts w w.heap.size a1 len1 K1 I1 R1) (g1 : len1 ≤ cap1 ∧ cap1 ≤ maxLen) :
    Calls Try.prog 4 #[.int .i64 a0, .slice a1 len1 cap1] w fun e w' => e = .returned (.bool true) ∧ Below w.heap.size w w' := by
  have HA0 := Lib.hid w0
  have HW1 := Lib.hid w1
  have hm1 : len1 ≤ 9223372036854775807 := by have := g1.1; have := g1.2; unfold maxLen at this; omega
  clear w0 w1 g1 HA0
  have hmm := @run_makeMap Try.prog
  go_enter Try.func4, Try.ntmps4
  go_wp2_with fail
  refine (fhead_any w).mono ?_
  rintro e wa ⟨rfl, hb1⟩
  have HB1 := Lib.hid hb1
  clear hb1
  by_cases hlen : 150 < len1
  · have hd : decide (150 < (len1 : Int)) = true := by simp; omega
    go_wp2
    go_ret
    exact ⟨rfl, HB1.out⟩
  · have hd : decide (150 < (len1 : Int)) = false := by simp; omega
    have hl1 : len1 ≤ 150 := by omega
    clear hlen
    go_wp2_with fail
    refine (tnew_any a0 wa).mono ?_
    rintro e wb ⟨F, g, rfl, ht, hF, hb2⟩
    have HT1 := Lib.hid (show OneT 0 w.heap.size w wb g from ⟨F, _, fok_new a0, TB.new HB1.out HB1.out.size ht hF hb2⟩)
    clear ht hF hb2 HB1
    go_wp2_with fail
    go_loopw [23] (fun i wr => ∃ k : Nat, k ≤ len1 ∧ i = .int .i64 (k : Nat) ∧ OneT k w.heap.size w wr g) (fun i _ => len1 - (intOf i).toNat)
    case atStart => exact ⟨0, by omega, rfl, HT1.out⟩
    case round =>
      obtain ⟨k, hk, rfl, F1, s, hok, ht⟩ := hrel
      have HT := Lib.hid ht
      have HK := Lib.hid hok
      clear ht hok HT1
      by_cases hlt : k < len1
      · obtain ⟨b, off, rfl, hbB, hc⟩ := (HW1.out.below HT.out.bel).outer (by omega)
        obtain ⟨hc0, hc1, hc2⟩ := hc k hlt
        obtain ⟨hwk, hwi, hwr⟩ := HW1.out.inner k hlt
        clear hc
        obtain ⟨K, hK⟩ : ∃ K, K1 k = K := ⟨_, rfl⟩
        obtain ⟨I, hI⟩ : ∃ I, I1 k = I := ⟨_, rfl⟩
        obtain ⟨R, hR⟩ : ∃ R, R1 k = R := ⟨_, rfl⟩
        rw [hK] at hc0 hwk
        rw [hI] at hc1 hwi
        rw [hR] at hc2 hwr
        have HWI := Lib.hid hwi
        have HWR := Lib.hid hwr
        clear hK hI hR hwk hwi hwr
        obtain ⟨r, hr15, hand⟩ := and15 K
        go_upto_region 9 with fail
        have HX := Lib.hid (Bx.new wr _ rfl #[.int .i64 K, .int .i64 I, .int .i64 R] 29)
        have HT3 := Lib.hid (HT.out.alloc (.cells #[.int .i64 K, .int .i64 I, .int .i64 R] 29))
        generalize wr.alloc (.cells #[.int .i64 K, .int .i64 I, .int .i64 R] 29) = w3 at *
        generalize wr.heap.size = ga at *
        have hx0 := HX.out.cell 0 (.int .i64 K) rfl
        have hx1 := HX.out.cell 1 (.int .i64 I) rfl
        have hx2 := HX.out.cell 2 (.int .i64 R) rfl
        clear hc0 hc1 hc2 HT
        have hk150 : k ≤ 150 := by omega
        clear hbB
        go_upto_block 2 with fail
        go_cut [] (fun wx => OneT (k + 1) w.heap.size w wx g)
        case first =>
          rcases (show r = 0 ∨ r = 1 ∨ r = 2 ∨ r = 3 ∨ r = 4 ∨ r = 5 ∨ r = 6 ∨ r = 7 ∨ r = 8 ∨ r = 9 ∨ 10 ≤ r by omega) with rfl | rfl | rfl | rfl | rfl | rfl | rfl | rfl | rfl | rfl | h10
          · go_wp2_with fail
            refine (tjoin_any HT3.out.tab HK.out (by omega) I R HWI.out HWR.out).mono ?_
            intro e w5 hg
            obtain ⟨rfl, h1⟩ := TB.one (N := k + 1) HT3.out (HK.out.join R (wf64_bounds HWI.out).2) hg
            have HZ := Lib.hid h1
            clear hg h1 HT3 HX hx0 hx1 hx2
            go_wp2_with fail
            go_meet
            exact HZ.out
          · go_wp2_with fail
            refine (tjoin_any HT3.out.tab HK.out (by omega) I R HWI.out HWR.out).mono ?_
            intro e w5 hg
            obtain ⟨rfl, h1⟩ := TB.one (N := k + 1) HT3.out (HK.out.join R (wf64_bounds HWI.out).2) hg
            have HZ := Lib.hid h1
            clear hg h1 HT3 HX hx0 hx1 hx2
            go_wp2_with fail
            go_meet
            exact HZ.out
          · go_wp2_with fail
            refine (tleave_any HT3.out.tab HK.out (by omega) I HWI.out).mono ?_
            intro e w5 hg
            obtain ⟨rfl, h1⟩ := TB.one (N := k + 1) HT3.out ((HK.out.leave I).mono (Nat.le_succ k)) hg
            have HZ := Lib.hid h1
            clear hg h1 HT3 HX hx0 hx1 hx2
            go_wp2_with fail
            go_meet
            exact HZ.out
          · go_wp2_with fail
            refine (tset_any HT3.out.tab HK.out (by omega) I R HWI.out HWR.out).mono ?_
            intro e w5 hg
            obtain ⟨rfl, h1⟩ := TB.one (N := k + 1) HT3.out ((HK.out.set I R).mono (Nat.le_succ k)) hg
            have HZ := Lib.hid h1
            clear hg h1 HT3 HX hx0 hx1 hx2
            go_wp2_with fail
            go_meet
            exact HZ.out
          · go_wp2_with fail
            refine (task_any HT3.out.tab HK.out (by omega) I HWI.out).mono ?_
            intro e w5 hg
            obtain ⟨rfl, h1⟩ := TB.one (N := k + 1) HT3.out (HK.out.ask I) hg
            have HZ := Lib.hid h1
            clear hg h1 HT3 HX hx0 hx1 hx2
            go_wp2_with fail
            go_meet
            exact HZ.out
          · go_wp2_with fail
            refine (task_any HT3.out.tab HK.out (by omega) I HWI.out).mono ?_
            intro e w5 hg
            obtain ⟨rfl, h1⟩ := TB.one (N := k + 1) HT3.out (HK.out.ask I) hg
            have HZ := Lib.hid h1
            clear hg h1 HT3 HX hx0 hx1 hx2
            go_wp2_with fail
            go_meet
            exact HZ.out
          · go_wp2_with fail
            refine (task_any HT3.out.tab HK.out (by omega) I HWI.out).mono ?_
            intro e w5 hg
            obtain ⟨rfl, h1⟩ := TB.one (N := k + 1) HT3.out (HK.out.ask I) hg
            have HZ := Lib.hid h1
            clear hg h1 HT3 HX hx0 hx1 hx2
            go_wp2_with fail
            go_meet
            exact HZ.out
          · go_wp2_with fail
            refine (tdrop_any HT3.out.tab HK.out (by omega) I HWI.out).mono ?_
            intro e w5 hg
            obtain ⟨rfl, h1⟩ := TB.one (N := k + 1) HT3.out ((HK.out.drop I).mono (Nat.le_succ k)) hg
            have HZ := Lib.hid h1
            clear hg h1 HT3 HX hx0 hx1 hx2
            go_wp2_with fail
            go_meet
            exact HZ.out
          · go_wp2_with fail
            refine (tgive_any HT3.out.tab HK.out (by omega) I HWI.out).mono ?_
            intro e w5 hg
            obtain ⟨rfl, h1⟩ := TB.one (N := k + 1) HT3.out (HK.out.give I) hg
            have HZ := Lib.hid h1
            clear hg h1 HT3 HX hx0 hx1 hx2
            go_wp2_with fail
            go_meet
            exact HZ.out
          · go_wp2_with fail
            refine (trev_any HT3.out.tab HK.out (by omega)).mono ?_
            intro e w5 hg
            obtain ⟨rfl, h1⟩ := TB.one (N := k + 1) HT3.out (HK.out.rev.mono (Nat.le_succ k)) hg
            have HZ := Lib.hid h1
            clear hg h1 HT3 HX hx0 hx1 hx2
            go_wp2_with fail
            go_meet
            exact HZ.out
          · go_wp2_with fail
            refine (ttick_any HT3.out.tab HK.out (by omega)).mono ?_
            intro e w5 hg
            obtain ⟨rfl, h1⟩ := TB.one (N := k + 1) HT3.out (HK.out.tick.mono (Nat.le_succ k)) hg
            have HZ := Lib.hid h1
            clear hg h1 HT3 HX hx0 hx1 hx2
            go_wp2_with fail
            go_meet
            exact HZ.out
        case rest =>
          obtain ⟨F2, s2, hok2, ht2⟩ := hcut
          have HT2 := Lib.hid ht2
          have HK2 := Lib.hid hok2
          clear ht2 hok2 HT3 HK HX hx0 hx1 hx2 HWI HWR hand
          have HS2 := Lib.hid (Sm.made wc _ rfl)
          have HT3 := Lib.hid (HT2.out.alloc (.map #[] 0))
          have HG := Lib.hid (show (∀ b, F2 b → ¬ b = wc.heap.size) ∧ w.heap.size ≤ wc.heap.size from ⟨fun b hb e => by have := HT2.out.tab.lt b hb; omega, HT2.out.hs⟩)
          go_upto_region 29 with fail
          generalize wc.alloc (.map #[] 0) = w3 at *
          generalize wc.heap.size = gs at *
          clear HT2
          go_wp2_with fail
          refine (tqueue_any HT3.out.tab HK2.out (by omega)).mono ?_
          intro e w4 hg
          obtain ⟨F4, qa, qn, qc, rfl, h4, hO4, hF4, hv4, hnc4, hin4⟩ := HT3.out.lstep hg
          have HT4 := Lib.hid h4
          have hgs3 : gs < w3.heap.size := HS2.out.lt
          have HS4 := Lib.hid (HS2.out.keep hO4 (fun hF => HG.out.1 _ hF rfl))
          have HG4 := Lib.hid (show (¬ F4 gs) ∧ w.heap.size ≤ gs ∧ (0 < qn → ¬ In qa gs) from ⟨fun hF => by
            rcases hF4 _ hF with h1 | h1
            · exact HG.out.1 _ h1 rfl
            · omega, HG.out.2, fun hn hin => by have := (hin4 _ hn hin).1; omega⟩)
          have HV4 := Lib.hid hv4
          have hqn : qn = s2.line.tail.length := by rw [← hv4.1, ints_len]
          have hqn2 : qn ≤ 1000 := by rw [hqn, List.length_tail]; have := HK2.out.ln; omega
          have HQN := Lib.hid hqn
          have HNC := Lib.hid hnc4
          clear hg h4 hO4 hF4 hv4 hin4 hgs3 HG HS2 HT3 hqn hnc4
          go_wp2_with fail
          refine (thold_any HT4.out.tab HK2.out).mono ?_
          rintro e w5 ⟨rfl, m5, hw5⟩
          have HT5 := Lib.hid (hw5 ▸ HT4.out.drewN m5)
          have HS5 := Lib.hid (show Sm gs w5 [] from hw5 ▸ HS4.out.keep ((Only.refl (fun _ => False) w4).drewN m5) (fun h => h))
          have HV5 := Lib.hid (show Vals w5 w5.heap.size qa qn (ints s2.line.tail) from by rw [hw5]; exact HV4.out.below (below_drewN (Below.refl _ _) m5))
          clear hw5 HT4 HS4 HV4
          go_upto_if 84 with fail
          go_cut [9] (fun s9 wx => OneL (k + 1) w.heap.size w g gs s9 wx)
          case first =>
            by_cases e0 : s2.line = []
            · have hz : fhold s2 = 0 := HK2.out.hold0.2 e0
              have hq0 : qn = 0 := by rw [HQN.out, e0]; rfl
              have HZ := Lib.hid (show OneL (k + 1) w.heap.size w g gs (.slice qa 0 qc) w5 from ⟨F4, s2, qa, 0, qc, rfl, HK2.out, HT5.out, HS5.out, HG4.out.1, HG4.out.2.1, by rw [e0]; exact Vals.nil _ _ _, Nat.zero_le _, fun h => absurd h (by omega)⟩)
              subst hq0
              rw [hz]
              clear HG4 HQN HT5 HS5 HV5 hz e0 HNC
              go_wp2_with fail
              go_meet
              exact HZ.out
            · have hz : fhold s2 ≠ 0 := fun e => e0 (HK2.out.hold0.1 e)
              have hz' : (fhold s2 == 0) = false := by simpa using hz
              have HL := Lib.hid (show s2.line = [fhold s2] ++ s2.line.tail from by
                unfold fhold
                rcases hl : s2.line with _ | ⟨x, t⟩
                · exact absurd hl e0
                · rfl)
              have hT := thold_any HT5.out.tab HK2.out
              clear e0
              generalize fhold s2 = hd at *
              go_wp2_with fail
              refine hT.mono ?_
              rintro e w6 ⟨rfl, m6, hw6⟩
              have HT6 := Lib.hid (hw6 ▸ HT5.out.drewN m6)
              have HS6 := Lib.hid (show Sm gs w6 [] from hw6 ▸ HS5.out.keep ((Only.refl (fun _ => False) w5).drewN m6) (fun h => h))
              have HV6 := Lib.hid (show Vals w6 w6.heap.size qa qn (ints s2.line.tail) from by rw [hw6]; exact HV5.out.below (below_drewN (Below.refl _ _) m6))
              clear hw6 HT5 HS5 HV5 hT
              have HM := Lib.hid (show Rw w6.heap.size (w6.alloc (.cells #[.int .i64 hd] 3)) (some ⟨w6.heap.size, 0, none⟩) 1 1 (ints [hd]) from Rw.fresh w6 w6.heap.size (ints [hd]) 3 (Nat.le_refl _) (ints_one _) (by simp [ints, maxLen]) (0, 0) rfl)
              have HO := Lib.hid (show Only (fun _ => False) w6 (w6.alloc (.cells #[.int .i64 hd] 3)) from (Only.refl _ _).alloc _)
              have HVs := Lib.hid (HV6.out.only HO.out (Nat.le_refl _) (fun _ _ _ h => h))
              have hgs6 : gs < w6.heap.size := HS6.out.lt
              go_wp2_with (first
                | (at_builtin
                   refine wpList_rw elem_int rfl (.tmp 87) (.tmp 88) rfl w6.heap.size rfl HM.out rfl HVs.out (by omega) (by simp) ?_
                   intro A2 c3 w7 hm hO7 hp7
                   have HZ := Lib.hid (show OneL (k + 1) w.heap.size w g gs (.slice A2 (1 + qn) c3) w7 from by
                     have h1 : Only (fun b => b = w6.heap.size) w6 w7 := (HO.out.mono (fun _ _ h => h.elim)).trans' hO7 (fun b hb => by
                       obtain ⟨p, hp, rfl⟩ := hb
                       injection hp with hp
                       subst hp
                       exact .inl rfl)
                     have h2 : ∀ b, F4 b → ¬ b = w6.heap.size := fun b hb e => by have := HT6.out.tab.lt b hb; omega
                     refine ⟨F4, s2, A2, 1 + qn, c3, rfl, HK2.out, HT6.out.keep h1 h2 (fun b hb h => by omega), HS6.out.keep h1 (by omega), HG4.out.1, HG4.out.2.1, ?_, hm.cap, fun _ hin => ?_⟩
                     · rw [HL.out, ints_app]
                       exact hm.vals
                     · rcases hp7 _ hin with ⟨p, hp, h3⟩ | h3
                       · injection hp with hp
                         subst hp
                         simp at h3
                         omega
                       · simp at h3; omega)
                   clear hm hO7 hp7)
                | fail)
              go_meet
              exact HZ.out
          case rest =>
            clear HT5 HS5 HV5 HG4 HQN HNC HK2
            obtain ⟨F5, s, A, n, c, rfl, hk5, ht5, hs5, hfg, hbg, hv5, hnc, hing⟩ := hcut
            have HT := Lib.hid ht5
            have HK := Lib.hid hk5
            have HS := Lib.hid hs5
            have HV := Lib.hid hv5
            have HG := Lib.hid (show (¬ F5 gs) ∧ w.heap.size ≤ gs ∧ (0 < n → ¬ In A gs) from ⟨hfg, hbg, hing⟩)
            have hnl : s.line.length = n := by rw [← hv5.1, ints_len]
            have hn2 : n ≤ 1000 := by rw [← hnl]; have := hk5.ln; omega
            have HNL := Lib.hid hnl
            have HNC := Lib.hid hnc
            clear ht5 hk5 hs5 hv5 hfg hbg hing hnl hnc
            go_wp2_with fail
            go_loopw [95] (fun i wx => ∃ j : Nat, j ≤ n ∧ i = .int .i64 (j : Nat) ∧ Only (fun b => b = gs) wc wx ∧ Sm gs wx (s.line.take j)) (fun i _ => n - (intOf i).toNat)
            case atStart => exact ⟨0, by omega, rfl, Only.refl _ _, HS.out⟩
            case round =>
              obtain ⟨j, hj, rfl, hO, hSm⟩ := hrel
              have HTr := Lib.hid (HT.out.keep hO (fun b hb e => HG.out.1 (e ▸ hb)) (fun b hb _ => by have := HG.out.2.1; omega))
              have HOr := Lib.hid hO
              have HSr := Lib.hid hSm
              clear hO hSm HS
              by_cases hlt2 : j < n
              · have HVr := Lib.hid (HV.out.only HOr.out (Nat.le_refl _) (fun hn p hp e => HG.out.2.2 hn ⟨p, hp, e⟩))
                obtain ⟨b2, off2, rfl, _, hcl⟩ := ints_at HVr.out (by omega)
                have hcj := hcl j hlt2
                have hjl : j < s.line.length := by rw [HNL.out]; exact hlt2
                have hgj : s.line.getD j 0 = s.line[j] := by rw [List.getD_eq_getElem?_getD, List.getElem?_eq_getElem hjl]; rfl
                have hmem : s.line.getD j 0 ∈ s.line := by rw [hgj]; exact List.getElem_mem hjl
                have hnt : s.line.getD j 0 ∉ s.line.take j := by
                  rw [hgj]
                  intro hin
                  obtain ⟨i, hi, e⟩ := List.getElem_of_mem hin
                  rw [List.getElem_take] at e
                  rw [List.length_take] at hi
                  exact List.pairwise_iff_getElem.1 HK.out.nodup i j (by omega) hjl (by omega) e
                have htk : s.line.take j ++ [s.line.getD j 0] = s.line.take (j + 1) := by
                  rw [hgj, List.take_add_one, List.getElem?_eq_getElem hjl]
                  rfl
                obtain ⟨hhas, hrole⟩ := HK.out.mem _ hmem
                have hxw : wf64 (s.line.getD j 0) := by have := HK.out.id_lt hmem; exact WalkArith.wf_i64 (by omega)
                have hT := trole_any HTr.out.tab HK.out (s.line.getD j 0) hxw
                rw [hhas] at hT
                have HTk := Lib.hid htk
                have hnt' : decide (s.line.getD j 0 ∈ s.line.take j) = false := by simpa using hnt
                have HNt := Lib.hid hnt'
                have hlt3 : (s.line.take j).length ≤ 1000000 := by rw [List.length_take]; omega
                have hrole' : (rrole s.roles (s.line.getD j 0) == 0) = false := by simpa using hrole
                clear hcl hgj hmem hnt htk hhas hnt' HVr hjl
                generalize rrole s.roles (s.line.getD j 0) = rr at *
                generalize s.line.getD j 0 = x at *
                go_wp2_with fail
                refine hT.mono ?_
                rintro e w6 ⟨rfl, m6, hw6⟩
                have HO6 := Lib.hid (show Only (fun b => b = gs) wc w6 from hw6 ▸ HOr.out.drewN m6)
                have HS6 := Lib.hid (show Sm gs w6 (s.line.take j) from hw6 ▸ HSr.out.keep ((Only.refl (fun _ => False) wr).drewN m6) (fun h => h))
                have hlk := HS6.out.look hxw
                rw [HNt.out] at hlk
                obtain ⟨w7, hst, hS7, hO7⟩ := HS6.out.store hxw hlt3
                rw [HTk.out] at hS7
                have HS7 := Lib.hid hS7
                have HO7 := Lib.hid (HO6.out.trans hO7)
                clear hw6 hS7 hO7 HO6 HS6 hT HSr HOr HTr
                go_wp2
                go_roundw
                case rel => exact ⟨j + 1, by omega, by go_num, HO7.out, HS7.out⟩
                case measure => simp [intOf]; omega
              · have hjn : j = n := by omega
                have hcmp : ¬ (j : Int) < (n : Int) := by omega
                have hz := HK.out.zero
                have hh0 := HK.out.hold0
                clear HSr HV
                clear hlt2 hj hjn
                generalize (j : Int) = J at *
                rcases Nat.eq_zero_or_pos s.left with e0 | e0
                · have e1 : fhold s = 0 := hh0.2 (hz.1 e0)
                  clear hz hh0
                  have HE := Lib.hid e1
                  have hTl := tleft_any HTr.out.tab HK.out
                  rw [e0] at hTl
                  clear e0 e1
                  go_wp2_with fail
                  refine hTl.mono ?_
                  rintro e w6 ⟨rfl, m6, hw6⟩
                  have HT6 := Lib.hid (hw6 ▸ HTr.out.drewN m6)
                  have hTh := thold_any HT6.out.tab HK.out
                  rw [HE.out] at hTh
                  clear hw6 HTr hTl
                  go_wp2_with fail
                  refine hTh.mono ?_
                  rintro e w7 ⟨rfl, m7, hw7⟩
                  have HT7 := Lib.hid (hw7 ▸ HT6.out.drewN m7)
                  clear hw7 HT6 hTh
                  go_wp2_with fail
                  go_roundw
                  case rel => exact ⟨k + 1, by omega, by go_num, F5, s, HK.out, HT7.out⟩
                  case measure => simp [intOf]; omega
                · have e1 : fhold s ≠ 0 := fun e => by have := hz.2 (hh0.1 e); omega
                  clear hz hh0
                  have hTl := tleft_any HTr.out.tab HK.out
                  obtain ⟨hd, hhd⟩ : ∃ hd, fhold s = hd := ⟨_, rfl⟩
                  rw [hhd] at e1
                  have HE := Lib.hid hhd
                  have e2 : (hd == 0) = false := by simpa using e1
                  have e3 : (0 : Int) < (s.left : Int) := by omega
                  have e4 : (hd != 0) = true := by simpa using e1
                  clear hhd e0
                  generalize (s.left : Int) = lf at *
                  go_wp2_with fail
                  refine hTl.mono ?_
                  rintro e w6 ⟨rfl, m6, hw6⟩
                  have HT6 := Lib.hid (hw6 ▸ HTr.out.drewN m6)
                  have hTh := thold_any HT6.out.tab HK.out
                  rw [HE.out] at hTh
                  clear hw6 HTr hTl
                  go_wp2_with fail
                  refine hTh.mono ?_
                  rintro e w7 ⟨rfl, m7, hw7⟩
                  have HT7 := Lib.hid (hw7 ▸ HT6.out.drewN m7)
                  clear hw7 HT6 hTh
                  go_wp2_with fail
                  go_roundw
                  case rel => exact ⟨k + 1, by omega, by go_num, F5, s, HK.out, HT7.out⟩
                  case measure => simp [intOf]; omega
      · obtain rfl : k = len1 := by omega
        go_wp2
        go_ret
        exact ⟨rfl, HT.out.bel⟩

set_option maxRecDepth 100000 in
theorem lifted (os : Os) (started : os.Started) (H : Type) (enc : TypeId × Value → H) :
    ReturnsInHanded {} Try.checked os 4 .any (Rows.floorOneSpec.pre6 enc Try.prog Try.f4 Rows.floorOneRow.domain false) (Rows.floorOneSpec.post enc Try.prog Try.f4 false true false false) := by
  refine returnsInHanded_of_change_sized (C := Try.checked) own started (by kernel_rfl) Try.func4
    (ChangeSpec.witness6 (enc := enc) (C := Try.checked) false ⟨#[], #[.int .i64 0, .slice none 0 0], []⟩ 8 (by kernel_rfl) (by kernel_rfl) (by kernel_rfl) (by kernel_rfl)) ?_
  intro W base args ds gs before hval0 hW hcnd hsz0 _
  have hval : ∀ (j : Nat) t v, Try.f4.params[j]? = some t → args[j]? = some v → Value.okWide Try.prog W .any base t v := hval0
  have hW' := hW
  obtain ⟨p, q, hA0, hV, rfl, hfz, hnd⟩ := hW
  have hsz : (DataW.weightsEach Try.prog (Try.f4.params.toList ++ Rows.floorOneSpec.plain.varTypes Try.prog) (ds ++ gs)).all (· ≤ reachBytes) = true := hsz0
  have hA : DataW.TrodAll enc Try.prog W 0 (fun _ => true) true Try.f4.params.toList args.toList ds p := hA0
  rw [Try.params4] at hA hval hsz
  obtain ⟨v0, vs0, d0, ds0, p0, q0, hargs, rfl, rfl, h0, r0⟩ := trodAll_cons hA
  obtain ⟨v1, vs1, d1, ds1, p1, q1, rfl, rfl, rfl, h1, r1⟩ := trodAll_cons r0
  obtain ⟨rfl, rfl, rfl⟩ := trodAll_nil r1
  obtain rfl : args = #[v0, v1] := by cases args; simp_all
  obtain ⟨rfl, rfl⟩ := trodVars_none hV
  obtain ⟨a0, rfl, rfl, rfl, w0⟩ := open_int Try.underlying3 (hval 0 3 v0 rfl rfl) h0
  obtain ⟨a1, len1, cap1, rfl⟩ := okWide_slice Try.underlying22 (hval 1 22 v1 rfl rfl)
  have k1 := h1
  have lt1 : ∀ x ∈ p1, x.block < W.heap.size := by obtain ⟨m, hm⟩ := k1; exact DataW.trod_lt m _ _ _ hm
  obtain ⟨K1, I1, R1, w1, g1⟩ : ∃ K I R, Facts W W.heap.size a1 len1 K I R ∧ len1 ≤ cap1 ∧ cap1 ≤ maxLen := by
    obtain ⟨fuel, hf⟩ := h1
    exact open_facts hf
  clear hA0 hval0 hsz hsz0
  refine (walk a0 a1 len1 cap1 K1 I1 R1 W w0 w1 g1).mono fun e W' ⟨he, bel⟩ => ?_
  subst he
  exact ⟨_, rfl, _, _, _, [], _, [], hW', trodAll_mk1 (shut_bool Try.underlying4 _), (trodAll_cons_mk (shut_int Try.underlying3 w0) (trodAll_cons_mk (Below.trod laidOut (by kernel_rfl) (of_decide_eq_true (by kernel_rfl)) k1 bel lt1) trodAll_mk0)), rfl, bel.frame _, fun h => by cases h⟩

theorem over : Rows.floorOneRow.holds Try.pinned (OpenSpec.ofChange Rows.floorOneSpec) :=
  OpenClaim.holds_of_wide 4 Try.f4 rfl rfl rfl rfl rfl rfl rfl ⟨rfl, rfl, rfl, rfl, rfl⟩ rfl rfl rfl rfl rfl (by kernel_rfl) Try.func4 (by kernel_rfl)
    (of_decide_eq_true (by kernel_rfl)) (by unfold Func.isWrapper; first | (rw [if_pos (by decide +kernel)]; kernel_rfl) | (rw [if_neg (by decide +kernel)]; exact ⟨rfl, rfl⟩))
    (fun os started H enc _ => lifted os started H enc)

end Go.Proofs.Ytoohlingoklaaaa.floorOne
namespace Go.Proofs.Ytoohlingoklaaaa
theorem floorOne_holds : Rows.FloorOneSaid := floorOne.over
#print axioms floorOne_holds
end Go.Proofs.Ytoohlingoklaaaa
