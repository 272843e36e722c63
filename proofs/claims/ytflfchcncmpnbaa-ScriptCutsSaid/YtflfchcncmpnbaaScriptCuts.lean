/- ScriptCuts: for every input the law answers true, and its arguments read as before. Conditions: none. -/
import Derived.Test.YtflfchcncmpnbaaSck
import Derived.Test.YtflfchcncmpnbaaSz
namespace Go.Proofs.Ytflfchcncmpnbaa.scriptCuts
open Go.ChangeShapes Go.WideShapes Go.ChangeAt Go.RowKit
open Sc

theorem all_of {L : List Ev} {k : Nat} (h : k = L.length) (ha : ∀ e ∈ L.take k, rtE e = true) : ∀ e ∈ L, rtE e = true := by
  rw [List.take_of_length_le (by omega)] at ha
  exact ha

theorem cut_pre {c : Bs} {L : List Ev} {k : Nat} (hc : c.length = 24) (hk : 24 ≤ k) (hl : k ≤ 24 + (evs L).length) : ∃ r s, (c ++ evs L).take k = c ++ r ∧ r ++ s = evs L ∧ r.length = k - 24 := by
  refine ⟨(evs L).take (k - 24), (evs L).drop (k - 24), ?_, List.take_append_drop _ _, by simp; omega⟩
  rw [List.take_append, hc, List.take_of_length_le (by omega)]

set_option maxHeartbeats 4000000 in
set_option maxRecDepth 100000 in
theorem walk (ca0 cb0 cc0 cd0 ce0 cf0 cg0 ch0 : Int) (a1 : Option Addr) (len1 cap1 : Nat) (T1 : List Sc.Ev) (E2 : Sc.Ev) (a3 : Int) (w : World)  (w1 : EvIn w w.heap.size a1 T1) (g1 : T1.length = len1 ∧ len1 ≤ cap1 ∧ cap1 ≤ maxLen) (w2 : E2.t.length ≤ maxLen) (w3 : (Lit.int .i64 a3).wf = true) :
    Calls Try.prog 5 #[.agg (cv ca0 cb0 cc0 cd0 ce0 cf0 cg0 ch0), .slice a1 len1 cap1, evv E2, .int .i64 a3] w fun e w' => e = .returned (.bool true) ∧ Below w.heap.size w w' := by
  obtain ⟨hn, hcap, hmax⟩ := g1
  unfold maxLen at hmax
  have HL := Lib.hid w1
  have HN := Lib.hid hn
  have HE2 := Lib.hid w2
  obtain ⟨i0, i1⟩ := i64_bounds w3
  clear w1 hn w2 w3
  have hmix : Try.prog.follows .mixedOrders = true := by kernel_rfl
  obtain ⟨xk, xi, xn, xt⟩ := E2
  unfold evv
  have HX0 := Bx.new w w.heap.size rfl (cv ca0 cb0 cc0 cd0 ce0 cf0 cg0 ch0) 23
  have HB0 := (Below.refl w.heap.size w).alloc (Nat.le_refl _) (.cells (cv ca0 cb0 cc0 cd0 ce0 cf0 cg0 ch0) 23)
  have HX := Lib.hid (HX0.go ((Below.refl _ _).alloc (Nat.le_refl _) (.cells #[.int .i64 xk, .int .i64 xi, .int .i64 xn, .string (str xt)] 30)) HX0.room)
  have HY := Lib.hid (Bx.new (w.alloc (.cells (cv ca0 cb0 cc0 cd0 ce0 cf0 cg0 ch0) 23)) (w.heap.size + 1) (by simp) #[.int .i64 xk, .int .i64 xi, .int .i64 xn, .string (str xt)] 30)
  have HB := Lib.hid (HB0.alloc (by simp) (.cells #[.int .i64 xk, .int .i64 xi, .int .i64 xn, .string (str xt)] 30))
  clear HX0 HB0
  unfold cv at HX HY HB ⊢
  go_enter Try.func5, Try.ntmps5
  go_upto_region 1 with fail
  generalize (World.alloc _ _).alloc _ = wa at *
  obtain ⟨g, hg⟩ : ∃ g, w.heap.size = g := ⟨_, rfl⟩
  rw [hg] at HX HY HB HL
  simp only [hg]
  have HG := Lib.hid hg
  clear hg
  have hgw := HY.out.room
  go_wp2_with fail
  refine (lhead_any wa).mono ?_
  rintro e wb ⟨rfl, hb⟩
  have HXb := Lib.hid (HX.out.go hb (by omega))
  have HYb := Lib.hid (HY.out.go hb hgw)
  have HBb := Lib.hid (HB.out.trans (hb.mono (by omega)))
  have hgb := HYb.out.room
  clear hb HX HY HB hgw
  go_wp2_with fail
  refine (few_any a1 len1 cap1 T1 wb ((HL.out.below HBb.out).more (by omega)) HN.out (by omega)).mono ?_
  rintro e wc ⟨q0, rfl, hb, hq1, _⟩
  have HXc := Lib.hid (HXb.out.go hb (by omega))
  have HYc := Lib.hid (HYb.out.go hb hgb)
  have HBc := Lib.hid (HBb.out.trans (hb.mono (by omega)))
  have hgc := HYc.out.room
  clear hb HXb HYb HBb hgb
  cases q0
  · go_wp2
    go_ret
    exact ⟨rfl, by rw [HG.out]; exact HBc.out⟩
  obtain ⟨h120, htot⟩ := hq1 rfl
  rw [HN.out] at h120
  have HTot := Lib.hid htot
  clear htot hq1
  obtain ⟨c0, c1, c2, c3, c4, c5, c6, c7⟩ := HXc.out.cells8
  have HRt := Lib.hid (lright_any ca0 cb0 cc0 cd0 ce0 cf0 cg0 ch0)
  unfold cv at HRt
  obtain ⟨R, hR⟩ : ∃ R, rt ca0 cb0 cc0 cd0 ce0 cf0 cg0 ch0 = R := ⟨_, rfl⟩
  rw [hR] at HRt
  have HR := Lib.hid hR
  clear hR
  go_wp2_with fail
  refine (HRt.out _).mono ?_
  rintro e wd ⟨rfl, hb⟩
  have HXd := Lib.hid (HXc.out.go hb (by omega))
  have HYd := Lib.hid (HYc.out.go hb hgc)
  have HBd := Lib.hid (HBc.out.trans (hb.mono (by omega)))
  have hgd := HYd.out.room
  clear hb HXc HYc HBc hgc c0 c1 c2 c3 c4 c5 c6 c7 HRt
  cases R
  · go_wp2
    go_ret
    exact ⟨rfl, by rw [HG.out]; exact HBd.out⟩
  obtain ⟨m0, m1, m2, m3⟩ := HYd.out.ev
  have HLx := Lib.hid (lright16_any ⟨xk, xi, xn, xt⟩)
  unfold evv at HLx
  obtain ⟨r2, hr2⟩ : ∃ r2, rtE ⟨xk, xi, xn, xt⟩ = r2 := ⟨_, rfl⟩
  rw [hr2] at HLx
  have HR2 := Lib.hid hr2
  clear hr2
  go_wp2_with fail
  refine (HLx.out _).mono ?_
  rintro e we ⟨rfl, hb⟩
  have HXe := Lib.hid (HXd.out.go hb (by omega))
  have HYe := Lib.hid (HYd.out.go hb hgd)
  have HBe := Lib.hid (HBd.out.trans (hb.mono (by omega)))
  have hge := HYe.out.room
  clear hb HXd HYd HBd hgd m0 m1 m2 m3 HLx
  cases r2
  · go_wp2
    go_ret
    exact ⟨rfl, by rw [HG.out]; exact HBe.out⟩
  go_wp2_with fail
  go_loopw [35] (fun i wr => ∃ k : Nat, k ≤ len1 ∧ i = .int .i64 (k : Nat) ∧ Hid (∀ e ∈ T1.take k, rtE e = true) ∧ Bx g wr #[.int .i64 ca0, .int .i64 cb0, .int .i64 cc0, .int .i64 cd0, .int .i64 ce0, .int .i64 cf0, .int .i64 cg0, .int .i64 ch0] ∧ Bx (g + 1) wr #[.int .i64 xk, .int .i64 xi, .int .i64 xn, .string (str xt)] ∧ Below g w wr) (fun i _ => len1 - (intOf i).toNat)
  case atStart => exact ⟨0, by omega, rfl, Lib.hid (by simp), HXe.out, HYe.out, HBe.out⟩
  case round =>
    obtain ⟨k, hk, rfl, HQ, hx, hy, hb⟩ := hrel
    have HXk := Lib.hid hx
    have HYk := Lib.hid hy
    have HBk := Lib.hid hb
    have hgk := hy.room
    clear hx hy hb HXe HYe HBe hge
    by_cases hlt : k < len1
    · obtain ⟨x, hx⟩ : ∃ x, T1[k]? = some x := ⟨_, List.getElem?_eq_getElem (by have := HN.out; omega)⟩
      obtain ⟨bb, off, rfl, hbB, hc⟩ := (HL.out.below HBk.out).outer (by have := HN.out; omega)
      obtain ⟨hc0, hc1, hc2, hc3⟩ := hc k x hx
      have HXx := Lib.hid hx
      have HLw := Lib.hid (lright16_any x)
      clear hc hx
      unfold evv at HLw
      obtain ⟨r, hr⟩ : ∃ r, rtE x = r := ⟨_, rfl⟩
      rw [hr] at HLw
      have HRx := Lib.hid hr
      clear hr
      have HE := Lib.hid (Bx.new wr wr.heap.size rfl #[.int .i64 x.k, .int .i64 x.i, .int .i64 x.n, .string (str x.t)] 30)
      have hbn := (Below.refl wr.heap.size wr).alloc (Nat.le_refl _) (.cells #[.int .i64 x.k, .int .i64 x.i, .int .i64 x.n, .string (str x.t)] 30)
      have HXe := Lib.hid (HXk.out.go hbn (by omega))
      have HYe := Lib.hid (HYk.out.go hbn hgk)
      have HBe := Lib.hid (HBk.out.trans (hbn.mono (by omega)))
      clear hbn HXk HYk HBk
      go_upto_region 8 with fail
      generalize wr.alloc _ = we at *
      obtain ⟨ge, hge⟩ : ∃ ge, wr.heap.size = ge := ⟨_, rfl⟩
      rw [hge] at HE hgk
      simp only [hge]
      clear hge hc0 hc1 hc2 hc3
      have hew := HE.out.room
      obtain ⟨m0, m1, m2, m3⟩ := HE.out.ev
      go_wp2_with fail
      refine (HLw.out _).mono ?_
      rintro e wi ⟨rfl, hbi⟩
      have HXi := Lib.hid (HXe.out.go hbi (by omega))
      have HYi := Lib.hid (HYe.out.go hbi (by omega))
      have HBi := Lib.hid (HBe.out.trans (hbi.mono (by omega)))
      clear hbi HXe HYe HBe
      cases r
      · go_wp2
        go_ret
        exact ⟨rfl, by rw [HG.out]; exact HBi.out⟩
      · go_wp2_with fail
        go_roundw
        case rel => exact ⟨k + 1, by omega, by go_num, Lib.hid (all_snoc HXx.out HQ.out HRx.out), HXi.out, HYi.out, HBi.out⟩
        case measure => simp [intOf]; omega
    · obtain rfl : k = len1 := by omega
      have HA := Lib.hid (all_of HN.out.symm HQ.out)
      clear HQ hlt hk
      have hbd : (evs T1).length ≤ 6840 := by
        have := HTot.out HA.out
        rw [tot_evs, HN.out]
        omega
      obtain ⟨c0, c1, c2, c3, c4, c5, c6, c7⟩ := HXk.out.cells8
      have HTk := Lib.hid ((HL.out.below HBk.out).more (show g ≤ wr.heap.size by omega))
      have HBy := Lib.hid (lbytes_any ca0 cb0 cc0 cd0 ce0 cf0 cg0 ch0 a1 k cap1 T1 wr HR.out HTk.out HN.out (by omega) HA.out)
      unfold cv at HBy
      go_wp2_with fail
      refine HBy.out.mono ?_
      rintro e ws ⟨As, cs, rfl, ho, hb⟩
      have HXs := Lib.hid (HXk.out.go hb (by omega))
      have HYs := Lib.hid (HYk.out.go hb hgk)
      have HBs := Lib.hid (HBk.out.trans (hb.mono (by omega)))
      have HO := Lib.hid ho
      have hgs := HYs.out.room
      clear hb ho HXk HYk HBk hgk HBy HTk c0 c1 c2 c3 c4 c5 c6 c7
      obtain ⟨N, hN⟩ : ∃ N, 24 + (evs T1).length = N := ⟨_, rfl⟩
      rw [hN] at HO
      simp only [hN]
      have HNe := Lib.hid hN
      have hN7 : 24 ≤ N ∧ N ≤ 6864 := by omega
      clear hN hbd
      obtain ⟨p, hp, hpe⟩ := rest_any a3 ((N : Int) + 1) (by omega) (by omega)
      have hu : IntKind.u64.wrap ((N : Int) + 1) = (N : Int) + 1 := by rw [IntKind.wrap_u64]; omega
      have hcs := HO.out.cap
      go_upto_region 13 with fail
      rw [hpe]
      have hpn : p ≤ N := by omega
      clear hpe hp hu
      have HDc := Lib.hid (decode_cut HR.out As N p cs T1 ws (by have h := HO.out.bytes; exact h) hpn hcs HO.out.capmax (by omega) HA.out (by rw [HN.out]; omega))
      go_wp2_with fail
      refine HDc.out.mono ?_
      rintro e wt ⟨hb, v0, v1, v2, v3, v4, v5, v6, v7, M, nn, er, At, nt, ct, rfl, hrow, hml, hmt, her⟩
      have hnt := hrow.len
      have hnk : nt ≤ k := by rw [HN.out] at hml; omega
      have HXt := Lib.hid (HXs.out.go hb (by omega))
      have HYt := Lib.hid (HYs.out.go hb hgs)
      have HBt := Lib.hid (HBs.out.trans (hb.mono (by omega)))
      have HRow := Lib.hid hrow
      have hgt := HYt.out.room
      have HMt := Lib.hid (And.intro hmt hnt)
      clear hb hrow hml hmt hnt HXs HYs HBs HO hgs HDc hcs
      go_upto_region 14 with fail
      have hbn := (Below.refl wt.heap.size wt).alloc (Nat.le_refl _) (.cells #[.int .i64 v0, .int .i64 v1, .int .i64 v2, .int .i64 v3, .int .i64 v4, .int .i64 v5, .int .i64 v6, .int .i64 v7] 23)
      have HXu := Lib.hid (HXt.out.go hbn (by omega))
      have HYu := Lib.hid (HYt.out.go hbn hgt)
      have HBu := Lib.hid (HBt.out.trans (hbn.mono (by omega)))
      have HRu := Lib.hid (HRow.out.below hbn)
      clear hbn HXt HYt HBt HRow
      generalize wt.alloc _ = wu at *
      have hgu := HYu.out.room
      clear hgt
      have HSm := Lib.hid (same_any At a1 nt nt ct cap1 M (T1.take M.length) wu HRu.out.evin (((HL.out.below HBu.out).more (by omega)).take _) HMt.out.2 (by rw [HMt.out.1]; exact HMt.out.2) (by omega))
      have hnk2 : decide ((nt : Int) > (k : Int)) = false := by simp; omega
      have hncap : nt ≤ cap1 := by omega
      rcases her with ⟨rfl, rfl⟩ | rfl
      all_goals
        go_upto_region 16 with (first
          | (go_at_call 15
             refine HSm.out.mono ?_
             rintro e wv ⟨q, rfl, hb, hq⟩
             obtain rfl : q = true := hq.2 HMt.out.1.symm
             have HXv := Lib.hid (HXu.out.go hb (by omega))
             have HYv := Lib.hid (HYu.out.go hb hgu)
             have HBv := Lib.hid (HBu.out.trans (hb.mono (by omega)))
             have hgv := HYv.out.room
             clear hb hq)
          | fail)
        clear HSm hnk hnk2 hncap HXu HYu HBu HRu HMt hgu
        obtain ⟨gv, hgv2⟩ : ∃ gv, wv.heap.size = gv := ⟨_, rfl⟩
        have hgv3 : g + 2 ≤ gv := by omega
        have HTv := Lib.hid (HL.out.below HBv.out)
        have HEx := Lib.hid (show ∀ W, Below gv wv W → W.cell? ⟨g + 1, 0, none⟩ = some (.int .i64 xk) ∧ W.cell? ⟨g + 1, 1, none⟩ = some (.int .i64 xi) ∧ W.cell? ⟨g + 1, 2, none⟩ = some (.int .i64 xn) ∧ W.cell? ⟨g + 1, 3, none⟩ = some (.string (str xt)) from fun W h => (HYv.out.go h (by omega)).ev)
        have HTw := Lib.hid (show ∀ W, Below gv wv W → EvIn W g a1 T1 from fun W h => HTv.out.below (h.mono (by omega)))
        have HV := Lib.hid hgv2
        clear hgv2
        refine wp_region_held (S := fun W => Below gv wv W) hmix ?_
        change wpAnyH _ _ _ _ _ _ _ _ (World.drew _)
        have hS0 : Below gv wv wv.drew := below_drew (Below.refl _ _)
        refine wpAnyH_take (i := 1) (v := .slice a1 k cap1) rfl (by kernel_rfl) (by kernel_rfl) (by kernel_rfl) (fun _ _ _ h => h) (.inl ⟨by kernel_rfl, fun W hW => ?_⟩) hS0 ?_
        · go_simp
        refine wpAnyH_take (i := 3) (v := .agg #[.int .i64 xk, .int .i64 xi, .int .i64 xn, .string (str xt)]) rfl (by kernel_rfl) (by kernel_rfl) (by kernel_rfl) (fun _ _ _ h => h) (.inl ⟨by kernel_rfl, fun W hW => ?_⟩) hS0 ?_
        · obtain ⟨e0, e1, e2, e3⟩ := HEx.out W hW; go_simp
        refine wpAnyH_all (rs := [0, 4]) (by kernel_rfl) (by simp) ?_
        intro z hz
        simp only [List.mem_cons, List.not_mem_nil, or_false] at hz
        clear hS0
        rcases hz with rfl | rfl
        unfold wpOp
        go_simp
        have HS0 := Lib.hid (show Below gv wv (wv.alloc (.cells #[] 30)).drew from below_drew ((Below.refl gv wv).alloc (by rw [HV.out]; omega) _))
        refine .inl ⟨HS0.out, ?_⟩
        refine wpAnyH_all (rs := [2, 4]) (by kernel_rfl) (by simp) ?_
        intro z hz
        simp only [List.mem_cons, List.not_mem_nil, or_false] at hz
        rcases hz with rfl | rfl
        obtain ⟨A4, c4, w4, hrun, hr4, hg4⟩ := run_eappg 24 (show EvRow gv (wv.alloc (.cells #[] 30)).drew (some ⟨wv.heap.size, 0, none⟩) 0 0 [] from (EvRow.empty wv (by rw [HV.out]; omega)).drew) (c2 := cap1) (HTw.out _ HS0.out) HN.out (by omega) (by show gv ≤ (wv.alloc (.cells #[] 30)).heap.size; simp [HV.out])
        rw [Nat.zero_add, List.nil_append] at hr4
        rw [Nat.zero_add] at hrun
        have HB4 := Lib.hid (HS0.out.trans (hg4.below (by show gv ≤ (wv.alloc (.cells #[] 30)).heap.size; simp [HV.out]) (fun b hb => by obtain ⟨p, hp, e⟩ := hb; injection hp with hp; subst hp; simp at e; rw [HV.out] at e; omega)))
        have HZ4 := Lib.hid (show gv ≤ w4.heap.size from Nat.le_trans (by show gv ≤ (wv.alloc (.cells #[] 30)).heap.size; simp [HV.out]) hg4.only.size)
        have HRE := Lib.hid (re_after hr4 HB4.out HZ4.out ⟨xk, xi, xn, xt⟩ HE2.out)
        clear hr4 hg4
        refine wpOp_value rfl rfl (exec_append (s := .tmp 94) (x := .tmp 95) (st := 24) rfl rfl rfl hrun) ⟨HB4.out, ?_⟩
        clear hrun
        refine wpAnyH_all (rs := [4]) (by kernel_rfl) (by simp) ?_
        intro z hz
        rw [List.mem_singleton.1 hz]
        clear hz
        unfold wpOp
        go_simp
        refine .inl ⟨HRE.out.bel, ?_⟩
        obtain ⟨A5, c5, w5, hrun, hr5, hg5⟩ := run_eappg 24 HRE.out.row (m := 1) (c2 := 1) HRE.out.one rfl (by omega) (by have := HRE.out.ge; have := HRE.out.lt; omega)
        have HR5 := Lib.hid hr5
        have HB5 := Lib.hid (HRE.out.app (by have := HRE.out.ge; have := HRE.out.lt; omega) hr5 hg5).bel
        clear hr5 hg5
        refine wpAnyH_all (rs := [5]) (by kernel_rfl) (by simp) ?_
        intro z hz
        rw [List.mem_singleton.1 hz]
        clear hz
        refine wpOp_value rfl rfl (exec_append (s := .tmp 96) (x := .tmp 98) (st := 24) rfl rfl rfl hrun) ⟨HB5.out, ?_⟩
        clear hrun
        have hS0 := HB5.out
        refine wpAnyH_take (i := 6) (v := .slice A5 (k + 1) c5) rfl (by kernel_rfl) (by kernel_rfl) (by kernel_rfl) (fun _ _ _ h => h) (.inl ⟨by kernel_rfl, fun W hW => ?_⟩) hS0 ?_
        · go_simp
        clear hS0
        refine wpAnyH_done (by kernel_rfl) ?_ _
        clear HRE
        go_simp
        rotate_left
        unfold wpOp
        go_simp
        have HRE := Lib.hid (re_01 HV.out ⟨xk, xi, xn, xt⟩ HE2.out)
        refine .inl ⟨HRE.out.bel, ?_⟩
        obtain ⟨A4, c4, w4, hrun, hr4, hg4⟩ := run_eappg 24 HRE.out.row (c2 := cap1) (HTw.out _ HRE.out.bel) HN.out (by omega) (by have := HRE.out.ge; have := HRE.out.lt; omega)
        rw [Nat.zero_add, List.nil_append] at hr4
        rw [Nat.zero_add] at hrun
        have hre := HRE.out.app (by have := HRE.out.ge; have := HRE.out.lt; omega) hr4 hg4
        clear hr4 hg4 HRE
        have HRE := Lib.hid hre
        clear hre
        refine wpAnyH_all (rs := [2]) (by kernel_rfl) (by simp) ?_
        intro z hz
        rw [List.mem_singleton.1 hz]
        clear hz
        refine wpOp_value rfl rfl (exec_append (s := .tmp 94) (x := .tmp 95) (st := 24) rfl rfl rfl hrun) ⟨HRE.out.bel, ?_⟩
        clear hrun
        obtain ⟨A5, c5, w5, hrun, hr5, hg5⟩ := run_eappg 24 HRE.out.row (m := 1) (c2 := 1) HRE.out.one rfl (by omega) (by have := HRE.out.ge; have := HRE.out.lt; omega)
        have HR5 := Lib.hid hr5
        have HB5 := Lib.hid (HRE.out.app (by have := HRE.out.ge; have := HRE.out.lt; omega) hr5 hg5).bel
        clear hr5 hg5
        refine wpAnyH_all (rs := [5]) (by kernel_rfl) (by simp) ?_
        intro z hz
        rw [List.mem_singleton.1 hz]
        clear hz
        refine wpOp_value rfl rfl (exec_append (s := .tmp 96) (x := .tmp 98) (st := 24) rfl rfl rfl hrun) ⟨HB5.out, ?_⟩
        clear hrun
        have hS0 := HB5.out
        refine wpAnyH_take (i := 6) (v := .slice A5 (k + 1) c5) rfl (by kernel_rfl) (by kernel_rfl) (by kernel_rfl) (fun _ _ _ h => h) (.inl ⟨by kernel_rfl, fun W hW => ?_⟩) hS0 ?_
        · go_simp
        clear hS0
        refine wpAnyH_done (by kernel_rfl) ?_ _
        clear HRE
        go_simp
        rotate_left
        unfold wpOp
        go_simp
        refine .inl ⟨below_drew ((Below.refl gv wv).alloc (by rw [HV.out]; omega) _), ?_⟩
        refine wpAnyH_all (rs := [0]) (by kernel_rfl) (by simp) ?_
        intro z hz
        rw [List.mem_singleton.1 hz]
        clear hz
        unfold wpOp
        go_simp
        have HRE := Lib.hid (re_10 HV.out ⟨xk, xi, xn, xt⟩ HE2.out)
        refine .inl ⟨HRE.out.bel, ?_⟩
        obtain ⟨A4, c4, w4, hrun, hr4, hg4⟩ := run_eappg 24 HRE.out.row (c2 := cap1) (HTw.out _ HRE.out.bel) HN.out (by omega) (by have := HRE.out.ge; have := HRE.out.lt; omega)
        rw [Nat.zero_add, List.nil_append] at hr4
        rw [Nat.zero_add] at hrun
        have hre := HRE.out.app (by have := HRE.out.ge; have := HRE.out.lt; omega) hr4 hg4
        clear hr4 hg4 HRE
        have HRE := Lib.hid hre
        clear hre
        refine wpAnyH_all (rs := [2]) (by kernel_rfl) (by simp) ?_
        intro z hz
        rw [List.mem_singleton.1 hz]
        clear hz
        refine wpOp_value rfl rfl (exec_append (s := .tmp 94) (x := .tmp 95) (st := 24) rfl rfl rfl hrun) ⟨HRE.out.bel, ?_⟩
        clear hrun
        obtain ⟨A5, c5, w5, hrun, hr5, hg5⟩ := run_eappg 24 HRE.out.row (m := 1) (c2 := 1) HRE.out.one rfl (by omega) (by have := HRE.out.ge; have := HRE.out.lt; omega)
        have HR5 := Lib.hid hr5
        have HB5 := Lib.hid (HRE.out.app (by have := HRE.out.ge; have := HRE.out.lt; omega) hr5 hg5).bel
        clear hr5 hg5
        refine wpAnyH_all (rs := [5]) (by kernel_rfl) (by simp) ?_
        intro z hz
        rw [List.mem_singleton.1 hz]
        clear hz
        refine wpOp_value rfl rfl (exec_append (s := .tmp 96) (x := .tmp 98) (st := 24) rfl rfl rfl hrun) ⟨HB5.out, ?_⟩
        clear hrun
        have hS0 := HB5.out
        refine wpAnyH_take (i := 6) (v := .slice A5 (k + 1) c5) rfl (by kernel_rfl) (by kernel_rfl) (by kernel_rfl) (fun _ _ _ h => h) (.inl ⟨by kernel_rfl, fun W hW => ?_⟩) hS0 ?_
        · go_simp
        clear hS0
        refine wpAnyH_done (by kernel_rfl) ?_ _
        clear HRE
        go_simp
        all_goals
          have HX5 := Lib.hid (HXv.out.go HB5.out (by omega))
          have HY5 := Lib.hid (HYv.out.go HB5.out (by omega))
          have HBw := Lib.hid (HBv.out.trans (HB5.out.mono (by omega)))
          have hg5 := HY5.out.room
          clear HXv HYv HBv HTv HTw HEx HB5 hgv hgv3 HV
          have hL1 : (T1 ++ ([⟨xk, xi, xn, xt⟩] : List Ev)).length = k + 1 := by simp [HN.out]
          have HL1 := Lib.hid hL1
          have hrA : ∀ x ∈ T1 ++ ([⟨xk, xi, xn, xt⟩] : List Ev), rtE x = true := by
            intro x hx
            rcases List.mem_append.1 hx with h' | h'
            · exact HA.out x h'
            · simp at h'
              subst h'
              exact HR2.out
          have HRA := Lib.hid hrA
          have hxt : xt.length ≤ 4000 := (rtE_in HR2.out).2.2.2.2.2.2
          have hev : 24 + (evs (T1 ++ ([⟨xk, xi, xn, xt⟩] : List Ev))).length = N + (7 + xt.length) := by
            rw [evs_app, List.length_append, ← HNe.out, show evs [⟨xk, xi, xn, xt⟩] = evb ⟨xk, xi, xn, xt⟩ from by simp [evs], evb_len]
            show 24 + (_ + (7 + xt.length)) = _
            omega
          have HEv := Lib.hid hev
          clear hL1 hrA hev
          obtain ⟨c0, c1, c2, c3, c4, c5', c6, c7⟩ := HX5.out.cells8
          have HBy := Lib.hid (lbytes_any ca0 cb0 cc0 cd0 ce0 cf0 cg0 ch0 A5 (k + 1) c5 (T1 ++ ([⟨xk, xi, xn, xt⟩] : List Ev)) w5 HR.out HR5.out.evin HL1.out (by omega) HRA.out)
          unfold cv at HBy
          rw [HEv.out] at HBy
          go_wp2_with fail
          refine HBy.out.mono ?_
          rintro e w6 ⟨A6, c6', rfl, ho, hb⟩
          have HX6 := Lib.hid (HX5.out.go hb (by omega))
          have HY6 := Lib.hid (HY5.out.go hb hg5)
          have HB6 := Lib.hid (HBw.out.trans (hb.mono (by omega)))
          have HR6 := Lib.hid (HR5.out.below hb)
          have HO := Lib.hid ho
          have hg6 := HY6.out.room
          clear hb ho HX5 HY5 HBw HR5 hg5 HBy c0 c1 c2 c3 c4 c5' c6 c7
          have hcs := HO.out.cap
          have HDc := Lib.hid (decode_cbs HR.out A6 _ c6' _ w6 HO.out.bytes HO.out.cap HO.out.capmax (by omega))
          go_wp2_with fail
          refine HDc.out.mono ?_
          rintro e w7 ⟨hb, M7, m7, er7, A7, n7, c7, rfl, hrow, hrd⟩
          obtain ⟨rfl, rfl, rfl⟩ := reads_all hrd HRA.out (by rw [HL1.out]; omega)
          have hn7 := hrow.len
          rw [HL1.out] at hn7
          subst hn7
          rw [HEv.out]
          have HY7 := Lib.hid (HY6.out.go hb hg6)
          have HB7 := Lib.hid (HB6.out.trans (hb.mono (by omega)))
          have HR7 := Lib.hid (HR6.out.below hb)
          have HQ7 := Lib.hid hrow
          have hg7 := HY7.out.room
          clear hb hrow hrd HX6 HY6 HB6 HR6 HO HDc hg6 hcs
          obtain ⟨m0, m1, m2, m3⟩ := HY7.out.ev
          have HSm := Lib.hid (same_any A7 A5 (k + 1) (k + 1) c7 c5 _ _ w7 HQ7.out.evin HR7.out.evin HL1.out HL1.out (by omega))
          unfold cv
          go_wp2_with fail
          refine HSm.out.mono ?_
          rintro e w8 ⟨q, rfl, hb, hq⟩
          obtain rfl : q = true := hq.2 rfl
          have HY8 := Lib.hid (HY7.out.go hb hg7)
          have HB8 := Lib.hid (HB7.out.trans (hb.mono (by omega)))
          clear hb hq m0 m1 m2 m3 HSm HY7 HB7
          obtain ⟨m0, m1, m2, m3⟩ := HY8.out.ev
          have HSz := Lib.hid (str_size xt)
          have hfq : ((N : Int) + (7 + (xt.length : Int)) == (N : Int) + 7 + ((str xt).size : Int)) = true := by rw [HSz.out]; simp; omega
          have hs4 : (str xt).size ≤ 4000 := by rw [HSz.out]; exact hxt
          go_wp2
          go_ret
          exact ⟨rfl, by rw [HG.out]; exact HB8.out⟩

set_option maxRecDepth 100000 in
theorem lifted (os : Os) (started : os.Started) (H : Type) (enc : TypeId × Value → H) :
    ReturnsInHanded {} Try.checked os 5 .any (Rows.scriptCutsSpec.pre6 enc Try.prog Try.f5 Rows.scriptCutsRow.domain false) (Rows.scriptCutsSpec.post enc Try.prog Try.f5 false true false false) := by
  refine returnsInHanded_of_change_sized (C := Try.checked) own started (by kernel_rfl) Try.func5
    (ChangeSpec.witness6 (enc := enc) (C := Try.checked) false ⟨#[], #[.agg #[.int .i64 0, .int .i64 0, .int .i64 0, .int .i64 0, .int .i64 0, .int .i64 0, .int .i64 0, .int .i64 0], .slice none 0 0, .agg #[.int .i64 0, .int .i64 0, .int .i64 0, .string ⟨#[]⟩], .int .i64 0], []⟩ 8 (by kernel_rfl) (by kernel_rfl) (by kernel_rfl) (by kernel_rfl)) ?_
  intro W base args ds gs before hval0 hW hcnd hsz0 _
  have hval : ∀ (j : Nat) t v, Try.f5.params[j]? = some t → args[j]? = some v → Value.okWide Try.prog W .any base t v := hval0
  have hW' := hW
  obtain ⟨p, q, hA0, hV, rfl, hfz, hnd⟩ := hW
  have hsz : (DataW.weightsEach Try.prog (Try.f5.params.toList ++ Rows.scriptCutsSpec.plain.varTypes Try.prog) (ds ++ gs)).all (· ≤ reachBytes) = true := hsz0
  have hA : DataW.TrodAll enc Try.prog W 0 (fun _ => true) true Try.f5.params.toList args.toList ds p := hA0
  rw [Try.params5] at hA hval hsz
  obtain ⟨v0, vs0, d0, ds0, p0, q0, hargs, rfl, rfl, h0, r0⟩ := trodAll_cons hA
  obtain ⟨v1, vs1, d1, ds1, p1, q1, rfl, rfl, rfl, h1, r1⟩ := trodAll_cons r0
  obtain ⟨v2, vs2, d2, ds2, p2, q2, rfl, rfl, rfl, h2, r2⟩ := trodAll_cons r1
  obtain ⟨v3, vs3, d3, ds3, p3, q3, rfl, rfl, rfl, h3, r3⟩ := trodAll_cons r2
  obtain ⟨rfl, rfl, rfl⟩ := trodAll_nil r3
  obtain rfl : args = #[v0, v1, v2, v3] := by cases args; simp_all
  obtain ⟨rfl, rfl⟩ := trodVars_none hV
  have k0 := h0
  have lt0 : ∀ x ∈ p0, x.block < W.heap.size := by obtain ⟨m, hm⟩ := k0; exact DataW.trod_lt m _ _ _ hm
  obtain ⟨ca0, cb0, cc0, cd0, ce0, cf0, cg0, ch0, rfl⟩ := open_conf (hval 0 23 v0 rfl rfl) h0
  obtain ⟨a1, len1, cap1, rfl⟩ := okWide_slice Try.underlying24 (hval 1 24 v1 rfl rfl)
  have k1 := h1
  have lt1 : ∀ x ∈ p1, x.block < W.heap.size := by obtain ⟨m, hm⟩ := k1; exact DataW.trod_lt m _ _ _ hm
  obtain ⟨T1, w1, g1⟩ : ∃ T, EvIn W W.heap.size a1 T ∧ T.length = len1 ∧ len1 ≤ cap1 ∧ cap1 ≤ maxLen := by
    obtain ⟨fuel, hf⟩ := h1
    exact open_events hf
  have k2 := h2
  have lt2 : ∀ x ∈ p2, x.block < W.heap.size := by obtain ⟨m, hm⟩ := k2; exact DataW.trod_lt m _ _ _ hm
  obtain ⟨E2, rfl, w2⟩ := open_event (hval 2 30 v2 rfl rfl) h2
  obtain ⟨a3, rfl, rfl, rfl, w3⟩ := open_int Try.underlying3 (hval 3 3 v3 rfl rfl) h3
  clear hA0 hval0 hsz hsz0
  refine (walk ca0 cb0 cc0 cd0 ce0 cf0 cg0 ch0 a1 len1 cap1 T1 E2 a3 W w1 g1 w2 w3).mono fun e W' ⟨he, bel⟩ => ?_
  subst he
  exact ⟨_, rfl, _, _, _, [], _, [], hW', trodAll_mk1 (shut_bool Try.underlying4 _), (trodAll_cons_mk (Below.trod laidOut (by kernel_rfl) (of_decide_eq_true (by kernel_rfl)) k0 bel lt0) (trodAll_cons_mk (Below.trod laidOut (by kernel_rfl) (of_decide_eq_true (by kernel_rfl)) k1 bel lt1) (trodAll_cons_mk (Below.trod laidOut (by kernel_rfl) (of_decide_eq_true (by kernel_rfl)) k2 bel lt2) (trodAll_cons_mk (shut_int Try.underlying3 w3) trodAll_mk0)))), rfl, bel.frame _, fun h => by cases h⟩

theorem over : Rows.scriptCutsRow.holds Try.pinned (OpenSpec.ofChange Rows.scriptCutsSpec) :=
  OpenClaim.holds_of_wide 5 Try.f5 rfl rfl rfl rfl rfl rfl rfl ⟨rfl, rfl, rfl, rfl, rfl⟩ rfl rfl rfl rfl rfl (by kernel_rfl) Try.func5 (by kernel_rfl)
    (of_decide_eq_true (by kernel_rfl)) (by unfold Func.isWrapper; first | (rw [if_pos (by decide +kernel)]; kernel_rfl) | (rw [if_neg (by decide +kernel)]; exact ⟨rfl, rfl⟩))
    (fun os started H enc _ => lifted os started H enc)

end Go.Proofs.Ytflfchcncmpnbaa.scriptCuts
namespace Go.Proofs.Ytflfchcncmpnbaa
theorem scriptCuts_holds : Rows.ScriptCutsSaid := scriptCuts.over
#print axioms scriptCuts_holds
end Go.Proofs.Ytflfchcncmpnbaa
