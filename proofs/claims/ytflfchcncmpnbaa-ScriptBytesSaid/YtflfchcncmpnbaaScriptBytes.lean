/- ScriptBytes: for every input the law answers true, and its arguments read as before. Conditions: none. -/
import Derived.Test.YtflfchcncmpnbaaSck
namespace Go.Proofs.Ytflfchcncmpnbaa.scriptBytes
open Go.ChangeShapes Go.WideShapes Go.ChangeAt Go.RowKit
open Sc

theorem q_step {R : Prop} {L : List Ev} {k : Nat} {x : Ev} (hx : L[k]? = some x) {q q2 : Bool} (h : q = true ↔ (R ∧ ∀ e ∈ L.take k, rtE e = true)) (h2 : q2 = (q && rtE x)) : q2 = true ↔ (R ∧ ∀ e ∈ L.take (k + 1), rtE e = true) := by
  rw [h2, Bool.and_eq_true, h, List.take_add_one, hx]
  constructor
  · rintro ⟨⟨a, b⟩, c⟩
    refine ⟨a, fun e he => ?_⟩
    rcases List.mem_append.1 he with h' | h'
    · exact b e h'
    · simp at h'; subst h'; exact c
  · rintro ⟨a, b⟩
    exact ⟨⟨a, fun e he => b e (List.mem_append_left _ he)⟩, b x (by simp)⟩

set_option maxHeartbeats 4000000 in
set_option maxRecDepth 100000 in
theorem walk (ca0 cb0 cc0 cd0 ce0 cf0 cg0 ch0 : Int) (a1 : Option Addr) (len1 cap1 : Nat) (T1 : List Sc.Ev) (w : World)  (w1 : EvIn w w.heap.size a1 T1) (g1 : T1.length = len1 ∧ len1 ≤ cap1 ∧ cap1 ≤ maxLen) :
    Calls Try.prog 3 #[.agg (cv ca0 cb0 cc0 cd0 ce0 cf0 cg0 ch0), .slice a1 len1 cap1] w fun e w' => e = .returned (.bool true) ∧ Below w.heap.size w w' := by
  obtain ⟨hn, hcap, hmax⟩ := g1
  unfold maxLen at hmax
  have HL := Lib.hid w1
  have HN := Lib.hid hn
  clear w1 hn
  have hmix : Try.prog.follows .mixedOrders = true := by kernel_rfl
  have HX := Lib.hid (Bx.new w w.heap.size rfl (cv ca0 cb0 cc0 cd0 ce0 cf0 cg0 ch0) 23)
  have HB := Lib.hid ((Below.refl w.heap.size w).alloc (Nat.le_refl _) (.cells (cv ca0 cb0 cc0 cd0 ce0 cf0 cg0 ch0) 23))
  unfold cv at HX HB ⊢
  go_enter Try.func3, Try.ntmps3
  go_upto_region 1 with fail
  generalize w.alloc _ = wa at *
  obtain ⟨g, hg⟩ : ∃ g, w.heap.size = g := ⟨_, rfl⟩
  rw [hg] at HX HB HL
  simp only [hg]
  have HG := Lib.hid hg
  clear hg
  have hgw := HX.out.room
  go_wp2_with fail
  refine (lhead_any wa).mono ?_
  rintro e wb ⟨rfl, hb⟩
  have HXb := Lib.hid (HX.out.go hb hgw)
  have HBb := Lib.hid (HB.out.trans (hb.mono (by omega)))
  have hgb := HXb.out.room
  clear hb HX HB hgw
  go_wp2_with fail
  refine (few_any a1 len1 cap1 T1 wb ((HL.out.below HBb.out).more (by omega)) HN.out (by omega)).mono ?_
  rintro e wc ⟨q0, rfl, hb, hq1, _⟩
  have HXc := Lib.hid (HXb.out.go hb hgb)
  have HBc := Lib.hid (HBb.out.trans (hb.mono (by omega)))
  have hgc := HXc.out.room
  clear hb HXb HBb hgb
  cases q0
  · go_wp2
    go_ret
    exact ⟨rfl, by rw [HG.out]; exact HBc.out⟩
  obtain ⟨h120, htot⟩ := hq1 rfl
  rw [HN.out] at h120
  have HTot := Lib.hid htot
  clear htot hq1
  obtain ⟨c0, c1, c2, c3, c4, c5, c6, c7⟩ := HXc.out.cells8
  have HRt := Lib.hid (lright_any ca0 cb0 cc0 cd0 ce0 cf0 cg0 ch0)
  unfold cv at HRt
  obtain ⟨R, hR⟩ : ∃ R, rt ca0 cb0 cc0 cd0 ce0 cf0 cg0 ch0 = R := ⟨_, rfl⟩
  rw [hR] at HRt
  have HR := Lib.hid hR
  clear hR
  go_wp2_with fail
  refine (HRt.out _).mono ?_
  rintro e wd ⟨rfl, hb⟩
  have HXd := Lib.hid (HXc.out.go hb hgc)
  have HBd := Lib.hid (HBc.out.trans (hb.mono (by omega)))
  have hgd := HXd.out.room
  clear hb HXc HBc hgc c0 c1 c2 c3 c4 c5 c6 c7
  go_wp2_with fail
  go_loopw [5, 23] (fun s i wr => ∃ (k : Nat) (q : Bool), k ≤ len1 ∧ i = .int .i64 (k : Nat) ∧ s = .bool q ∧ Hid (q = true ↔ (R = true ∧ ∀ e ∈ T1.take k, rtE e = true)) ∧ Bx g wr #[.int .i64 ca0, .int .i64 cb0, .int .i64 cc0, .int .i64 cd0, .int .i64 ce0, .int .i64 cf0, .int .i64 cg0, .int .i64 ch0] ∧ Below g w wr) (fun _ i _ => len1 - (intOf i).toNat)
  case atStart => exact ⟨0, R, by omega, rfl, rfl, Lib.hid (by simp), HXd.out, HBd.out⟩
  case round =>
    obtain ⟨k, q, hk, rfl, rfl, HQ, hx, hb⟩ := hrel
    have HXk := Lib.hid hx
    have HBk := Lib.hid hb
    have hgk := hx.room
    clear hx hb HXd HBd hgd
    by_cases hlt : k < len1
    · obtain ⟨x, hx⟩ : ∃ x, T1[k]? = some x := ⟨_, List.getElem?_eq_getElem (by have := HN.out; omega)⟩
      obtain ⟨bb, off, rfl, hbB, hc⟩ := (HL.out.below HBk.out).outer (by have := HN.out; omega)
      obtain ⟨hc0, hc1, hc2, hc3⟩ := hc k x hx
      have HXx := Lib.hid hx
      have HP := Lib.hid (right16_any x)
      have HLw := Lib.hid (lright16_any x)
      have HSt := Lib.hid (fun (q2 : Bool) (h2 : q2 = (q && rtE x)) => q_step HXx.out HQ.out h2)
      clear hc hx HQ
      unfold evv at HP HLw
      obtain ⟨r, hr⟩ : ∃ r, rtE x = r := ⟨_, rfl⟩
      rw [hr] at HP HLw HSt
      clear hr
      have HE := Lib.hid (Bx.new wr wr.heap.size rfl #[.int .i64 x.k, .int .i64 x.i, .int .i64 x.n, .string (str x.t)] 30)
      have hbn := (Below.refl wr.heap.size wr).alloc (Nat.le_refl _) (.cells #[.int .i64 x.k, .int .i64 x.i, .int .i64 x.n, .string (str x.t)] 30)
      have HXe := Lib.hid (HXk.out.go hbn hgk)
      have HBe := Lib.hid (HBk.out.trans (hbn.mono (by omega)))
      clear hbn HXk HBk
      go_upto_region 9 with fail
      generalize wr.alloc _ = we at *
      obtain ⟨ge, hge⟩ : ∃ ge, wr.heap.size = ge := ⟨_, rfl⟩
      rw [hge] at HE hgk
      simp only [hge]
      clear hge hc0 hc1 hc2 hc3
      have hew := HE.out.room
      have HC := Lib.hid (fun (W : World) (h : Below (ge + 1) we W) => (HE.out.go h (Nat.le_refl _)).ev)
      refine wp_region_held (S := fun W => Below (ge + 1) we W) hmix ?_
      change wpAnyH _ _ _ _ _ _ _ _ (World.drew _)
      have hS0 : Below (ge + 1) we we.drew := below_drew (Below.refl _ _)
      refine wpAnyH_take (i := 0) (v := .agg #[.int .i64 x.k, .int .i64 x.i, .int .i64 x.n, .string (str x.t)]) rfl (by kernel_rfl) (by kernel_rfl) (by kernel_rfl) (fun _ _ _ h => h) (.inl ⟨by kernel_rfl, fun W hW => ?_⟩) hS0 ?_
      · obtain ⟨e0, e1, e2, e3⟩ := HC.out W hW; go_simp
      refine wpAnyH_take (i := 2) (v := .agg #[.int .i64 x.k, .int .i64 x.i, .int .i64 x.n, .string (str x.t)]) rfl (by kernel_rfl) (by kernel_rfl) (by kernel_rfl) (fun _ _ _ h => h) (.inl ⟨by kernel_rfl, fun W hW => ?_⟩) hS0 ?_
      · obtain ⟨e0, e1, e2, e3⟩ := HC.out W hW; go_simp
      refine wpAnyH_all (rs := [1]) (by kernel_rfl) (by simp) ?_
      intro z hz
      rw [List.mem_singleton.1 hz]
      clear hz
      unfold wpOp
      go_simp
      refine .inl ((HP.out _).mono ?_)
      rintro e wf ⟨rfl, hbf⟩
      have hbf : Below we.heap.size we.drew wf := hbf
      have HBf := Lib.hid (below_back hbf)
      clear hbf hS0
      go_simp
      refine ⟨HBf.out.mono hew, ?_⟩
      have hS0 := HBf.out.mono hew
      refine wpAnyH_all (rs := [3]) (by kernel_rfl) (by simp) ?_
      intro z hz
      rw [List.mem_singleton.1 hz]
      clear hz
      unfold wpOp
      go_simp
      refine .inl ((HLw.out _).mono ?_)
      rintro e wg ⟨rfl, hbg⟩
      have HBg := Lib.hid (HBf.out.trans (hbg.mono HBf.out.size))
      clear hbg hS0
      go_simp
      refine ⟨HBg.out.mono hew, ?_⟩
      have hS0 := HBg.out.mono hew
      refine wpAnyH_take (i := 4) (v := .bool false) rfl (by kernel_rfl) (by kernel_rfl) (by kernel_rfl) (fun _ _ _ h => h) (.inl ⟨by kernel_rfl, fun W hW => ?_⟩) hS0 ?_
      · go_simp
      refine wpAnyH_done (by kernel_rfl) ?_ _
      have HEg := Lib.hid (HE.out.go HBg.out hew)
      have HXg := Lib.hid (HXe.out.go HBg.out (by omega))
      have HBh := Lib.hid (HBe.out.trans (HBg.out.mono (by omega)))
      clear hS0 HBf HBg HXe HBe HE HC
      obtain ⟨m0, m1, m2, m3⟩ := HEg.out.ev
      cases q
      · have HSn := Lib.hid (HSt.out false (by simp))
        go_wp2_with fail
        go_roundw
        case rel => exact ⟨k + 1, false, by omega, by go_num, rfl, HSn, HXg.out, HBh.out⟩
        case measure => simp [intOf]; omega
      · have HSn := Lib.hid (HSt.out r (by simp))
        go_wp2_with fail
        refine (HLw.out _).mono ?_
        rintro e wi ⟨rfl, hbi⟩
        have HXi := Lib.hid (HXg.out.go hbi HXg.out.room)
        have HBi := Lib.hid (HBh.out.trans (hbi.mono (by have := HXg.out.room; omega)))
        clear hbi
        go_wp2_with fail
        go_roundw
        case rel => exact ⟨k + 1, r, by omega, by go_num, rfl, HSn, HXi.out, HBi.out⟩
        case measure => simp [intOf]; omega
    · obtain rfl : k = len1 := by omega
      have hq := HQ.out
      rw [List.take_of_length_le (by rw [HN.out]; omega)] at hq
      have HQ2 := Lib.hid hq
      clear hq HQ
      have hgk2 := hgk
      obtain ⟨c0, c1, c2, c3, c4, c5, c6, c7⟩ := HXk.out.cells8
      have HTk := Lib.hid ((HL.out.below HBk.out).more (show g ≤ wr.heap.size by omega))
      have HEn := Lib.hid (encode_any ca0 cb0 cc0 cd0 ce0 cf0 cg0 ch0 a1 k cap1 T1 wr HTk.out HN.out (by omega))
      unfold cv at HEn
      go_wp2_with fail
      refine HEn.out.mono ?_
      rintro e ws ⟨hb, hgv⟩
      have HXs := Lib.hid (HXk.out.go hb hgk)
      have HBs := Lib.hid (HBk.out.trans (hb.mono (by omega)))
      have hgs := HXs.out.room
      clear hb HXk HBk hgk hgk2 hlt c0 c1 c2 c3 c4 c5 c6 c7 HTk HEn
      rcases hgv with ⟨h1, _⟩ | ⟨_, h1, rfl⟩ | ⟨_, h1, h2, As, cs, rfl, ho⟩
      · rw [HN.out] at h1; omega
      · obtain rfl : q = false := by
          cases q
          · rfl
          · obtain ⟨h3, h4⟩ := HQ2.out.1 rfl
            rcases h1 with h1 | ⟨y, hy, h1⟩
            · rw [HR.out] at h1; rw [h1] at h3; cases h3
            · rw [h4 y hy] at h1; cases h1
        clear h1 HQ2
        go_wp2
        go_ret
        exact ⟨rfl, by rw [HG.out]; exact HBs.out⟩
      have hRt := h1
      rw [HR.out] at h1
      subst h1
      obtain rfl : q = true := HQ2.out.2 ⟨rfl, h2⟩
      have hbd : (evs T1).length ≤ 6840 := by
        have := HTot.out h2
        rw [tot_evs, HN.out]
        omega
      have HO := Lib.hid ho
      have HA := Lib.hid h2
      have HRt2 := Lib.hid hRt
      clear h2 ho hRt HQ2 HTot HRt
      obtain ⟨EL, hEL⟩ : ∃ EL, evs T1 = EL := ⟨_, rfl⟩
      rw [hEL] at HO hbd
      simp only [hEL]
      have HEL := Lib.hid hEL
      clear hEL
      have hcp := HO.out.cap
      have HDc := Lib.hid (decode_cbs HRt2.out As _ cs EL ws HO.out.bytes HO.out.cap HO.out.capmax (by omega))
      go_wp2_with fail
      refine HDc.out.mono ?_
      rintro e wt ⟨hb, M, m, er, At, nt, ct, rfl, hrow, hrd⟩
      rw [← HEL.out] at hrd
      obtain ⟨rfl, rfl, rfl⟩ := reads_all hrd HA.out (by rw [HN.out]; omega)
      rw [HEL.out]
      have hnt := hrow.len
      rw [HN.out] at hnt
      subst hnt
      have HXt := Lib.hid (HXs.out.go hb hgs)
      have HBt := Lib.hid (HBs.out.trans (hb.mono (by omega)))
      have HOt := Lib.hid (HO.out.below hb)
      have HRow := Lib.hid hrow
      have hgt := HXt.out.room
      clear hb hrow hrd HXs HBs HO hgs HDc
      unfold cv
      go_upto_region 17 with fail
      have HD := Lib.hid (Bx.new wt wt.heap.size rfl #[.int .i64 ca0, .int .i64 cb0, .int .i64 cc0, .int .i64 cd0, .int .i64 ce0, .int .i64 cf0, .int .i64 cg0, .int .i64 ch0] 23)
      have hbn := (Below.refl wt.heap.size wt).alloc (Nat.le_refl _) (.cells #[.int .i64 ca0, .int .i64 cb0, .int .i64 cc0, .int .i64 cd0, .int .i64 ce0, .int .i64 cf0, .int .i64 cg0, .int .i64 ch0] 23)
      have HXu := Lib.hid (HXt.out.go hbn hgt)
      have HBu := Lib.hid (HBt.out.trans (hbn.mono (by omega)))
      have HOu := Lib.hid (HOt.out.below hbn)
      have HRu := Lib.hid (HRow.out.below hbn)
      clear hbn HXt HBt HOt HRow
      generalize wt.alloc _ = wu at *
      obtain ⟨gd, hgd⟩ : ∃ gd, wt.heap.size = gd := ⟨_, rfl⟩
      rw [hgd] at HD hgt
      simp only [hgd]
      clear hgd
      have hdw := HD.out.room
      have hTm : EvIn wu wu.heap.size a1 M := (HL.out.below HBu.out).more (by omega)
      have HTu := Lib.hid hTm
      have hln : M.length = M.length := rfl
      have HBy := Lib.hid (fun (W : World) (h : Below wu.heap.size wu W) => lbytes_any ca0 cb0 cc0 cd0 ce0 cf0 cg0 ch0 a1 k cap1 M W HRt2.out ((HTu.out.below h).more h.size) HN.out (by omega) HA.out)
      have HSm := Lib.hid (fun (W : World) (h : Below wu.heap.size wu W) => same_any At a1 k k ct cap1 M M W ((HRu.out.below h).evin) ((HTu.out.below h).more h.size) HN.out HN.out (by omega))
      unfold cv at HBy
      rw [HEL.out] at HBy
      have HCs := Lib.hid (fun (W : World) (h : Below wu.heap.size wu W) => And.intro (HXu.out.go h (by omega)).cells8 (HD.out.go h (by omega)).cells8)
      have HCv := Lib.hid (fun (W : World) (h : Below wu.heap.size wu W) => conv_str (cap := cs) (HOu.out.below h).bytes)
      obtain ⟨l, hl⟩ : ∃ l, cbs ca0 cb0 cc0 cd0 ce0 cf0 cg0 ch0 ++ EL = l := ⟨_, rfl⟩
      rw [hl] at HBy HCv
      have hsr := str_refl l
      obtain ⟨N, hN⟩ : ∃ N, 24 + EL.length = N := ⟨_, rfl⟩
      have hNe : (24 + (EL.length : Int) == (N : Int)) = true := by simp; omega
      rw [hN] at HBy HCv
      simp only [hN]
      clear hTm hl hN
      refine wp_region_held (S := fun W => Below wu.heap.size wu W) hmix ?_
      change wpAnyH _ _ _ _ _ _ _ _ (World.drew _)
      have hS0 : Below wu.heap.size wu wu.drew := below_drew (Below.refl _ _)
      refine wpAnyH_take (i := 0) (v := .int .i64 0) rfl (by kernel_rfl) (by kernel_rfl) (by kernel_rfl) (fun _ _ _ h => h) (.inl ⟨by kernel_rfl, fun W hW => ?_⟩) hS0 ?_
      · go_simp
      refine wpAnyH_take (i := 1) (v := .bool true) rfl (by kernel_rfl) (by kernel_rfl) (by kernel_rfl) (fun _ _ _ h => h) (.inl ⟨by kernel_rfl, fun W hW => ?_⟩) hS0 ?_
      · go_simp
      refine wpAnyH_take (i := 2) (v := .bool true) rfl (by kernel_rfl) (by kernel_rfl) (by kernel_rfl) (fun _ _ _ h => h) (.inl ⟨by kernel_rfl, fun W hW => ?_⟩) hS0 ?_
      · go_simp
      refine wpAnyH_take (i := 3) (v := .slice As N cs) rfl (by kernel_rfl) (by kernel_rfl) (by kernel_rfl) (fun _ _ _ h => h) (.inl ⟨by kernel_rfl, fun W hW => ?_⟩) hS0 ?_
      · go_simp
      refine wpAnyH_take (i := 4) (v := .string (str l)) rfl (by kernel_rfl) (by kernel_rfl) (by kernel_rfl) (fun _ _ _ h => h) (.inl ⟨by kernel_rfl, fun W hW => ?_⟩) hS0 ?_
      · have hcv := HCv.out W hW; go_simp
      refine wpAnyH_take (i := 5) (v := .agg #[.int .i64 ca0, .int .i64 cb0, .int .i64 cc0, .int .i64 cd0, .int .i64 ce0, .int .i64 cf0, .int .i64 cg0, .int .i64 ch0]) rfl (by kernel_rfl) (by kernel_rfl) (by kernel_rfl) (fun _ _ _ h => h) (.inl ⟨by kernel_rfl, fun W hW => ?_⟩) hS0 ?_
      · obtain ⟨⟨x0, x1, x2, x3, x4, x5, x6, x7⟩, d0, d1, d2, d3, d4, d5, d6, d7⟩ := HCs.out W (hW); go_simp
      refine wpAnyH_take (i := 6) (v := .slice a1 k cap1) rfl (by kernel_rfl) (by kernel_rfl) (by kernel_rfl) (fun _ _ _ h => h) (.inl ⟨by kernel_rfl, fun W hW => ?_⟩) hS0 ?_
      · go_simp
      refine wpAnyH_all (rs := [7]) (by kernel_rfl) (by simp) ?_
      intro z hz
      rw [List.mem_singleton.1 hz]
      clear hz
      unfold wpOp
      go_simp
      refine .inl ((HBy.out _ (below_drew (Below.refl _ _))).mono ?_)
      rintro e wv ⟨Av, cv2, rfl, hov, hbv⟩
      have HBv := Lib.hid (show Below wu.heap.size wu wv from below_back hbv)
      have HOv := Lib.hid hov
      clear hbv hov hS0
      go_simp
      refine ⟨HBv.out, held_more (T := fun W => Below wv.heap.size wv W) (fun W h => HBv.out.trans (h.mono HBv.out.size)) _ _ _ _ ?_⟩
      have HCv2 := Lib.hid (fun (W : World) (h : Below wv.heap.size wv W) => conv_str (cap := cv2) (HOv.out.below h).bytes)
      have HCh := Lib.hid (fun (W : World) (h : Below wv.heap.size wv W) => (show Below wu.heap.size wu W from HBv.out.trans (h.mono HBv.out.size)))
      have hS0 : Below wv.heap.size wv wv := Below.refl _ _
      refine wpAnyH_take (i := 8) (v := .string (str l)) rfl (by kernel_rfl) (by kernel_rfl) (by kernel_rfl) (fun _ _ _ h => h) (.inl ⟨by kernel_rfl, fun W hW => ?_⟩) hS0 ?_
      · have hcv := HCv2.out W hW; go_simp
      refine wpAnyH_take (i := 9) (v := .bool true) rfl (by kernel_rfl) (by kernel_rfl) (by kernel_rfl) (fun _ _ _ h => h) (.inl ⟨by kernel_rfl, fun W hW => ?_⟩) hS0 ?_
      · go_simp
      refine wpAnyH_take (i := 10) (v := .bool true) rfl (by kernel_rfl) (by kernel_rfl) (by kernel_rfl) (fun _ _ _ h => h) (.inl ⟨by kernel_rfl, fun W hW => ?_⟩) hS0 ?_
      · go_simp
      refine wpAnyH_take (i := 11) (v := .bool true) rfl (by kernel_rfl) (by kernel_rfl) (by kernel_rfl) (fun _ _ _ h => h) (.inl ⟨by kernel_rfl, fun W hW => ?_⟩) hS0 ?_
      · go_simp
      refine wpAnyH_take (i := 12) (v := .int .i64 0) rfl (by kernel_rfl) (by kernel_rfl) (by kernel_rfl) (fun _ _ _ h => h) (.inl ⟨by kernel_rfl, fun W hW => ?_⟩) hS0 ?_
      · go_simp
      refine wpAnyH_take (i := 13) (v := .bool true) rfl (by kernel_rfl) (by kernel_rfl) (by kernel_rfl) (fun _ _ _ h => h) (.inl ⟨by kernel_rfl, fun W hW => ?_⟩) hS0 ?_
      · go_simp
      refine wpAnyH_take (i := 14) (v := .bool true) rfl (by kernel_rfl) (by kernel_rfl) (by kernel_rfl) (fun _ _ _ h => h) (.inl ⟨by kernel_rfl, fun W hW => ?_⟩) hS0 ?_
      · go_simp
      refine wpAnyH_take (i := 15) (v := .bool true) rfl (by kernel_rfl) (by kernel_rfl) (by kernel_rfl) (fun _ _ _ h => h) (.inl ⟨by kernel_rfl, fun W hW => ?_⟩) hS0 ?_
      · go_simp
      refine wpAnyH_take (i := 16) (v := .agg #[.int .i64 ca0, .int .i64 cb0, .int .i64 cc0, .int .i64 cd0, .int .i64 ce0, .int .i64 cf0, .int .i64 cg0, .int .i64 ch0]) rfl (by kernel_rfl) (by kernel_rfl) (by kernel_rfl) (fun _ _ _ h => h) (.inl ⟨by kernel_rfl, fun W hW => ?_⟩) hS0 ?_
      · obtain ⟨⟨x0, x1, x2, x3, x4, x5, x6, x7⟩, d0, d1, d2, d3, d4, d5, d6, d7⟩ := HCs.out W (HCh.out W hW); go_simp
      refine wpAnyH_take (i := 17) (v := .agg #[.int .i64 ca0, .int .i64 cb0, .int .i64 cc0, .int .i64 cd0, .int .i64 ce0, .int .i64 cf0, .int .i64 cg0, .int .i64 ch0]) rfl (by kernel_rfl) (by kernel_rfl) (by kernel_rfl) (fun _ _ _ h => h) (.inl ⟨by kernel_rfl, fun W hW => ?_⟩) hS0 ?_
      · obtain ⟨⟨x0, x1, x2, x3, x4, x5, x6, x7⟩, d0, d1, d2, d3, d4, d5, d6, d7⟩ := HCs.out W (HCh.out W hW); go_simp
      refine wpAnyH_take (i := 18) (v := .bool true) rfl (by kernel_rfl) (by kernel_rfl) (by kernel_rfl) (fun _ _ _ h => h) (.inl ⟨by kernel_rfl, fun W hW => ?_⟩) hS0 ?_
      · go_simp
      refine wpAnyH_take (i := 19) (v := .bool true) rfl (by kernel_rfl) (by kernel_rfl) (by kernel_rfl) (fun _ _ _ h => h) (.inl ⟨by kernel_rfl, fun W hW => ?_⟩) hS0 ?_
      · go_simp
      refine wpAnyH_take (i := 20) (v := .bool true) rfl (by kernel_rfl) (by kernel_rfl) (by kernel_rfl) (fun _ _ _ h => h) (.inl ⟨by kernel_rfl, fun W hW => ?_⟩) hS0 ?_
      · go_simp
      refine wpAnyH_take (i := 21) (v := .int .i64 (24 + (EL.length : Int))) rfl (by kernel_rfl) (by kernel_rfl) (by kernel_rfl) (fun _ _ _ h => h) (.inl ⟨by kernel_rfl, fun W hW => ?_⟩) hS0 ?_
      · go_simp
      refine wpAnyH_take (i := 22) (v := .slice As N cs) rfl (by kernel_rfl) (by kernel_rfl) (by kernel_rfl) (fun _ _ _ h => h) (.inl ⟨by kernel_rfl, fun W hW => ?_⟩) hS0 ?_
      · go_simp
      refine wpAnyH_take (i := 23) (v := .int .i64 N) rfl (by kernel_rfl) (by kernel_rfl) (by kernel_rfl) (fun _ _ _ h => h) (.inl ⟨by kernel_rfl, fun W hW => ?_⟩) hS0 ?_
      · go_simp
      refine wpAnyH_take (i := 24) (v := .bool true) rfl (by kernel_rfl) (by kernel_rfl) (by kernel_rfl) (fun _ _ _ h => h) (.inl ⟨by kernel_rfl, fun W hW => ?_⟩) hS0 ?_
      · go_simp
      refine wpAnyH_take (i := 25) (v := .bool true) rfl (by kernel_rfl) (by kernel_rfl) (by kernel_rfl) (fun _ _ _ h => h) (.inl ⟨by kernel_rfl, fun W hW => ?_⟩) hS0 ?_
      · go_simp
      refine wpAnyH_take (i := 26) (v := .bool true) rfl (by kernel_rfl) (by kernel_rfl) (by kernel_rfl) (fun _ _ _ h => h) (.inl ⟨by kernel_rfl, fun W hW => ?_⟩) hS0 ?_
      · go_simp
      refine wpAnyH_take (i := 27) (v := .slice At k ct) rfl (by kernel_rfl) (by kernel_rfl) (by kernel_rfl) (fun _ _ _ h => h) (.inl ⟨by kernel_rfl, fun W hW => ?_⟩) hS0 ?_
      · go_simp
      refine wpAnyH_take (i := 28) (v := .slice a1 k cap1) rfl (by kernel_rfl) (by kernel_rfl) (by kernel_rfl) (fun _ _ _ h => h) (.inl ⟨by kernel_rfl, fun W hW => ?_⟩) hS0 ?_
      · go_simp
      refine wpAnyH_all (rs := [29]) (by kernel_rfl) (by simp) ?_
      intro z hz
      rw [List.mem_singleton.1 hz]
      clear hz
      unfold wpOp
      go_simp
      refine .inl ((HSm.out _ HBv.out).mono ?_)
      rintro e wx ⟨q, rfl, hbx, hq⟩
      obtain rfl : q = true := hq.2 rfl
      have HBx := Lib.hid hbx
      clear hbx hS0 hq
      go_simp
      refine ⟨HBx.out, ?_⟩
      have hS0 := HBx.out
      refine wpAnyH_take (i := 30) (v := .bool true) rfl (by kernel_rfl) (by kernel_rfl) (by kernel_rfl) (fun _ _ _ h => h) (.inl ⟨by kernel_rfl, fun W hW => ?_⟩) hS0 ?_
      · go_simp
      refine wpAnyH_take (i := 31) (v := .bool true) rfl (by kernel_rfl) (by kernel_rfl) (by kernel_rfl) (fun _ _ _ h => h) (.inl ⟨by kernel_rfl, fun W hW => ?_⟩) hS0 ?_
      · go_simp
      refine wpAnyH_done (by kernel_rfl) ?_ _
      have HF := Lib.hid (HBu.out.trans ((HBv.out.mono (show g ≤ wu.heap.size by omega)).trans (HBx.out.mono (show g ≤ wv.heap.size by have := HBv.out.size; omega))))
      clear hS0
      go_wp2
      go_ret
      go_simp
      rw [HG.out]
      exact HF.out

set_option maxRecDepth 100000 in
theorem lifted (os : Os) (started : os.Started) (H : Type) (enc : TypeId × Value → H) :
    ReturnsInHanded {} Try.checked os 3 .any (Rows.scriptBytesSpec.pre6 enc Try.prog Try.f3 Rows.scriptBytesRow.domain false) (Rows.scriptBytesSpec.post enc Try.prog Try.f3 false true false false) := by
  refine returnsInHanded_of_change_sized (C := Try.checked) own started (by kernel_rfl) Try.func3
    (ChangeSpec.witness6 (enc := enc) (C := Try.checked) false ⟨#[], #[.agg #[.int .i64 0, .int .i64 0, .int .i64 0, .int .i64 0, .int .i64 0, .int .i64 0, .int .i64 0, .int .i64 0], .slice none 0 0], []⟩ 8 (by kernel_rfl) (by kernel_rfl) (by kernel_rfl) (by kernel_rfl)) ?_
  intro W base args ds gs before hval0 hW hcnd hsz0 _
  have hval : ∀ (j : Nat) t v, Try.f3.params[j]? = some t → args[j]? = some v → Value.okWide Try.prog W .any base t v := hval0
  have hW' := hW
  obtain ⟨p, q, hA0, hV, rfl, hfz, hnd⟩ := hW
  have hsz : (DataW.weightsEach Try.prog (Try.f3.params.toList ++ Rows.scriptBytesSpec.plain.varTypes Try.prog) (ds ++ gs)).all (· ≤ reachBytes) = true := hsz0
  have hA : DataW.TrodAll enc Try.prog W 0 (fun _ => true) true Try.f3.params.toList args.toList ds p := hA0
  rw [Try.params3] at hA hval hsz
  obtain ⟨v0, vs0, d0, ds0, p0, q0, hargs, rfl, rfl, h0, r0⟩ := trodAll_cons hA
  obtain ⟨v1, vs1, d1, ds1, p1, q1, rfl, rfl, rfl, h1, r1⟩ := trodAll_cons r0
  obtain ⟨rfl, rfl, rfl⟩ := trodAll_nil r1
  obtain rfl : args = #[v0, v1] := by cases args; simp_all
  obtain ⟨rfl, rfl⟩ := trodVars_none hV
  have k0 := h0
  have lt0 : ∀ x ∈ p0, x.block < W.heap.size := by obtain ⟨m, hm⟩ := k0; exact DataW.trod_lt m _ _ _ hm
  obtain ⟨ca0, cb0, cc0, cd0, ce0, cf0, cg0, ch0, rfl⟩ := open_conf (hval 0 23 v0 rfl rfl) h0
  obtain ⟨a1, len1, cap1, rfl⟩ := okWide_slice Try.underlying24 (hval 1 24 v1 rfl rfl)
  have k1 := h1
  have lt1 : ∀ x ∈ p1, x.block < W.heap.size := by obtain ⟨m, hm⟩ := k1; exact DataW.trod_lt m _ _ _ hm
  obtain ⟨T1, w1, g1⟩ : ∃ T, EvIn W W.heap.size a1 T ∧ T.length = len1 ∧ len1 ≤ cap1 ∧ cap1 ≤ maxLen := by
    obtain ⟨fuel, hf⟩ := h1
    exact open_events hf
  clear hA0 hval0 hsz hsz0
  refine (walk ca0 cb0 cc0 cd0 ce0 cf0 cg0 ch0 a1 len1 cap1 T1 W w1 g1).mono fun e W' ⟨he, bel⟩ => ?_
  subst he
  exact ⟨_, rfl, _, _, _, [], _, [], hW', trodAll_mk1 (shut_bool Try.underlying4 _), (trodAll_cons_mk (Below.trod laidOut (by kernel_rfl) (of_decide_eq_true (by kernel_rfl)) k0 bel lt0) (trodAll_cons_mk (Below.trod laidOut (by kernel_rfl) (of_decide_eq_true (by kernel_rfl)) k1 bel lt1) trodAll_mk0)), rfl, bel.frame _, fun h => by cases h⟩

theorem over : Rows.scriptBytesRow.holds Try.pinned (OpenSpec.ofChange Rows.scriptBytesSpec) :=
  OpenClaim.holds_of_wide 3 Try.f3 rfl rfl rfl rfl rfl rfl rfl ⟨rfl, rfl, rfl, rfl, rfl⟩ rfl rfl rfl rfl rfl (by kernel_rfl) Try.func3 (by kernel_rfl)
    (of_decide_eq_true (by kernel_rfl)) (by unfold Func.isWrapper; first | (rw [if_pos (by decide +kernel)]; kernel_rfl) | (rw [if_neg (by decide +kernel)]; exact ⟨rfl, rfl⟩))
    (fun os started H enc _ => lifted os started H enc)

end Go.Proofs.Ytflfchcncmpnbaa.scriptBytes
namespace Go.Proofs.Ytflfchcncmpnbaa
theorem scriptBytes_holds : Rows.ScriptBytesSaid := scriptBytes.over
#print axioms scriptBytes_holds
end Go.Proofs.Ytflfchcncmpnbaa
