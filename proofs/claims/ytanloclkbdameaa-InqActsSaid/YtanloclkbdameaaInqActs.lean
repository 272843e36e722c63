/- InqActs: for every input the law answers true, and its arguments read as before. Conditions: none. -/
import Derived.Test.YtanloclkbdameaaIqh
import Derived.Test.YtanloclkbdameaaSz
import Derived.Test.YtanloclkbdameaaInci
import Derived.Deep.RegionHeld
import Derived.Deep.CutBlock
import Derived.Deep.DeepCutAuto
import Derived.BigQuiet
namespace Go.Proofs.Ytanloclkbdameaa.inqActs
open Go.ChangeShapes Go.WideShapes Go.ChangeAt Go.RowKit
open Go.Deep

/-- so many bytes in all -/
def totl (L : Nat → Nat) : Nat → Nat
  | 0 => 0
  | k + 1 => totl L k + L k

theorem totl_le (L : Nat → Nat) (m : Nat) : ∀ k, (∀ r, r < k → L r ≤ m) → totl L k ≤ k * m
  | 0, _ => Nat.zero_le _
  | k + 1, h => by
    have h1 := totl_le L m k (fun r hr => h r (by omega))
    have h2 := h k (by omega)
    simp only [totl, Nat.succ_mul]
    omega

theorem totl_mono (L : Nat → Nat) (k : Nat) : ∀ n, totl L k ≤ totl L (k + n)
  | 0 => Nat.le_refl _
  | n + 1 => by have := totl_mono L k n; show _ ≤ totl L (k + n) + L (k + n); omega

/-- where the law stands behind so many acts -/
def St (L : Nat → Nat) (k base : Nat) (w0 w : World) (gt gm g room : Nat) (s12 s13 s14 : Value) : Prop :=
  ∃ (F G M : Nat → Prop) (s : Fl) (l : Bs) (tot : Nat) (en : Bool) (sz : Nat), s12 = .string (str l) ∧ s13 = .int .i64 tot ∧ s14 = .bool en ∧ FOk k s ∧ TQM base w0 w F gt s G (IR tot en) g sz l M gm s ∧
    (en = false → sz = room) ∧ (en = true → l = []) ∧ l.length ≤ tot ∧ tot ≤ totl L k

theorem str_extract (l : Bs) (i j : Nat) : (str l).extract i j = str ((l.take j).drop i) := by
  unfold str
  apply ByteArray.ext
  rw [ByteArray.data_extract]
  apply Array.toList_inj.1
  simp [List.map_take, List.map_drop, List.drop_take]

/-- what Offer answers -/
def offI (en : Bool) (s : Fl) (id : Int) (n m room : Nat) : Int := if whyE en s id = 0 then (if room < n + m then 5 else 0) else whyE en s id

/-- what the law wants of Offer, and what it holds for itself behind it -/
def OffSt (base : Nat) (w0 w : World) (F : Nat → Prop) (gt : Nat) (s : Fl) (G : Nat → Prop) (tot : Nat) (en : Bool) (g sz : Nat) (l : Bs) (M : Nat → Prop) (gm ga : Nat) (vs : Array Value) (id : Int) (t : Bs) (room : Nat) (s12 s13 s18 : Value) : Prop :=
  TQM base w0 w F gt s G (IR tot en) g sz l M gm s ∧ Bx ga w vs ∧ s18 = .int .i64 (offI en s id l.length t.length room) ∧
    (offI en s id l.length t.length room = 0 → s12 = .string (str (l ++ t)) ∧ s13 = .int .i64 ((tot + t.length : Nat) : Int)) ∧
    (offI en s id l.length t.length room ≠ 0 → s12 = .string (str l) ∧ s13 = .int .i64 (tot : Int))

theorem OffSt.no {base : Nat} {w0 w : World} {F : Nat → Prop} {gt : Nat} {s : Fl} {G : Nat → Prop} {tot : Nat} {en : Bool} {g sz : Nat} {l : Bs} {M : Nat → Prop} {gm ga : Nat} {vs : Array Value} {id : Int} {t : Bs} {room : Nat} {v : Int}
    (h : TQM base w0 w F gt s G (IR tot en) g sz l M gm s) (hx : Bx ga w vs) (hv : offI en s id l.length t.length room = v) (h0 : v ≠ 0) : OffSt base w0 w F gt s G tot en g sz l M gm ga vs id t room (.string (str l)) (.int .i64 (tot : Int)) (.int .i64 v) :=
  ⟨h, hx, by rw [hv], fun h => absurd (hv.symm.trans h) h0, fun _ => ⟨rfl, rfl⟩⟩

theorem OffSt.yes {base : Nat} {w0 w : World} {F : Nat → Prop} {gt : Nat} {s : Fl} {G : Nat → Prop} {tot : Nat} {en : Bool} {g sz : Nat} {l : Bs} {M : Nat → Prop} {gm ga : Nat} {vs : Array Value} {id : Int} {t : Bs} {room : Nat} {s13 : Value}
    (h : TQM base w0 w F gt s G (IR tot en) g sz l M gm s) (hx : Bx ga w vs) (hv : offI en s id l.length t.length room = 0) (h13 : s13 = .int .i64 ((tot + t.length : Nat) : Int)) : OffSt base w0 w F gt s G tot en g sz l M gm ga vs id t room (.string (str (l ++ t))) s13 (.int .i64 0) :=
  ⟨h, hx, by rw [hv], fun _ => ⟨rfl, h13⟩, fun h => absurd hv h⟩

set_option maxRecDepth 100000 in
set_option maxHeartbeats 4000000 in
theorem walk (a0 : Int) (a1 : Option Addr) (len1 cap1 : Nat) (K1 I1 R1 : Nat → Int) (A1 : Nat → Option Addr) (L1 C1 : Nat → Nat) (T1 : Nat → Bs) (w : World) (w0 : (Lit.int .i64 a0).wf = true) (w1 : Iacts w w.heap.size a1 len1 K1 I1 R1 A1 L1 C1 T1) (g1 : len1 ≤ cap1 ∧ cap1 ≤ maxLen) :
    Calls Try.prog 3 #[.int .i64 a0, .slice a1 len1 cap1] w fun e w' => e = .returned (.bool true) ∧ Below w.heap.size w w' := by
  have HW1 := Lib.hid w1
  have HG := Lib.hid g1
  have hmax : len1 ≤ 9223372036854775807 := by have := g1.1; have := g1.2; unfold maxLen at this; omega
  have HA0 := Lib.hid w0
  clear w1 w0 HA0 g1
  by_cases hlen : 100 < len1
  · go_enter Try.func3, Try.ntmps3
    go_wp2_with fail
    refine (ihead_any w).mono ?_
    rintro e w1 ⟨rfl, hb1⟩
    go_wp2
    go_ret
    exact ⟨rfl, hb1⟩
  · have hlen0 : len1 ≤ 100 := by omega
    have hd0 : decide (100 < (len1 : Int)) = false := by simp; omega
    clear hlen
    go_enter Try.func3, Try.ntmps3
    go_wp2_with fail
    refine (ihead_any w).mono ?_
    rintro e w1 ⟨rfl, hb1⟩
    have HB1 := Lib.hid hb1
    clear hb1
    go_wp2
    go_loopw [5, 28] (fun s5 i wr => ∃ k : Nat, k ≤ len1 ∧ i = .int .i64 k ∧ s5 = .int .i64 (totl L1 k) ∧ Below w.heap.size w wr) (fun _ i _ => len1 - (intOf i).toNat)
    case atStart => exact ⟨0, by omega, rfl, rfl, HB1.out⟩
    case round =>
      obtain ⟨k, hk, rfl, rfl, hbr⟩ := hrel
      have HBr := Lib.hid hbr
      clear hbr
      by_cases hlt : k < len1
      · obtain ⟨b, off, rfl, hbB, hc⟩ := (HW1.out.below HBr.out).outer (by omega)
        obtain ⟨hc0, hc1, hc2, hc3⟩ := hc k hlt
        have hsz := HBr.out.size
        clear hc
        have hadd : (totl L1 k : Int) + (L1 k : Int) ≤ 9223372036854775807 := by
          have h1 := totl_le L1 most (k + 1) (fun r hr => Nat.le_trans (HW1.out.inner r (by omega)).2.2.1 (HW1.out.inner r (by omega)).2.2.2)
          have h2 : (k + 1) * most ≤ 100 * most := Nat.mul_le_mul_right _ (by omega)
          unfold most at h1 h2
          simp only [totl] at h1
          omega
        go_wp2
        go_roundw
        case rel => exact ⟨k + 1, by omega, by go_num, by simp only [totl]; go_num, HBr.out.alloc hsz _⟩
        case measure => simp [intOf]; omega
      · obtain rfl : k = len1 := by omega
        by_cases htot : 2000 < totl L1 k
        · go_wp2
          go_ret
          exact ⟨rfl, HBr.out⟩
        · have hd1 : decide (2000 < (totl L1 k : Int)) = false := by simp; omega
          clear HB1
          go_wp2_with fail
          refine (tnew_any 10 wr).mono ?_
          rintro e w2 ⟨F, gt, rfl, ht, hF, hb2⟩
          have H2 := Lib.hid (TB.new HBr.out HBr.out.size ht hF hb2)
          clear ht hF hb2 HBr
          go_wp2_with fail
          refine (mnew_any 10 w2).mono ?_
          rintro e w3 ⟨M, gm, rfl, hM, hMl, hb3⟩
          have H3 := Lib.hid (show TM w.heap.size w w3 F gt (fnew 10) M gm (fnew 10) from
            ⟨H2.out.keep (only_of_below hb3) (fun _ _ h => h) (fun _ h => h.elim), hM, fun b hb hMb => by have := H2.out.tab.lt b hb; have := hMl b hMb; omega, fun b hb => Nat.le_trans H2.out.hs (hMl b hb)⟩)
          clear hM hMl hb3 H2
          go_wp2_with fail
          refine (iq_new a0 w3).mono ?_
          rintro e w4 ⟨g, G, rfl, hq, hG, hb4⟩
          have H4 := Lib.hid (show TQM w.heap.size w w4 F gt (fnew 10) G (IR 0 false) g (sizeOf' a0) [] M gm (fnew 10) from
            ⟨TQ.made H3.out.tb hq hG hb4, H3.out.md.keep (only_of_below hb4) (fun _ _ h => h), H3.out.ap, fun b hb hMb => by have := H3.out.md.lt b hMb; have := hG b hb; omega, H3.out.ml⟩)
          clear hq hG hb4 H3
          have HTT := Lib.hid htot
          clear hd1 htot hk hlt
          go_upto_region 16 with fail
          go_cut [11] (fun s11 wx => s11 = .int .i64 (sizeOf' a0 : Nat) ∧ wx = w4)
          case first =>
            rcases (show a0 < 0 ∨ 65536 < a0 ∨ (0 ≤ a0 ∧ a0 ≤ 65536) by omega) with h | h | ⟨h, h'⟩
            all_goals
              have hx : Hid (((sizeOf' a0 : Nat) : Int) = min (max a0 0) 65536) := Lib.hid (by unfold sizeOf'; omega)
              go_wp2
              go_meet
              exact ⟨by rw [hx.out]; first | done | (congr 1; omega), rfl⟩
          case rest =>
            obtain ⟨rfl, rfl⟩ := hcut
            have hroom : sizeOf' a0 ≤ 65536 := by unfold sizeOf'; omega
            generalize sizeOf' a0 = room at *
            go_wp2
            go_loopw [12, 13, 14, 49] (fun s12 s13 s14 i wr => ∃ r : Nat, r ≤ k ∧ i = .int .i64 r ∧ St L1 r w.heap.size w wr gt gm g room s12 s13 s14) (fun _ _ _ i _ => k - (intOf i).toNat)
            case atStart => exact ⟨0, by omega, rfl, F, G, M, fnew 10, [], 0, false, room, rfl, rfl, rfl, fok_new 10, H4.out, fun _ => rfl, (fun h => by cases h), Nat.le_refl _, Nat.le_refl _⟩
            case round =>
              obtain ⟨r, hr, rfl, F, G, M, s, l, tot, en, sz, rfl, rfl, rfl, hok, htq, hroo, hen, hlt1, hlt2⟩ := hrel
              have HT := Lib.hid htq
              have HK := Lib.hid hok
              have HE := Lib.hid (And.intro hroo hen)
              have hfit := htq.tq.qu.fit
              clear htq hok hroo hen H4
              by_cases hlt : r < k
              · obtain ⟨b, off, rfl, hbB, hc⟩ := (HW1.out.below HT.out.tq.tb.bel).outer (by omega)
                obtain ⟨hc0, hc1, hc2, hc3⟩ := hc r hlt
                obtain ⟨⟨hwk, hwi, hwn⟩, hin⟩ := HW1.out.inner r hlt
                clear hc
                obtain ⟨K, hK⟩ : ∃ K, K1 r = K := ⟨_, rfl⟩
                obtain ⟨I, hI⟩ : ∃ I, I1 r = I := ⟨_, rfl⟩
                obtain ⟨N, hN⟩ : ∃ N, R1 r = N := ⟨_, rfl⟩
                obtain ⟨Ln, hLn⟩ : ∃ Ln, L1 r = Ln := ⟨_, rfl⟩
                obtain ⟨A, hA⟩ : ∃ A, A1 r = A := ⟨_, rfl⟩
                obtain ⟨C, hC⟩ : ∃ C, C1 r = C := ⟨_, rfl⟩
                obtain ⟨T, hTT⟩ : ∃ T, T1 r = T := ⟨_, rfl⟩
                rw [hK] at hc0 hwk
                rw [hI] at hc1 hwi
                rw [hN] at hc2 hwn
                rw [hA, hLn, hC] at hc3
                rw [hA, hLn, hC, hTT] at hin
                have htl : totl L1 r ≤ totl L1 (r + 1) := totl_mono L1 r 1
                have htl2 : totl L1 (r + 1) = totl L1 r + Ln := by rw [← hLn]; rfl
                have htl3 : totl L1 (r + 1) ≤ 2000 := by
                  have := totl_mono L1 (r + 1) (k - (r + 1))
                  rw [show r + 1 + (k - (r + 1)) = k by omega] at this
                  have := HTT.out
                  omega
                have HWI := Lib.hid hwi
                have HWN := Lib.hid hwn
                have HIN := Lib.hid hin.1
                clear hK hI hN hA hLn hC hTT hwk hwi hwn hin
                obtain ⟨q, hq15, hand⟩ := and15 K
                go_upto_block 4 with fail
                have HX := Lib.hid (Bx.new wr wr.heap.size rfl #[.int .i64 K, .int .i64 I, .int .i64 N, .slice A Ln C] 26)
                have HT3 := Lib.hid (HT.out.alloc (.cells #[.int .i64 K, .int .i64 I, .int .i64 N, .slice A Ln C] 26))
                have HA := Lib.hid (show (∀ b, F b → ¬ b = wr.heap.size) ∧ (∀ b, G b → ¬ b = wr.heap.size) ∧ (∀ b, M b → ¬ b = wr.heap.size) from
                  ⟨fun b hb e => by have := HT.out.tq.tb.tab.lt b hb; omega, fun b hb e => by have := HT.out.tq.qu.lt b hb; omega, fun b hb e => by have := HT.out.md.lt b hb; omega⟩)
                generalize wr.alloc (.cells #[.int .i64 K, .int .i64 I, .int .i64 N, .slice A Ln C] 26) = w3 at *
                generalize wr.heap.size = ga at *
                have hx1 := HX.out.cell 1 (.int .i64 I) rfl
                have hx2 := HX.out.cell 2 (.int .i64 N) rfl
                have hx3 := HX.out.cell 3 (.slice A Ln C) rfl
                have hss := str_size l
                clear hc0 hc1 hc2 hc3 HT hbB
                go_cut [12, 13, 14] (fun s12 s13 s14 wx => St L1 (r + 1) w.heap.size w wx gt gm g room s12 s13 s14)
                case first =>
                  rcases (show q = 4 ∨ q = 5 ∨ q = 6 ∨ q = 7 ∨ q = 8 ∨ q = 9 ∨ (q ≤ 3 ∨ 10 ≤ q) by omega) with rfl | rfl | rfl | rfl | rfl | rfl | hq
                  · as_aux_lemma =>
                      go_upto_region 41 with fail
                      go_cut [17] (fun s17 wx => s17 = .int .i64 (takes N l.length : Nat) ∧ wx = w3)
                      case first =>
                        have hx : Hid (((takes N l.length : Nat) : Int) = min (max N 0) l.length) := Lib.hid (by unfold takes; omega)
                        rcases (show N < 0 ∨ (0 ≤ N ∧ N ≤ l.length) ∨ ((l.length : Int) < N) by omega) with h' | ⟨h', h''⟩ | h'
                        all_goals
                          go_wp2
                          go_meet
                          exact ⟨by rw [hx.out]; first | done | (congr 1; omega), rfl⟩
                      case rest =>
                        obtain ⟨rfl, rfl⟩ := hcut
                        obtain ⟨m, hm⟩ : ∃ m, takes N l.length = m := ⟨_, rfl⟩
                        have hml : m ≤ l.length := by rw [← hm]; unfold takes; omega
                        rw [hm]
                        have HM := Lib.hid hm
                        clear hm
                        go_wp2
                        have hx2d : wc.drew.cell? ⟨ga, 2, none⟩ = some (.int .i64 N) := hx2
                        have HTd := Lib.hid HT3.out.drew
                        have HXd := Lib.hid (HX.out.keep ((Only.refl (fun _ => False) wc).drew) (fun h => h))
                        have hml2 : (m : Int) ≤ (l.length : Int) := by omega
                        have hex1 : (str l).extract 0 m = str (l.take m) := by rw [str_extract, List.drop_zero]
                        have hex2 : (str l).extract m l.length = str (l.drop m) := by rw [str_extract, List.take_length]
                        have hss2 : (str (l.drop m)).size = l.length - m := by rw [str_size, List.length_drop]
                        go_region_held (fun w' => w'.cell? ⟨ga, 2, none⟩ = some (.int .i64 N)) (first | go_keep | exact hz4)
                          (first | (go_at_call 13; refine (q_take HTd.out.tq.qu N m HM.out).mono ?_; rintro e w5 ⟨rfl, hb5, hg5⟩; obtain ⟨G5, _, h5, hO5⟩ := HTd.out.q hg5; have hz4 : w5.cell? ⟨ga, 2, none⟩ = some (.int .i64 N) := (HXd.out.keep hO5 (fun hb => HA.out.2.1 _ hb rfl)).cell 2 _ rfl; have hcv : (convert 24 9 (.slice (some ⟨wc.heap.size, 0, none⟩) m m)).run Try.prog w5 = .ok (.string (str (l.take m))) w5 := conv_str (cap := m) hb5; have HT5 := Lib.hid h5; clear hb5 hg5 h5 hO5) | fail)
                        all_goals
                          go_wp2
                          go_meet
                          exact ⟨F, G5, M, s, l.drop m, tot, en, sz, rfl, rfl, rfl, HK.out.mono (Nat.le_succ r), HT5.out, HE.out.1, (fun h => by rw [HE.out.2 h, List.drop_nil]), by rw [List.length_drop]; omega, Nat.le_trans hlt2 htl⟩
                  · as_aux_lemma =>
                      go_wp2_with fail
                      refine (tjoin_any HT3.out.tq.tb.tab HK.out (by omega) I N HWI.out HWN.out).mono ?_
                      intro e w5 hg
                      obtain ⟨F5, rfl, h5, hO5⟩ := HT3.out.t hg
                      have HX5 := Lib.hid (HX.out.keep hO5 (fun hb => HA.out.1 _ hb rfl))
                      have HT5 := Lib.hid h5
                      have hx1 := HX5.out.cell 1 (.int .i64 I) rfl
                      have hx2 := HX5.out.cell 2 (.int .i64 N) rfl
                      clear hg h5 hO5 HX HT3
                      obtain ⟨bm, la, n, c, hmd⟩ := HT5.out.md
                      go_wp2_with fail
                      refine (mjoin_any hmd HK.out (by omega) I N HWI.out HWN.out).mono ?_
                      intro e w6 hg
                      obtain ⟨M6, rfl, h6, hO6⟩ := HT5.out.m hg
                      have HT6 := Lib.hid h6
                      clear hg h6 hO6 HT5 HX5 hmd
                      go_wp2
                      go_meet
                      exact ⟨F5, G, M6, _, l, tot, en, sz, rfl, rfl, rfl, HK.out.join N (wf64_bounds HWI.out).2, HT6.out, HE.out.1, HE.out.2, hlt1, Nat.le_trans hlt2 htl⟩
                  · as_aux_lemma =>
                      go_wp2_with fail
                      refine (tset_any HT3.out.tq.tb.tab HK.out (by omega) I N HWI.out HWN.out).mono ?_
                      intro e w5 hg
                      obtain ⟨F5, rfl, h5, hO5⟩ := HT3.out.t hg
                      have HX5 := Lib.hid (HX.out.keep hO5 (fun hb => HA.out.1 _ hb rfl))
                      have HT5 := Lib.hid h5
                      have hx1 := HX5.out.cell 1 (.int .i64 I) rfl
                      have hx2 := HX5.out.cell 2 (.int .i64 N) rfl
                      clear hg h5 hO5 HX HT3
                      obtain ⟨bm, la, n, c, hmd⟩ := HT5.out.md
                      go_wp2_with fail
                      refine (mset_any hmd HK.out (by omega) I N HWI.out HWN.out).mono ?_
                      intro e w6 hg
                      obtain ⟨M6, rfl, h6, hO6⟩ := HT5.out.m hg
                      have HT6 := Lib.hid h6
                      clear hg h6 hO6 HT5 HX5 hmd
                      go_wp2
                      go_meet
                      exact ⟨F5, G, M6, _, l, tot, en, sz, rfl, rfl, rfl, (HK.out.set I N).mono (Nat.le_succ r), HT6.out, HE.out.1, HE.out.2, hlt1, Nat.le_trans hlt2 htl⟩
                  · as_aux_lemma =>
                      go_wp2_with fail
                      refine (task_any HT3.out.tq.tb.tab HK.out (by omega) I HWI.out).mono ?_
                      intro e w5 hg
                      obtain ⟨F5, rfl, h5, hO5⟩ := HT3.out.t hg
                      have HX5 := Lib.hid (HX.out.keep hO5 (fun hb => HA.out.1 _ hb rfl))
                      have HT5 := Lib.hid h5
                      have hx1 := HX5.out.cell 1 (.int .i64 I) rfl
                      have hx2 := HX5.out.cell 2 (.int .i64 N) rfl
                      clear hg h5 hO5 HX HT3
                      obtain ⟨bm, la, n, c, hmd⟩ := HT5.out.md
                      go_wp2_with fail
                      refine (mask_any hmd HK.out (by omega) I HWI.out).mono ?_
                      intro e w6 hg
                      obtain ⟨M6, rfl, h6, hO6⟩ := HT5.out.m hg
                      have HT6 := Lib.hid h6
                      clear hg h6 hO6 HT5 HX5 hmd
                      go_wp2
                      go_meet
                      exact ⟨F5, G, M6, _, l, tot, en, sz, rfl, rfl, rfl, HK.out.ask I, HT6.out, HE.out.1, HE.out.2, hlt1, Nat.le_trans hlt2 htl⟩
                  · as_aux_lemma =>
                      go_wp2_with fail
                      refine (tdrop_any HT3.out.tq.tb.tab HK.out (by omega) I HWI.out).mono ?_
                      intro e w5 hg
                      obtain ⟨F5, rfl, h5, hO5⟩ := HT3.out.t hg
                      have HX5 := Lib.hid (HX.out.keep hO5 (fun hb => HA.out.1 _ hb rfl))
                      have HT5 := Lib.hid h5
                      have hx1 := HX5.out.cell 1 (.int .i64 I) rfl
                      have hx2 := HX5.out.cell 2 (.int .i64 N) rfl
                      clear hg h5 hO5 HX HT3
                      obtain ⟨bm, la, n, c, hmd⟩ := HT5.out.md
                      go_wp2_with fail
                      refine (mdrop_any hmd HK.out (by omega) I HWI.out).mono ?_
                      intro e w6 hg
                      obtain ⟨M6, rfl, h6, hO6⟩ := HT5.out.m hg
                      have HT6 := Lib.hid h6
                      clear hg h6 hO6 HT5 HX5 hmd
                      go_wp2
                      go_meet
                      exact ⟨F5, G, M6, _, l, tot, en, sz, rfl, rfl, rfl, (HK.out.drop I).mono (Nat.le_succ r), HT6.out, HE.out.1, HE.out.2, hlt1, Nat.le_trans hlt2 htl⟩
                  · as_aux_lemma =>
                      go_wp2_with fail
                      refine (iq_end HT3.out.tq.qu).mono ?_
                      intro e w5 hg
                      obtain ⟨G5, rfl, h5, hO5⟩ := HT3.out.q hg
                      have HT5 := Lib.hid h5
                      clear hg h5 hO5 HT3 HX
                      go_wp2
                      go_meet
                      exact ⟨F, G5, M, s, [], tot, true, 0, rfl, rfl, rfl, HK.out.mono (Nat.le_succ r), HT5.out, (fun h => by cases h), fun _ => rfl, Nat.zero_le _, Nat.le_trans hlt2 htl⟩
                  · as_aux_lemma =>
                      have q4 : ((q : Int) == 4) = false := by simp; omega
                      have q5 : ((q : Int) == 5) = false := by simp; omega
                      have q6 : ((q : Int) == 6) = false := by simp; omega
                      have q7 : ((q : Int) == 7) = false := by simp; omega
                      have q8 : ((q : Int) == 8) = false := by simp; omega
                      have q9 : ((q : Int) == 9) = false := by simp; omega
                      clear hq
                      have HWy := Lib.hid (show whyE en s I = if en then 1 else if rhas s.roles I = false then 2 else if rrole s.roles I = 0 then 3 else if fhold s ≠ I then 4 else 0 from rfl)
                      have HOf := Lib.hid (show offI en s I l.length T.length room = if whyE en s I = 0 then (if room < l.length + T.length then 5 else 0) else whyE en s I from rfl)
                      have htlen := HIN.out.1
                      obtain ⟨bm, la, n, c, hmd⟩ := HT3.out.md
                      have hlk : (Instr.lookup 44 (.map (some bm)) (.int .i64 I) true).run Try.prog w3.drew = .ok (.tuple #[.int .i64 (rrole s.roles I), .bool (rhas s.roles I)]) w3.drew := (hmd.keep ((Only.refl (fun _ => False) w3).drew) (fun _ _ h => h)).rm.look_ok HWI.out
                      have hlk2 : (Instr.lookup 44 (.map (some bm)) (.int .i64 I) true).run Try.prog w3 = .ok (.tuple #[.int .i64 (rrole s.roles I), .bool (rhas s.roles I)]) w3 := hmd.rm.look_ok HWI.out
                      have hlk3 : ∀ n, (Instr.lookup 44 (.map (some bm)) (.int .i64 I) true).run Try.prog (w3.drewN n) = .ok (.tuple #[.int .i64 (rrole s.roles I), .bool (rhas s.roles I)]) (w3.drewN n) := fun n => (hmd.drewN n).rm.look_ok HWI.out
                      have hm2 := hmd.bx.cell 2 (.map (some bm)) rfl
                      have HMD := Lib.hid (fun W (hW : MdAt M gm bm la n c W s) => mhold_any hW)
                      have HMd := Lib.hid hmd
                      clear hmd
                      generalize rhas s.roles I = B at *
                      generalize rrole s.roles I = ro at *
                      generalize fhold s = hd at *
                      go_upto_region 25 with fail
                      go_quiet (fail)
                      have HT4 := Lib.hid (HT3.out.drewN nq)
                      have HX4 := Lib.hid (HX.out.drewN nq)
                      have HMd4 := Lib.hid (HMd.out.drewN nq)
                      clear hlk hlk2 hlk3 hm2 hx1 hx2 hx3 HT3 HX HMd
                      generalize w3.drewN nq = w4 at *
                      have hx1 := HX4.out.cell 1 (.int .i64 I) rfl
                      have hx3 := HX4.out.cell 3 (.slice A Ln C) rfl
                      go_upto_block 5 with fail
                      go_cut [12, 13, 18] (fun s12 s13 s18 wx => OffSt w.heap.size w wx F gt s G tot en g sz l M gm ga #[.int .i64 K, .int .i64 I, .int .i64 N, .slice A Ln C] I T room s12 s13 s18)
                      case first =>
                        cases en
                        · cases B
                          · go_wp2
                            go_meet
                            exact OffSt.no HT4.out HX4.out (by rw [HOf.out, HWy.out]; rfl) (by decide)
                          · by_cases hr0 : ro = 0
                            · subst hr0
                              go_wp2
                              go_meet
                              exact OffSt.no HT4.out HX4.out (by rw [HOf.out, HWy.out]; rfl) (by decide)
                            · have hr1 : (ro == 0) = false := by simpa using hr0
                              by_cases hh : hd = I
                              · subst hh
                                have hwy0 : whyE false s hd = 0 := by rw [HWy.out]; simp [hr0]
                                have hx1n := fun n => (HX4.out.drewN n).cell 1 (.int .i64 hd) rfl
                                go_upto_region 34 with fail
                                go_quiet (first | (go_at_call 23; exact Calls.quiet_of_same (HMD.out _ (HMd4.out.drewN _))) | fail)
                                have HT5 := Lib.hid (HT4.out.drewN nq)
                                have HX5 := Lib.hid (HX4.out.drewN nq)
                                clear hx1n hx1 hx3
                                generalize w4.drewN nq = w5 at *
                                have hx3 := HX5.out.cell 3 (.slice A Ln C) rfl
                                have hLn : Ln ≤ 2000 := by omega
                                by_cases hfull : room < l.length + Ln
                                · have hdf : decide ((room : Int) < (l.length : Int) + (Ln : Int)) = true := by simp; omega
                                  go_wp2
                                  go_meet
                                  exact OffSt.no HT5.out HX5.out (by rw [HOf.out, if_pos hwy0, htlen, if_pos hfull]) (by decide)
                                · have hdf : decide ((room : Int) < (l.length : Int) + (Ln : Int)) = false := by simp; omega
                                  have hcv := conv_str (cap := C) (HIN.out.below HT5.out.tq.tb.bel)
                                  have hts : (str T).size = Ln := by rw [str_size]; exact htlen
                                  have hov : ¬ (9223372036854775807 < l.length + Ln) := by omega
                                  have HTL := Lib.hid htlen
                                  clear htlen
                                  go_wp2
                                  go_meet
                                  rw [← str_app]
                                  exact OffSt.yes HT5.out HX5.out (by rw [HOf.out, if_pos hwy0, HTL.out, if_neg hfull]) (by rw [HTL.out]; go_num)
                              · have hh1 : (hd != I) = true := by simpa using hh
                                have hx1n := fun n => (HX4.out.drewN n).cell 1 (.int .i64 I) rfl
                                go_upto_region 34 with fail
                                go_quiet (first | (go_at_call 23; exact Calls.quiet_of_same (HMD.out _ (HMd4.out.drewN _))) | fail)
                                go_wp2
                                go_meet
                                exact OffSt.no (HT4.out.drewN nq) (HX4.out.drewN nq) (by rw [HOf.out, HWy.out]; simp [hr0, hh]) (by decide)
                        · go_wp2
                          go_meet
                          exact OffSt.no HT4.out HX4.out (by rw [HOf.out, HWy.out]; rfl) (by decide)
                      case rest =>
                        obtain ⟨ht5, hx5, rfl, hyes, hno⟩ := hcut
                        have HT5 := Lib.hid ht5
                        have HX5 := Lib.hid hx5
                        clear ht5 hx5 HT4 HX4 HMd4 hx1 hx3
                        have hx1 := HX5.out.cell 1 (.int .i64 I) rfl
                        have hx3 := HX5.out.cell 3 (.slice A Ln C) rfl
                        have HOI := Lib.hid HOf.out
                        obtain ⟨v, hv⟩ : ∃ v, offI en s I l.length T.length room = v := ⟨_, rfl⟩
                        rw [hv] at HOI hyes hno ⊢
                        by_cases hv0 : v = 0
                        · obtain ⟨rfl, rfl⟩ := hyes hv0
                          subst hv0
                          have hwy0 : whyE en s I = 0 := by
                            have h := HOI.out
                            by_cases hw : whyE en s I = 0
                            · exact hw
                            · rw [if_neg hw] at h
                              exact h.symm
                          have hen0 : en = false := by
                            cases en
                            · rfl
                            · rw [HWy.out] at hwy0
                              cases hwy0
                          have hfit2 : l.length + Ln ≤ sz := by
                            have h := HOI.out
                            rw [if_pos hwy0, htlen] at h
                            rw [HE.out.1 hen0]
                            by_cases hw : room < l.length + Ln
                            · rw [if_pos hw] at h
                              cases h
                            · omega
                          clear hyes hno hv
                          go_wp2_with fail
                          refine (iq_offer_yes HT5.out.tq.qu HT5.out.tq.tb.tab HK.out I HWI.out C (HIN.out.below HT5.out.tq.tb.bel) hwy0 hfit2 (by omega)).mono ?_
                          intro e w6 hg
                          obtain ⟨G6, rfl, h6, _⟩ := HT5.out.q hg
                          rw [← htlen] at h6
                          have HT6 := Lib.hid h6
                          clear hg h6 HT5 HX5 hx1 hx3
                          go_wp2
                          go_meet
                          exact ⟨F, G6, M, s, l ++ T, tot + T.length, en, sz, rfl, (by rw [htlen]; go_num), (by rw [hen0]), HK.out.mono (Nat.le_succ r), HT6.out, HE.out.1, (fun h => by rw [hen0] at h; cases h), by rw [List.length_append]; omega, by omega⟩
                        · obtain ⟨rfl, rfl⟩ := hno hv0
                          have hvb : (v != v) = false := by simp
                          by_cases hw : whyE en s I = 0
                          · have hen0 : en = false := by
                              cases en
                              · rfl
                              · rw [HWy.out] at hw
                                cases hw
                            have h5 : v = 5 ∧ sz < l.length + Ln := by
                              have h := HOI.out
                              rw [if_pos hw, htlen] at h
                              rw [HE.out.1 hen0]
                              by_cases hf : room < l.length + Ln
                              · rw [if_pos hf] at h
                                exact ⟨h, hf⟩
                              · rw [if_neg hf] at h
                                exact absurd h hv0
                            obtain ⟨rfl, hfull⟩ := h5
                            clear hyes hno hv
                            go_wp2_with fail
                            refine (iq_offer_full HT5.out.tq.qu HT5.out.tq.tb.tab HK.out I HWI.out A Ln C hw hfull).mono ?_
                            rintro e w6 ⟨rfl, m6, hw6⟩
                            have HT6 := Lib.hid (hw6 ▸ HT5.out.drewN m6)
                            clear hw6 HT5 HX5 hx1 hx3
                            go_wp2
                            go_meet
                            exact ⟨F, G, M, s, l, tot, en, sz, rfl, rfl, (by rw [hen0]), HK.out.mono (Nat.le_succ r), HT6.out, HE.out.1, HE.out.2, hlt1, Nat.le_trans hlt2 htl⟩
                          · have hvw : whyE en s I = v := by
                              have h := HOI.out
                              rw [if_neg hw] at h
                              exact h.symm
                            clear hyes hno hv
                            go_wp2_with fail
                            refine (iq_offer_why HT5.out.tq.qu HT5.out.tq.tb.tab HK.out I HWI.out A Ln C v hvw hv0).mono ?_
                            rintro e w6 ⟨rfl, m6, hw6⟩
                            have HT6 := Lib.hid (hw6 ▸ HT5.out.drewN m6)
                            clear hw6 HT5 HX5 hx1 hx3
                            go_wp2
                            go_meet
                            exact ⟨F, G, M, s, l, tot, en, sz, rfl, rfl, rfl, HK.out.mono (Nat.le_succ r), HT6.out, HE.out.1, HE.out.2, hlt1, Nat.le_trans hlt2 htl⟩
                case rest =>
                  obtain ⟨F', G', M', s', l', tot', en', sz', rfl, rfl, rfl, hok', htq', hroo', hen', hlt1', hlt2'⟩ := hcut
                  have HT7 := Lib.hid htq'
                  have HK7 := Lib.hid hok'
                  have HE7 := Lib.hid (And.intro hroo' hen')
                  have hss7 := str_size l'
                  have hfit7 := htq'.tq.qu.fit
                  clear htq' hok' hroo' hen' HT3 HX hx1 hx2 hx3 HK HE hss
                  go_wp2_with fail
                  refine (q_len HT7.out.tq.qu).mono ?_
                  rintro e w8 ⟨rfl, rfl⟩
                  go_wp2_with fail
                  refine (iq_total HT7.out.tq.qu).mono ?_
                  rintro e w8 ⟨rfl, rfl⟩
                  go_wp2
                  go_roundw
                  case rel => exact ⟨r + 1, by omega, by go_num, F', G', M', s', l', tot', en', sz', rfl, rfl, rfl, HK7.out, HT7.out, HE7.out.1, HE7.out.2, hlt1', hlt2'⟩
                  case measure => simp [intOf]; omega
              · obtain rfl : r = k := by omega
                go_wp2
                go_ret
                exact ⟨rfl, HT.out.tq.tb.bel⟩

set_option maxRecDepth 100000 in
theorem lifted (os : Os) (started : os.Started) (H : Type) (enc : TypeId × Value → H) :
    ReturnsInHanded {} Try.checked os 3 .any (Rows.inqActsSpec.pre6 enc Try.prog Try.f3 Rows.inqActsRow.domain false) (Rows.inqActsSpec.post enc Try.prog Try.f3 false true false false) := by
  refine returnsInHanded_of_change_sized (C := Try.checked) own started (by kernel_rfl) Try.func3
    (ChangeSpec.witness6 (enc := enc) (C := Try.checked) false ⟨#[], #[.int .i64 0, .slice none 0 0], []⟩ 8 (by kernel_rfl) (by kernel_rfl) (by kernel_rfl) (by kernel_rfl)) ?_
  intro W base args ds gs before hval0 hW hcnd hsz0 _
  have hval : ∀ (j : Nat) t v, Try.f3.params[j]? = some t → args[j]? = some v → Value.okWide Try.prog W .any base t v := hval0
  have hW' := hW
  obtain ⟨p, q, hA0, hV, rfl, hfz, hnd⟩ := hW
  have hsz : (DataW.weightsEach Try.prog (Try.f3.params.toList ++ Rows.inqActsSpec.plain.varTypes Try.prog) (ds ++ gs)).all (· ≤ reachBytes) = true := hsz0
  have hA : DataW.TrodAll enc Try.prog W 0 (fun _ => true) true Try.f3.params.toList args.toList ds p := hA0
  rw [Try.params3] at hA hval hsz
  obtain ⟨v0, vs0, d0, ds0, p0, q0, hargs, rfl, rfl, h0, r0⟩ := trodAll_cons hA
  obtain ⟨v1, vs1, d1, ds1, p1, q1, rfl, rfl, rfl, h1, r1⟩ := trodAll_cons r0
  obtain ⟨rfl, rfl, rfl⟩ := trodAll_nil r1
  obtain rfl : args = #[v0, v1] := by cases args; simp_all
  obtain ⟨rfl, rfl⟩ := trodVars_none hV
  obtain ⟨a0, rfl, rfl, rfl, w0⟩ := open_int Try.underlying3 (hval 0 3 v0 rfl rfl) h0
  obtain ⟨a1, len1, cap1, rfl⟩ := okWide_slice Try.underlying22 (hval 1 22 v1 rfl rfl)
  have k1 := h1
  have lt1 : ∀ x ∈ p1, x.block < W.heap.size := by obtain ⟨m, hm⟩ := k1; exact DataW.trod_lt m _ _ _ hm
  obtain ⟨K1, I1, R1, A1, L1, C1, T1, w1, g1⟩ : ∃ K I R A L C T, Iacts W W.heap.size a1 len1 K I R A L C T ∧ len1 ≤ cap1 ∧ cap1 ≤ maxLen := by
    obtain ⟨fuel, hf⟩ := h1
    exact open_iacts hf (fits_of hsz (j := 1) rfl rfl)
  clear hA0 hval0 hsz hsz0
  refine (walk a0 a1 len1 cap1 K1 I1 R1 A1 L1 C1 T1 W w0 w1 g1).mono fun e W' ⟨he, bel⟩ => ?_
  subst he
  exact ⟨_, rfl, _, _, _, [], _, [], hW', trodAll_mk1 (shut_bool Try.underlying4 _), (trodAll_cons_mk (shut_int Try.underlying3 w0) (trodAll_cons_mk (Below.trod laidOut (by kernel_rfl) (of_decide_eq_true (by kernel_rfl)) k1 bel lt1) trodAll_mk0)), rfl, bel.frame _, fun h => by cases h⟩

theorem over : Rows.inqActsRow.holds Try.pinned (OpenSpec.ofChange Rows.inqActsSpec) :=
  OpenClaim.holds_of_wide 3 Try.f3 rfl rfl rfl rfl rfl rfl rfl ⟨rfl, rfl, rfl, rfl, rfl⟩ rfl rfl rfl rfl rfl (by kernel_rfl) Try.func3 (by kernel_rfl)
    (of_decide_eq_true (by kernel_rfl)) (by unfold Func.isWrapper; first | (rw [if_pos (by decide +kernel)]; kernel_rfl) | (rw [if_neg (by decide +kernel)]; exact ⟨rfl, rfl⟩))
    (fun os started H enc _ => lifted os started H enc)

end Go.Proofs.Ytanloclkbdameaa.inqActs
namespace Go.Proofs.Ytanloclkbdameaa
theorem inqActs_holds : Rows.InqActsSaid := inqActs.over
#print axioms inqActs_holds
end Go.Proofs.Ytanloclkbdameaa
