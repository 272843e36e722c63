/- OutqActs: for every input the law answers true, and its arguments read as before. Conditions: none. -/
import Derived.Test.YtlifnjihnppckaaOuth
import Derived.Test.YtlifnjihnppckaaInsa
import Derived.Deep.DeepCutAuto
import Derived.Deep.RegionHeld
namespace Go.Proofs.Ytlifnjihnppckaa.outqActs
open Go.ChangeShapes Go.WideShapes Go.ChangeAt Go.RowKit
open Go.Deep

/-- so many bytes in all -/
def tot (L : Nat → Nat) : Nat → Nat
  | 0 => 0
  | k + 1 => tot L k + L k

theorem tot_le (L : Nat → Nat) (m : Nat) : ∀ k, (∀ r, r < k → L r ≤ m) → tot L k ≤ k * m
  | 0, _ => Nat.zero_le _
  | k + 1, h => by
    have h1 := tot_le L m k (fun r hr => h r (by omega))
    have h2 := h k (by omega)
    simp only [tot, Nat.succ_mul]
    omega

set_option maxRecDepth 100000 in
set_option maxHeartbeats 2000000 in
theorem walk (a0 : Int) (a1 : Option Addr) (len1 cap1 : Nat) (P1 : Nat → Bool) (A1 : Nat → Option Addr) (L1 C1 : Nat → Nat) (T1 : Nat → Bs) (K1 : Nat → Int) (w : World) (w0 : (Lit.int .i64 a0).wf = true) (w1 : Acts w w.heap.size a1 len1 P1 A1 L1 C1 T1 K1) (g1 : len1 ≤ cap1 ∧ cap1 ≤ maxLen) :
    Calls Try.prog 6 #[.int .i64 a0, .slice a1 len1 cap1] w fun e w' => e = .returned (.bool true) ∧ Below w.heap.size w w' := by
  have HW1 := Lib.hid w1
  have HG := Lib.hid g1
  have hmax : len1 ≤ 9223372036854775807 := by have := g1.1; have := g1.2; unfold maxLen at this; omega
  have hw0 := w0
  clear w1 w0 hw0 g1
  by_cases hlen : 100 < len1
  · go_enter Try.func6, Try.ntmps6
    go_wp2_with fail
    refine (ohead_any w).mono ?_
    rintro e w1 ⟨rfl, hb1⟩
    go_wp2
    go_ret
    exact ⟨rfl, hb1⟩
  · have hlen0 : len1 ≤ 100 := by omega
    have hd0 : decide (100 < (len1 : Int)) = false := by simp; omega
    clear hlen
    go_enter Try.func6, Try.ntmps6
    go_wp2_with fail
    refine (ohead_any w).mono ?_
    rintro e w1 ⟨rfl, hb1⟩
    have HB1 := Lib.hid hb1
    clear hb1
    go_wp2
    go_loopw [5, 22] (fun s5 i wr => ∃ k : Nat, k ≤ len1 ∧ i = .int .i64 k ∧ s5 = .int .i64 (tot L1 k) ∧ Below w.heap.size w wr) (fun _ i _ => len1 - (intOf i).toNat)
    case atStart => exact ⟨0, by omega, rfl, rfl, HB1.out⟩
    case round =>
      obtain ⟨k, hk, rfl, rfl, hbr⟩ := hrel
      have HBr := Lib.hid hbr
      clear hbr
      by_cases hlt : k < len1
      · obtain ⟨b, off, rfl, hbB, hc⟩ := (HW1.out.below HBr.out).outer (by omega)
        obtain ⟨hc0, hc1, hc2⟩ := hc k hlt
        have hsz := HBr.out.size
        clear hc
        have hadd : (tot L1 k : Int) + (L1 k : Int) ≤ 9223372036854775807 := by
          have h1 := tot_le L1 most (k + 1) (fun r hr => Nat.le_trans (HW1.out.inner r (by omega)).2.1 (HW1.out.inner r (by omega)).2.2)
          have h2 : (k + 1) * most ≤ 100 * most := Nat.mul_le_mul_right _ (by omega)
          unfold most at h1 h2
          simp only [tot] at h1
          omega
        go_wp2
        go_roundw
        case rel => exact ⟨k + 1, by omega, by go_num, by simp only [tot]; go_num, HBr.out.alloc hsz _⟩
        case measure => simp [intOf]; omega
      · obtain rfl : k = len1 := by omega
        by_cases htot : 2000 < tot L1 k
        · go_wp2
          go_ret
          exact ⟨rfl, HBr.out⟩
        · have hd1 : decide (2000 < (tot L1 k : Int)) = false := by simp; omega
          clear HB1
          go_wp2_with fail
          refine (qu_new a0 wr).mono ?_
          rintro e w2 ⟨rfl, hq2, hb2⟩
          have hg2 : w.heap.size ≤ wr.heap.size := HBr.out.size
          have HQ2 := Lib.hid (hq2.mono hg2 (Nat.le_refl _))
          have HB2 := Lib.hid (Below.trans HBr.out (hb2.mono HBr.out.size))
          generalize wr.heap.size = g at *
          clear hq2 hb2 HBr hd1 htot hk hlt
          go_upto_region 14 with fail
          go_cut [9] (fun s9 wx => s9 = .int .i64 (sizeOf' a0 : Nat) ∧ wx = w2)
          case first =>
            rcases (show a0 < 0 ∨ 65536 < a0 ∨ (0 ≤ a0 ∧ a0 ≤ 65536) by omega) with h | h | ⟨h, h'⟩
            all_goals
              have hx : Hid (((sizeOf' a0 : Nat) : Int) = min (max a0 0) 65536) := Lib.hid (by unfold sizeOf'; omega)
              go_wp2
              go_meet
              exact ⟨by rw [hx.out]; congr 1; omega, rfl⟩
          case rest =>
            obtain ⟨rfl, rfl⟩ := hcut
            generalize sizeOf' a0 = size at *
            go_wp2
            go_loopw [10, 41] (fun s10 i wx => ∃ (r : Nat) (h : Bs), r ≤ k ∧ i = .int .i64 r ∧ s10 = .string (str h) ∧ Qu w.heap.size wx.heap.size wx g size h ∧ Below w.heap.size w wx) (fun _ i _ => k - (intOf i).toNat)
            case atStart => exact ⟨0, [], by omega, rfl, rfl, HQ2.out, HB2.out⟩
            case round =>
              obtain ⟨r, h, hr, rfl, rfl, hq, hb⟩ := hrel
              have hsz := hb.size
              have HQ := Lib.hid hq
              have HB := Lib.hid hb
              have hfit1 := hq.fit.1
              have hfit2 := hq.fit.2
              have hss := str_size h
              clear hq hb HB2 HQ2
              by_cases hlt : r < k
              · obtain ⟨b, off, rfl, hbB, hc⟩ := (HW1.out.below HB.out).outer (by omega)
                obtain ⟨hc0, hc1, hc2⟩ := hc r hlt
                have HIn := Lib.hid ((HW1.out.below HB.out).inner r hlt).1
                clear hc
                have hLr : L1 r ≤ 140737488355328 := by have := (HW1.out.inner r hlt).2; unfold most at this; omega
                cases hp : P1 r
                · rw [hp] at hc0
                  go_upto_region 25 with fail
                  have hal : Below wr.heap.size wr (wr.alloc (.cells #[.bool false, .slice (A1 r) (L1 r) (C1 r), .int .i64 (K1 r)] 44)) := (Below.refl _ _).alloc (Nat.le_refl _) _
                  have hz2 : (wr.alloc (.cells #[.bool false, .slice (A1 r) (L1 r) (C1 r), .int .i64 (K1 r)] 44)).cell? ⟨wr.heap.size, 2, none⟩ = some (.int .i64 (K1 r)) := by rw [cell_of_row _ _ _ _ _ _ (heap_alloc_new _ _)]; rfl
                  have hzs : wr.heap.size < (wr.alloc (.cells #[.bool false, .slice (A1 r) (L1 r) (C1 r), .int .i64 (K1 r)] 44)).heap.size := by simp
                  generalize wr.alloc (.cells #[.bool false, .slice (A1 r) (L1 r) (C1 r), .int .i64 (K1 r)] 44) = W at *
                  have HQ1 := Lib.hid (HQ.out.below hal)
                  have HB1 := Lib.hid (Below.trans HB.out (hal.mono hsz))
                  clear hal HQ HIn HB hc0 hc1 hc2
                  go_cut [14] (fun s14 wx => s14 = .int .i64 (takes (K1 r) h.length : Nat) ∧ wx = W)
                  case first =>
                    have hx : Hid (((takes (K1 r) h.length : Nat) : Int) = min (max (K1 r) 0) h.length) := Lib.hid (by unfold takes; omega)
                    rcases (show K1 r < 0 ∨ (0 ≤ K1 r ∧ K1 r ≤ h.length) ∨ ((h.length : Int) < K1 r) by omega) with h' | ⟨h', h''⟩ | h'
                    all_goals
                      go_wp2
                      go_meet
                      exact ⟨by rw [hx.out]; congr 1; omega, rfl⟩
                  case rest =>
                    obtain ⟨rfl, rfl⟩ := hcut
                    obtain ⟨m, hm⟩ : ∃ m, takes (K1 r) h.length = m := ⟨_, rfl⟩
                    have hml : m ≤ h.length := by rw [← hm]; unfold takes; omega
                    rw [hm]
                    have HM := Lib.hid hm
                    clear hm
                    go_wp2
                    have hz3 : wc.drew.cell? ⟨wr.heap.size, 2, none⟩ = some (.int .i64 (K1 r)) := hz2
                    have HQ2 := Lib.hid (show Qu w.heap.size wr.heap.size wc.drew g size h from HQ1.out.below (below_drew (Below.refl _ _)))
                    have HB2 := Lib.hid (below_drew HB1.out)
                    have HZ := Lib.hid (show wr.heap.size < wc.drew.heap.size from hzs)
                    have hml2 : (m : Int) ≤ (h.length : Int) := by omega
                    have hex1 : (str h).extract 0 m = str (h.take m) := by rw [str_extract, List.drop_zero]
                    have hex2 : (str h).extract m h.length = str (h.drop m) := by rw [str_extract, List.take_length]
                    have hss2 : (str (h.drop m)).size = h.length - m := by rw [str_size, List.length_drop]
                    go_region_held (fun w' => w'.cell? ⟨wr.heap.size, 2, none⟩ = some (.int .i64 (K1 r))) (first | go_keep | exact hz4)
                      (first | (go_at_call 19; refine (qu_take HQ2.out (K1 r) m HM.out).mono ?_; rintro e w3 ⟨rfl, ho3, hq3, hO3⟩; have hz4 : w3.cell? ⟨wr.heap.size, 2, none⟩ = some (.int .i64 (K1 r)) := (hO3.cell (p := ⟨wr.heap.size, 2, none⟩) HZ.out (fun hz => by have := hz.2; simp at this)).trans hz3; have hcv : (convert 24 9 (.slice (some ⟨wc.heap.size, 0, none⟩) m m)).run Try.prog w3 = .ok (.string (str (h.take m))) w3 := conv_str (cap := m) ho3.bytes; have HQ3 := Lib.hid hq3; have HB3 := Lib.hid (Below.trans HB2.out (zone_below hO3 HB2.out.size (Nat.le_refl _))); clear ho3 hq3 hO3) | fail)
                    go_wp2_with fail
                    refine (qu_len HQ3.out).mono ?_
                    rintro e w4 ⟨rfl, rfl⟩
                    rw [List.length_drop]
                    go_wp2_with fail
                    refine (qu_room HQ3.out).mono ?_
                    rintro e w4 ⟨rfl, m4, rfl⟩
                    rw [List.length_drop]
                    go_wp2
                    go_roundw
                    case rel => exact ⟨r + 1, h.drop m, by omega, by go_num, rfl, HQ3.out.drewN m4, below_drewN HB3.out m4⟩
                    case measure => simp [intOf]; omega
                · rw [hp] at hc0
                  by_cases hfit : h.length + L1 r ≤ size
                  · have hd2 : decide ((h.length : Int) + (L1 r : Int) ≤ (size : Int)) = true := by simp; omega
                    go_wp2_with fail
                    have hal : Below wr.heap.size wr (wr.alloc (.cells #[.bool true, .slice (A1 r) (L1 r) (C1 r), .int .i64 (K1 r)] 44)) := (Below.refl _ _).alloc (Nat.le_refl _) _
                    have hz1 : (wr.alloc (.cells #[.bool true, .slice (A1 r) (L1 r) (C1 r), .int .i64 (K1 r)] 44)).cell? ⟨wr.heap.size, 1, none⟩ = some (.slice (A1 r) (L1 r) (C1 r)) := by rw [cell_of_row _ _ _ _ _ _ (heap_alloc_new _ _)]; rfl
                    have hzs : wr.heap.size < (wr.alloc (.cells #[.bool true, .slice (A1 r) (L1 r) (C1 r), .int .i64 (K1 r)] 44)).heap.size := by simp
                    generalize wr.alloc (.cells #[.bool true, .slice (A1 r) (L1 r) (C1 r), .int .i64 (K1 r)] 44) = W at *
                    have HQ1 := Lib.hid (HQ.out.below hal)
                    have HI1 := Lib.hid (HIn.out.below (hal.mono hsz))
                    have HB1 := Lib.hid (Below.trans HB.out (hal.mono hsz))
                    clear hal HQ HIn HB hc0 hc1 hc2
                    refine (qu_put_yes HQ1.out (C1 r) HI1.out hfit).mono ?_
                    rintro e w3 ⟨rfl, hq3, ho3⟩
                    have hz3 : w3.cell? ⟨wr.heap.size, 1, none⟩ = some (.slice (A1 r) (L1 r) (C1 r)) := (ho3.cell (p := ⟨wr.heap.size, 1, none⟩) hzs (fun hz => by have := hz.2; simp at this)).trans hz1
                    have hbl := zone_below ho3 HB1.out.size (Nat.le_refl _)
                    have HI3 := Lib.hid (HI1.out.below hbl)
                    have HB3 := Lib.hid (Below.trans HB1.out hbl)
                    have HQ3 := Lib.hid hq3
                    have hcv := conv_str (cap := C1 r) HI3.out
                    have htl := HI3.out.1
                    have hst : (str (T1 r)).size = L1 r := by rw [str_size, htl]
                    have hsum : ¬ (9223372036854775807 < h.length + L1 r) := by omega
                    have HT := Lib.hid htl
                    clear hq3 ho3 hbl hz1 hzs htl
                    go_wp2_with fail
                    refine (qu_len HQ3.out).mono ?_
                    rintro e w4 ⟨rfl, rfl⟩
                    rw [List.length_append, HT.out]
                    go_wp2_with fail
                    refine (qu_room HQ3.out).mono ?_
                    rintro e w4 ⟨rfl, m4, rfl⟩
                    rw [List.length_append, HT.out]
                    go_wp2
                    go_roundw
                    case rel => exact ⟨r + 1, h ++ T1 r, by omega, by go_num, by rw [str_app], HQ3.out.drewN m4, below_drewN HB3.out m4⟩
                    case measure => simp [intOf]; omega
                  · have hd2 : decide ((h.length : Int) + (L1 r : Int) ≤ (size : Int)) = false := by simp; omega
                    go_wp2_with fail
                    have hal : Below wr.heap.size wr (wr.alloc (.cells #[.bool true, .slice (A1 r) (L1 r) (C1 r), .int .i64 (K1 r)] 44)) := (Below.refl _ _).alloc (Nat.le_refl _) _
                    generalize wr.alloc (.cells #[.bool true, .slice (A1 r) (L1 r) (C1 r), .int .i64 (K1 r)] 44) = W at *
                    have HQ1 := Lib.hid (HQ.out.below hal)
                    have HB1 := Lib.hid (Below.trans HB.out (hal.mono hsz))
                    have HZ := Lib.hid hal.size
                    clear hal HQ HIn HB hc0 hc1 hc2
                    refine (qu_put_no HQ1.out (A1 r) (L1 r) (C1 r) (by omega)).mono ?_
                    rintro e w3 ⟨rfl, m3, rfl⟩
                    go_wp2_with fail
                    refine (qu_len (HQ1.out.drewN m3)).mono ?_
                    rintro e w4 ⟨rfl, rfl⟩
                    go_wp2_with fail
                    refine (qu_room (HQ1.out.drewN m3)).mono ?_
                    rintro e w4 ⟨rfl, m4, rfl⟩
                    go_wp2
                    go_roundw
                    case rel => exact ⟨r + 1, h, by omega, by go_num, rfl, (HQ1.out.drewN _).mono (Nat.le_refl _) HZ.out, below_drewN HB1.out _⟩
                    case measure => simp [intOf]; omega
              · obtain rfl : r = k := by omega
                go_wp2
                go_ret
                exact ⟨rfl, HB.out⟩

set_option maxRecDepth 100000 in
theorem lifted (os : Os) (started : os.Started) (H : Type) (enc : TypeId × Value → H) :
    ReturnsInHanded {} Try.checked os 6 .any (Rows.outqActsSpec.pre6 enc Try.prog Try.f6 Rows.outqActsRow.domain false) (Rows.outqActsSpec.post enc Try.prog Try.f6 false true false false) := by
  refine returnsInHanded_of_change_sized (C := Try.checked) own started (by kernel_rfl) Try.func6
    (ChangeSpec.witness6 (enc := enc) (C := Try.checked) false ⟨#[], #[.int .i64 0, .slice none 0 0], []⟩ 8 (by kernel_rfl) (by kernel_rfl) (by kernel_rfl) (by kernel_rfl)) ?_
  intro W base args ds gs before hval0 hW hcnd hsz0 _
  have hval : ∀ (j : Nat) t v, Try.f6.params[j]? = some t → args[j]? = some v → Value.okWide Try.prog W .any base t v := hval0
  have hW' := hW
  obtain ⟨p, q, hA0, hV, rfl, hfz, hnd⟩ := hW
  have hsz : (DataW.weightsEach Try.prog (Try.f6.params.toList ++ Rows.outqActsSpec.plain.varTypes Try.prog) (ds ++ gs)).all (· ≤ reachBytes) = true := hsz0
  have hA : DataW.TrodAll enc Try.prog W 0 (fun _ => true) true Try.f6.params.toList args.toList ds p := hA0
  rw [Try.params6] at hA hval hsz
  obtain ⟨v0, vs0, d0, ds0, p0, q0, hargs, rfl, rfl, h0, r0⟩ := trodAll_cons hA
  obtain ⟨v1, vs1, d1, ds1, p1, q1, rfl, rfl, rfl, h1, r1⟩ := trodAll_cons r0
  obtain ⟨rfl, rfl, rfl⟩ := trodAll_nil r1
  obtain rfl : args = #[v0, v1] := by cases args; simp_all
  obtain ⟨rfl, rfl⟩ := trodVars_none hV
  obtain ⟨a0, rfl, rfl, rfl, w0⟩ := open_int Try.underlying3 (hval 0 3 v0 rfl rfl) h0
  obtain ⟨a1, len1, cap1, rfl⟩ := okWide_slice Try.underlying42 (hval 1 42 v1 rfl rfl)
  have k1 := h1
  have lt1 : ∀ x ∈ p1, x.block < W.heap.size := by obtain ⟨m, hm⟩ := k1; exact DataW.trod_lt m _ _ _ hm
  obtain ⟨P1, A1, L1, C1, T1, K1, w1, g1⟩ : ∃ P A L C T K, Acts W W.heap.size a1 len1 P A L C T K ∧ len1 ≤ cap1 ∧ cap1 ≤ maxLen := by
    obtain ⟨fuel, hf⟩ := h1
    exact open_acts hf (fits_of hsz (j := 1) rfl rfl)
  clear hA0 hval0 hsz hsz0
  refine (walk a0 a1 len1 cap1 P1 A1 L1 C1 T1 K1 W w0 w1 g1).mono fun e W' ⟨he, bel⟩ => ?_
  subst he
  exact ⟨_, rfl, _, _, _, [], _, [], hW', trodAll_mk1 (shut_bool Try.underlying4 _), (trodAll_cons_mk (shut_int Try.underlying3 w0) (trodAll_cons_mk (Below.trod laidOut (by kernel_rfl) (of_decide_eq_true (by kernel_rfl)) k1 bel lt1) trodAll_mk0)), rfl, bel.frame _, fun h => by cases h⟩

theorem over : Rows.outqActsRow.holds Try.pinned (OpenSpec.ofChange Rows.outqActsSpec) :=
  OpenClaim.holds_of_wide 6 Try.f6 rfl rfl rfl rfl rfl rfl rfl ⟨rfl, rfl, rfl, rfl, rfl⟩ rfl rfl rfl rfl rfl (by kernel_rfl) Try.func6 (by kernel_rfl)
    (of_decide_eq_true (by kernel_rfl)) (by unfold Func.isWrapper; first | (rw [if_pos (by decide +kernel)]; kernel_rfl) | (rw [if_neg (by decide +kernel)]; exact ⟨rfl, rfl⟩))
    (fun os started H enc _ => lifted os started H enc)

end Go.Proofs.Ytlifnjihnppckaa.outqActs
namespace Go.Proofs.Ytlifnjihnppckaa
theorem outqActs_holds : Rows.OutqActsSaid := outqActs.over
#print axioms outqActs_holds
end Go.Proofs.Ytlifnjihnppckaa
