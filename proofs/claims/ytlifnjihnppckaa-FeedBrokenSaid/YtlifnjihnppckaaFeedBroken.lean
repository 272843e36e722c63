/- FeedBroken: for every input the law answers true, and its arguments read as before. Conditions: none. -/
import Derived.Test.YtlifnjihnppckaaFh
import Derived.Test.YtlifnjihnppckaaInsf
import Derived.Deep.DeepCutAuto
import Derived.Deep.RegionHeld
namespace Go.Proofs.Ytlifnjihnppckaa.feedBroken
open Go.ChangeShapes Go.WideShapes Go.ChangeAt Go.RowKit
open Fr

theorem err00 : err [0#8, 0#8] = 6 := err_long (by simp) (.inl (by simp [num2]))

theorem broke00 : keep [0#8, 0#8] = [] ∧ broke [0#8, 0#8] = 6 := by
  have h := @keep_else [0#8, 0#8] (by rw [err00]; omega)
  rw [err00] at h
  exact h

set_option maxRecDepth 100000 in
set_option maxHeartbeats 2000000 in
theorem walk (a0 : Option Addr) (len0 cap0 : Nat) (K0 : Nat → BitVec 8) (A0 : Nat → Option Addr) (L0 C0 : Nat → Nat) (T0 : Nat → Bs) (a1 : Option Addr) (len1 cap1 : Nat) (A1 : Nat → Option Addr) (L1 C1 : Nat → Nat) (T1 : Nat → Bs) (w : World) (w0 : Frs w w.heap.size a0 len0 K0 A0 L0 C0 T0) (g0 : len0 ≤ cap0 ∧ cap0 ≤ maxLen) (w1 : Pcs w w.heap.size a1 len1 A1 L1 C1 T1) (g1 : len1 ≤ cap1 ∧ cap1 ≤ maxLen) :
    Calls Try.prog 5 #[.slice a0 len0 cap0, .slice a1 len1 cap1] w fun e w' => e = .returned (.bool true) ∧ Below w.heap.size w w' := by
  have HW0 := Lib.hid w0
  have HW1 := Lib.hid w1
  have hmax0 : len0 ≤ 9223372036854775807 := by have := g0.1; have := g0.2; unfold maxLen at this; omega
  have hmax1 : len1 ≤ 9223372036854775807 := by have := g1.1; have := g1.2; unfold maxLen at this; omega
  clear w0 w1 g0 g1
  by_cases hlen : 20 < len0 ∨ 20 < len1
  · rcases hlen with hlen | hlen
    all_goals
      go_enter Try.func5, Try.ntmps5
      go_wp2_with fail
      refine (lhead_any w).mono ?_
      rintro e w1 ⟨rfl, hb1⟩
      go_wp2
      all_goals
        go_ret
        exact ⟨rfl, hb1⟩
  · have hl0 : len0 ≤ 20 := by omega
    have hl1 : len1 ≤ 20 := by omega
    have hd0 : decide (20 < (len0 : Int)) = false := by simp; omega
    have hd1 : decide (20 < (len1 : Int)) = false := by simp; omega
    clear hlen
    go_enter Try.func5, Try.ntmps5
    go_wp2_with fail
    refine (lhead_any w).mono ?_
    rintro e w1 ⟨rfl, hb1⟩
    have HB1 := Lib.hid hb1
    clear hb1
    go_wp2
    go_loopw [5, 25] (fun s5 i wr => ∃ (k : Nat) (A : Option Addr) (n c : Nat), k ≤ len0 ∧ i = .int .i64 k ∧ s5 = .slice A n c ∧ Own w.heap.size wr A n c (cats (frs K0 T0 k)) ∧ n ≤ 105 * k ∧ (∀ r, r < k → L0 r ≤ 100) ∧ Below w.heap.size w wr) (fun _ i _ => len0 - (intOf i).toNat)
    case atStart => exact ⟨0, _, 0, 0, by omega, rfl, rfl, own_new w1 w.heap.size HB1.out.size, by omega, (fun r hr => by omega), HB1.out.alloc HB1.out.size _⟩
    case round =>
      obtain ⟨k, A, n, c, hk, rfl, rfl, hown, hn, hle, hb⟩ := hrel
      have hsz := hb.size
      have HO := Lib.hid hown
      have HB := Lib.hid hb
      have HLe := Lib.hid hle
      clear hown hb hle HB1
      by_cases hlt : k < len0
      · obtain ⟨b, off, rfl, hbB, hc⟩ := (HW0.out.below HB.out).outer (by omega)
        obtain ⟨hc0, hc1⟩ := hc k hlt
        have HIn := Lib.hid ((HW0.out.below HB.out).inner k hlt).1
        have hLr : L0 k ≤ 140737488355328 := by have := (HW0.out.inner k hlt).2; unfold most at this; omega
        clear hc
        by_cases hbig : 100 < L0 k
        · have hd2 : decide (100 < (L0 k : Int)) = true := by simp; omega
          go_wp2
          go_ret
          exact ⟨rfl, HB.out.alloc hsz _⟩
        · have hd2 : decide (100 < (L0 k : Int)) = false := by simp; omega
          go_wp2_with fail
          have hal : Below wr.heap.size wr (wr.alloc (.cells #[.int .u8 (K0 k).toNat, .slice (A0 k) (L0 k) (C0 k)] 38)) := (Below.refl _ _).alloc (Nat.le_refl _) _
          generalize wr.alloc (.cells #[.int .u8 (K0 k).toNat, .slice (A0 k) (L0 k) (C0 k)] 38) = W at *
          have hWs := hal.size
          refine (put_eq A n c W.heap.size _ (K0 k) (A0 k) (L0 k) (C0 k) (T0 k) _ (n + L0 k + 5) rfl (frs_cats K0 T0 k).symm W (HO.out.below hal).bytes ((HIn.out.below (hal.mono hsz)).more (by omega)) (Nat.le_refl _) (by omega) (by omega)).mono ?_
          rintro e w3 ⟨A3, c3, rfl, hown, hb3⟩
          have HO3 := Lib.hid (hown.mono (show w.heap.size ≤ W.heap.size by omega))
          have HB3 := Lib.hid (Below.trans HB.out (Below.trans (hal.mono hsz) (hb3.mono (by omega))))
          clear hal hown hb3 hc0 hc1
          go_wp2
          go_roundw
          case rel => exact ⟨k + 1, A3, n + L0 k + 5, c3, by omega, by go_num, rfl, HO3.out, by omega, (fun r hr => by
            rcases Nat.lt_or_ge r k with h | h
            · exact HLe.out r h
            · obtain rfl : r = k := by omega
              omega), HB3.out⟩
          case measure => simp [intOf]; omega
      · obtain rfl : k = len0 := by omega
        go_wp2_with fail
        refine (feed_new wr).mono ?_
        rintro e w2 ⟨rfl, hf2, hb2⟩
        have HF2 := Lib.hid hf2
        have HO2 := Lib.hid (HO.out.below hb2).mid
        have HA := Lib.hid (fun p (hp : A = some p) => (HO.out.mid.lt hp).2)
        have HB2 := Lib.hid (Below.trans HB.out (hb2.mono hsz))
        generalize hg : wr.heap.size = g at *
        have hg2 := feed_lt hf2.head
        clear hf2 hb2 HO HB hg
        have hfr : ∀ f ∈ frs K0 T0 k, f.2.length ≤ 2048 := by
          intro f hf
          unfold frs at hf
          rw [List.mem_map] at hf
          obtain ⟨r, hr, rfl⟩ := hf
          have hr2 := List.mem_range.1 hr
          have h1 := HLe.out r hr2
          have h2 := (HW0.out.inner r hr2).1.1
          show (T0 r).length ≤ 2048
          omega
        have htl := tells_frames (frs K0 T0 k) [0#8, 0#8] hfr (by rw [err00]; omega)
        have HTl := Lib.hid htl
        clear hfr htl
        go_wp2_with (first
          | (at_builtin
             refine wpList_mid rfl (.tmp 39) (.tmp 40) rfl w.heap.size rfl (HO2.out.below ((Below.refl _ _).alloc (Nat.le_refl _) _)) rfl (two_new w2 0#8 0#8 _ _ rfl rfl) (by omega) (Nat.le_trans HB2.out.size (by simp)) ?_
             intro A4 c4 w4 hm4 ho4 hp4
             have hf4 := (HF2.out.below ((Below.refl _ _).alloc (Nat.le_refl _) (.cells #[.int .u8 0, .int .u8 0] 5))).only ho4 (fun ⟨p, hp, hpg⟩ => by have := HA.out p hp; omega) (fun p hp => by cases hp)
             have HF4 := Lib.hid hf4
             have HM4 := Lib.hid hm4
             have HB4 := Lib.hid (Below.trans (HB2.out.alloc HB2.out.size (.cells #[.int .u8 0, .int .u8 0] 5)) (ho4.below (Nat.le_trans HB2.out.size (by simp)) (fun b hb ⟨p, hp, hpb⟩ => by have := (HO2.out.lt hp).1; omega)))
             have hg4 := feed_lt hf4.head
             clear hf4 hm4 ho4 hp4))
        refine (push_live w4 HF4.out w4.heap.size A4 (n + 2) c4 _ HM4.out.bytes (by omega) (by omega)).mono ?_
        intro e w5 hp
        rw [List.nil_append] at hp
        obtain ⟨R, c5, es, a5, n5, d5, rfl, hkl, hrow, hf5, hO5⟩ := push_known hp HTl.out
        rw [broke00.1, broke00.2] at hf5
        rw [frs_len] at hrow ⊢
        have hn5 : 0 = n5 := hf5.mid.len
        subst hn5
        have HF5 := Lib.hid hf5
        have HB5 := Lib.hid (Below.trans HB4.out (hO5.below HB4.out.size (fun b hb hS => by
          rcases hS with h1 | ⟨p, hp, _⟩
          · omega
          · cases hp)))
        have HV := Lib.hid hrow.view
        have HKl := Lib.hid hkl
        clear hp hkl hrow hf5 hO5
        go_wp2_with fail
        refine (same_any HV.out (HW0.out.below HB5.out).view (fun r hr => kl_frs HKl.out r hr) (by omega)).mono ?_
        rintro e w6 ⟨rfl, m6, rfl⟩
        go_wp2_with fail
        refine (feed_err (w5.drewN m6) (HF5.out.drewN m6)).mono ?_
        rintro e w7 ⟨rfl, rfl⟩
        have HF6 := Lib.hid (HF5.out.drewN m6)
        have HB6 := Lib.hid (below_drewN HB5.out m6)
        clear HF5 HB5 HV
        generalize w5.drewN m6 = w6 at *
        go_wp2
        go_loopw [54] (fun i wx => ∃ j : Nat, j ≤ len1 ∧ i = .int .i64 j ∧ wx = w6) (fun i _ => len1 - (intOf i).toNat)
        case atStart => exact ⟨0, by omega, rfl, rfl⟩
        case round =>
          obtain ⟨j, hj, rfl, rfl⟩ := hrel
          by_cases hjl : j < len1
          · obtain ⟨b, off, rfl, hbB, hc⟩ := (HW1.out.below HB6.out).outer (by omega)
            have hc0 := hc j hjl
            clear hc
            go_wp2_with fail
            refine (push_dead _ HF6.out (by omega) (A1 j) (L1 j) (C1 j)).mono ?_
            rintro e w8 ⟨rfl, rfl⟩
            go_wp2_with fail
            refine (feed_err _ HF6.out).mono ?_
            rintro e w8 ⟨rfl, rfl⟩
            go_wp2_with fail
            refine (feed_len _ HF6.out).mono ?_
            rintro e w8 ⟨rfl, rfl⟩
            go_wp2
            go_roundw
            case rel => exact ⟨j + 1, by omega, by go_num, by first | rfl | trivial⟩
            case measure => simp [intOf]; omega
          · obtain rfl : j = len1 := by omega
            go_wp2
            go_ret
            exact ⟨rfl, HB6.out⟩

set_option maxRecDepth 100000 in
theorem lifted (os : Os) (started : os.Started) (H : Type) (enc : TypeId × Value → H) :
    ReturnsInHanded {} Try.checked os 5 .any (Rows.feedBrokenSpec.pre6 enc Try.prog Try.f5 Rows.feedBrokenRow.domain false) (Rows.feedBrokenSpec.post enc Try.prog Try.f5 false true false false) := by
  refine returnsInHanded_of_change_sized (C := Try.checked) own started (by kernel_rfl) Try.func5
    (ChangeSpec.witness6 (enc := enc) (C := Try.checked) false ⟨#[], #[.slice none 0 0, .slice none 0 0], []⟩ 8 (by kernel_rfl) (by kernel_rfl) (by kernel_rfl) (by kernel_rfl)) ?_
  intro W base args ds gs before hval0 hW hcnd hsz0 _
  have hval : ∀ (j : Nat) t v, Try.f5.params[j]? = some t → args[j]? = some v → Value.okWide Try.prog W .any base t v := hval0
  have hW' := hW
  obtain ⟨p, q, hA0, hV, rfl, hfz, hnd⟩ := hW
  have hsz : (DataW.weightsEach Try.prog (Try.f5.params.toList ++ Rows.feedBrokenSpec.plain.varTypes Try.prog) (ds ++ gs)).all (· ≤ reachBytes) = true := hsz0
  have hA : DataW.TrodAll enc Try.prog W 0 (fun _ => true) true Try.f5.params.toList args.toList ds p := hA0
  rw [Try.params5] at hA hval hsz
  obtain ⟨v0, vs0, d0, ds0, p0, q0, hargs, rfl, rfl, h0, r0⟩ := trodAll_cons hA
  obtain ⟨v1, vs1, d1, ds1, p1, q1, rfl, rfl, rfl, h1, r1⟩ := trodAll_cons r0
  obtain ⟨rfl, rfl, rfl⟩ := trodAll_nil r1
  obtain rfl : args = #[v0, v1] := by cases args; simp_all
  obtain ⟨rfl, rfl⟩ := trodVars_none hV
  obtain ⟨a0, len0, cap0, rfl⟩ := okWide_slice Try.underlying27 (hval 0 27 v0 rfl rfl)
  have k0 := h0
  have lt0 : ∀ x ∈ p0, x.block < W.heap.size := by obtain ⟨m, hm⟩ := k0; exact DataW.trod_lt m _ _ _ hm
  obtain ⟨K0, A0, L0, C0, T0, w0, g0⟩ : ∃ K A L C T, Frs W W.heap.size a0 len0 K A L C T ∧ len0 ≤ cap0 ∧ cap0 ≤ maxLen := by
    obtain ⟨fuel, hf⟩ := h0
    exact open_frs hf (fits_of hsz (j := 0) rfl rfl)
  obtain ⟨a1, len1, cap1, rfl⟩ := okWide_slice Try.underlying22 (hval 1 22 v1 rfl rfl)
  have k1 := h1
  have lt1 : ∀ x ∈ p1, x.block < W.heap.size := by obtain ⟨m, hm⟩ := k1; exact DataW.trod_lt m _ _ _ hm
  obtain ⟨A1, L1, C1, T1, w1, g1⟩ : ∃ A L C T, Pcs W W.heap.size a1 len1 A L C T ∧ len1 ≤ cap1 ∧ cap1 ≤ maxLen := by
    obtain ⟨fuel, hf⟩ := h1
    exact open_pcs hf (fits_of hsz (j := 1) rfl rfl)
  clear hA0 hval0 hsz hsz0
  refine (walk a0 len0 cap0 K0 A0 L0 C0 T0 a1 len1 cap1 A1 L1 C1 T1 W w0 g0 w1 g1).mono fun e W' ⟨he, bel⟩ => ?_
  subst he
  exact ⟨_, rfl, _, _, _, [], _, [], hW', trodAll_mk1 (shut_bool Try.underlying4 _), (trodAll_cons_mk (Below.trod laidOut (by kernel_rfl) (of_decide_eq_true (by kernel_rfl)) k0 bel lt0) (trodAll_cons_mk (Below.trod laidOut (by kernel_rfl) (of_decide_eq_true (by kernel_rfl)) k1 bel lt1) trodAll_mk0)), rfl, bel.frame _, fun h => by cases h⟩

theorem over : Rows.feedBrokenRow.holds Try.pinned (OpenSpec.ofChange Rows.feedBrokenSpec) :=
  OpenClaim.holds_of_wide 5 Try.f5 rfl rfl rfl rfl rfl rfl rfl ⟨rfl, rfl, rfl, rfl, rfl⟩ rfl rfl rfl rfl rfl (by kernel_rfl) Try.func5 (by kernel_rfl)
    (of_decide_eq_true (by kernel_rfl)) (by unfold Func.isWrapper; first | (rw [if_pos (by decide +kernel)]; kernel_rfl) | (rw [if_neg (by decide +kernel)]; exact ⟨rfl, rfl⟩))
    (fun os started H enc _ => lifted os started H enc)

end Go.Proofs.Ytlifnjihnppckaa.feedBroken
namespace Go.Proofs.Ytlifnjihnppckaa
theorem feedBroken_holds : Rows.FeedBrokenSaid := feedBroken.over
#print axioms feedBroken_holds
end Go.Proofs.Ytlifnjihnppckaa
