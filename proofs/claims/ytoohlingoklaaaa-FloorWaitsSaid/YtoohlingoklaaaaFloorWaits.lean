/- FloorWaits: for every input the law answers true, and its arguments read as before. Conditions: none. -/
import Derived.Test.YtoohlingoklaaaaFoh
import Derived.Test.YtoohlingoklaaaaFup
import Derived.Test.YtoohlingoklaaaaIno
import Derived.Deep.RegionHeld
namespace Go.Proofs.Ytoohlingoklaaaa.floorWaits
open Go.ChangeShapes Go.WideShapes Go.ChangeAt Go.RowKit
/-- m users have come and asked -/
def CameT (L base : Nat) (w0 w : World) (g m : Nat) : Prop := ∃ F s, TB base w0 w F g s ∧ Came L m s
/-- n wait or hold, from k on; so much is left of the lease -/
def StT (L base : Nat) (w0 w : World) (g k n l : Nat) : Prop := ∃ F s, TB base w0 w F g s ∧ St 1000 L s k n l

theorem small (a : Int) (l : Nat) (hl : l ≤ 15) : ∃ A : Nat, A ≤ l ∧ RowKit.wrap64 ((IntKind.u64.wrap a).tmod (1 + (l : Int))) = A := by
  have h0 := wrap_u64_nonneg a
  have h1 := Int.tmod_nonneg (1 + (l : Int)) h0
  have h2 := Int.tmod_lt_of_pos (IntKind.u64.wrap a) (show (0 : Int) < 1 + (l : Int) by omega)
  obtain ⟨A, hA⟩ := Int.eq_ofNat_of_zero_le h1
  rw [hA] at h2 ⊢
  exact ⟨A, by omega, by unfold RowKit.wrap64; omega⟩

/-- in the midst of a lease -/
def Mid10 (l base : Nat) (w0 w : World) (g k n j : Nat) : Prop := (j ≤ l ∧ StT (l + 1) base w0 w g k (n + 2) (l + 1 - j)) ∨ (j = l + 1 ∧ StT (l + 1) base w0 w g (k + 1) (n + 1) (l + 1))

theorem Mid10.tick {l base g k n j : Nat} {w0 w : World} (h : Mid10 l base w0 w g k n j) (hj : j < l + 1) (hl : l ≤ 15) : ∃ F s, TB base w0 w F g s ∧ FOk 1000 s ∧ ∀ w' F2, TB base w0 w' F2 g (ftick s) → Mid10 l base w0 w' g k n (j + 1) := by
  rcases h with ⟨h1, F, s, ht, hs⟩ | ⟨h1, _⟩
  · refine ⟨F, s, ht, hs.ok, fun w' F2 h2 => ?_⟩
    by_cases e : j = l
    · subst e
      rw [show j + 1 - j = 1 by omega] at hs
      exact .inr ⟨rfl, F2, _, h2, hs.tick2⟩
    · refine .inl ⟨by omega, F2, _, h2, ?_⟩
      have := hs.tick1 (by omega)
      rw [show l + 1 - (j + 1) = l + 1 - j - 1 by omega]
      exact this
  · omega

set_option maxRecDepth 100000 in
set_option maxHeartbeats 4000000 in
theorem walk (a0 : Int) (a1 : Int) (a2 : Int) (w : World) (w0 : (Lit.int .i64 a0).wf = true) (w1 : (Lit.int .i64 a1).wf = true) (w2 : (Lit.int .i64 a2).wf = true) :
    Calls Try.prog 5 #[.int .i64 a0, .int .i64 a1, .int .i64 a2] w fun e w' => e = .returned (.bool true) ∧ Below w.heap.size w w' := by
  have HA0 := Lib.hid w0
  have HA1 := Lib.hid w1
  have HA2 := Lib.hid w2
  clear w0 w1 w2 HA0 HA1 HA2
  obtain ⟨l, hl, hand⟩ := and15 a0
  obtain ⟨u, hu, hand2⟩ := and15 a1
  obtain ⟨A, hA, hAe⟩ := small a2 l hl
  go_enter Try.func5, Try.ntmps5
  go_wp2_with fail
  refine (fhead_any w).mono ?_
  rintro e wa ⟨rfl, hb1⟩
  have HB1 := Lib.hid hb1
  clear hb1
  go_wp2_with fail
  refine (tnew_any (1 + (l : Int)) wa).mono ?_
  rintro e wb ⟨F, g, rfl, ht, hF, hb2⟩
  have HT1 := Lib.hid (show CameT (l + 1) w.heap.size w wb g 0 from ⟨F, _, TB.new HB1.out HB1.out.size ht hF hb2, by have := came_new (1 + (l : Int)) (by omega) (by omega); rw [show (1 + (l : Int)).toNat = l + 1 by omega] at this; exact this⟩)
  clear ht hF hb2 HB1
  go_wp2_with fail
  go_loopw [8] (fun i wx => ∃ m : Nat, m ≤ u + 2 ∧ i = .int .i64 ((m : Int) + 1) ∧ CameT (l + 1) w.heap.size w wx g m) (fun i _ => u + 3 - (intOf i).toNat)
  case atStart => exact ⟨0, by omega, rfl, HT1.out⟩
  case round =>
    obtain ⟨m, hm, rfl, F1, s, ht, hc⟩ := hrel
    have HT := Lib.hid ht
    have HC := Lib.hid hc
    clear ht hc HT1
    by_cases hlt : m < u + 2
    · have hle : ((m : Int) + 1) ≤ 2 + (u : Int) := by omega
      have HN := Lib.hid (HC.out.next (by omega))
      have hwf : wf64 ((m : Int) + 1) := WalkArith.wf_i64 (by omega)
      go_wp2_with fail
      refine (tjoin_any HT.out.tab HC.out.ok (by omega) ((m : Int) + 1) 1 hwf (by decide)).mono ?_
      intro e w5 hg
      obtain ⟨F5, rfl, h5, _⟩ := HT.out.step hg
      have HT5 := Lib.hid h5
      clear hg h5
      go_wp2_with fail
      refine (task_any HT5.out.tab HN.out.1 (by omega) ((m : Int) + 1) hwf).mono ?_
      intro e w6 hg
      have hE : askE (fjoin s ((m : Int) + 1) 1) ((m : Int) + 1) = 0 := HN.out.2.1
      rw [hE] at hg
      obtain ⟨F6, rfl, h6, _⟩ := HT5.out.step hg
      have HT6 := Lib.hid (show CameT (l + 1) w.heap.size w w6 g (m + 1) from ⟨F6, _, h6, HN.out.2.2⟩)
      clear hg h6
      go_wp2_with fail
      go_roundw
      case rel => exact ⟨m + 1, by omega, by go_num, HT6.out⟩
      case measure => simp [intOf]; omega
    · have hmu : m = u + 2 := by omega
      have hle : ¬ ((m : Int) + 1) ≤ 2 + (u : Int) := by omega
      have HS := Lib.hid (show StT (l + 1) w.heap.size w wr g 1 (u + 2) (l + 1) from by
        have h1 := HC.out
        rw [hmu] at h1
        exact ⟨F1, s, HT.out, h1.st (by omega)⟩)
      clear HT HC hlt hm hmu
      generalize (m : Int) + 1 = M at *
      go_wp2_with fail
      go_loopw [9] (fun i wx => ∃ j : Nat, j ≤ A ∧ i = .int .i64 (j : Nat) ∧ StT (l + 1) w.heap.size w wx g 1 (u + 2) (l + 1 - j)) (fun i _ => A - (intOf i).toNat)
      case atStart => exact ⟨0, by omega, rfl, HS.out⟩
      case round =>
        obtain ⟨j, hj, rfl, F1, s1, ht, hs⟩ := hrel
        have HT := Lib.hid ht
        have HX := Lib.hid hs
        clear ht hs HS
        by_cases hlt : j < A
        · go_wp2_with fail
          refine (ttick_any HT.out.tab HX.out.ok (by omega)).mono ?_
          intro e w5 hg
          obtain ⟨F5, rfl, h5, _⟩ := HT.out.step hg
          have HS5 := Lib.hid (show StT (l + 1) w.heap.size w w5 g 1 (u + 2) (l + 1 - (j + 1)) from ⟨F5, _, h5, by have := HX.out.tick1 (by omega); rw [show l + 1 - (j + 1) = l + 1 - j - 1 by omega]; exact this⟩)
          clear hg h5
          go_wp2_with fail
          go_roundw
          case rel => exact ⟨j + 1, by omega, by go_num, HS5.out⟩
          case measure => simp [intOf]; omega
        · have hjA : j = A := by omega
          have hcmp : ¬ (j : Int) < (A : Int) := by omega
          have HS := Lib.hid (show StT (l + 1) w.heap.size w wr g 1 (u + 2) (l + 1 - A) from by
            have h1 := HX.out
            rw [hjA] at h1
            exact ⟨F1, s1, HT.out, h1⟩)
          clear HT HX hlt hj hjA
          generalize (j : Int) = J at *
          go_wp2_with fail
          go_loopw [2, 10] (fun s2 i wx => ∃ a k : Nat, a ≤ l ∧ 1 ≤ k ∧ k ≤ u + 2 ∧ s2 = .int .i64 (a : Nat) ∧ i = .int .i64 (k : Nat) ∧ StT (l + 1) w.heap.size w wx g k (u + 3 - k) (l + 1 - a)) (fun _ i _ => u + 3 - (intOf i).toNat)
          case atStart => exact ⟨A, 1, hA, by omega, by omega, rfl, rfl, HS.out⟩
          case round =>
            obtain ⟨a, k, ha, hk1, hk2, rfl, rfl, F2, s2, ht, hs⟩ := hrel
            have HT := Lib.hid ht
            clear ht HS
            by_cases hlt : k < u + 2
            · obtain ⟨n, hn⟩ : ∃ n, u + 3 - k = n + 2 := ⟨u + 1 - k, by omega⟩
              rw [hn] at hs
              have HX := Lib.hid hs
              have hhk : fhold s2 = k := hs.hold
              have HN := Lib.hid hn
              have HQ := Lib.hid hs.qlen
              have hcmp3 : (k : Int) < 2 + (u : Int) := by omega
              have hsub : (2 + (u : Int)) - (k : Int) = (n : Int) + 1 := by omega
              clear hs hn
              go_wp2_with fail
              refine (thold_any HT.out.tab HX.out.ok).mono ?_
              rw [hhk]
              rintro e w2 ⟨rfl, m2, hw2⟩
              have HT2 := Lib.hid (hw2 ▸ HT.out.drewN m2)
              clear hw2 HT hhk
              go_wp2_with fail
              refine (tqueue_any HT2.out.tab HX.out.ok (by omega)).mono ?_
              intro e w3 hg
              obtain ⟨F3, qa, qn, qc, rfl, h3, _, _, hv, _, _⟩ := HT2.out.lstep hg
              have hqn : qn = n + 1 := by have := hv.1; rw [ints_len, HQ.out] at this; omega
              have HS3 := Lib.hid (show StT (l + 1) w.heap.size w w3 g k (n + 2) (l + 1 - a) from ⟨F3, s2, h3, HX.out⟩)
              subst hqn
              clear hg h3 hv HT2 HX HQ
              go_wp2_with fail
              go_loopw [11] (fun i wx => ∃ j : Nat, j ≤ l + 1 ∧ i = .int .i64 (j : Nat) ∧ Mid10 l w.heap.size w wx g k n j) (fun i _ => l + 1 - (intOf i).toNat)
              case atStart => exact ⟨a, by omega, rfl, .inl ⟨ha, HS3.out⟩⟩
              case round =>
                obtain ⟨j, hj, rfl, hmid⟩ := hrel
                have HMd := Lib.hid hmid
                clear hmid HS3
                by_cases hlt4 : j < l + 1
                · obtain ⟨F4, s4, ht4, hk4, hmore⟩ := HMd.out.tick hlt4 hl
                  have HT4 := Lib.hid ht4
                  have HK4 := Lib.hid hk4
                  have HR4 := Lib.hid hmore
                  have hcmp4 : (j : Int) < 1 + (l : Int) := by omega
                  clear ht4 hk4 hmore HMd
                  go_wp2_with fail
                  refine (ttick_any HT4.out.tab HK4.out (by omega)).mono ?_
                  intro e w5 hg
                  obtain ⟨F5, rfl, h5, _⟩ := HT4.out.step hg
                  have HM5 := Lib.hid (HR4.out w5 F5 h5)
                  clear hg h5 HR4
                  go_wp2_with fail
                  go_roundw
                  case rel => exact ⟨j + 1, by omega, by go_num, HM5.out⟩
                  case measure => simp [intOf]; omega
                · have hjl : j = l + 1 := by omega
                  have hcmp4 : ¬ (j : Int) < 1 + (l : Int) := by omega
                  have HS5 := Lib.hid (show StT (l + 1) w.heap.size w wr g (k + 1) (n + 1) (l + 1) from by
                    have h1 := HMd.out
                    rcases h1 with ⟨h1, _⟩ | ⟨_, h1⟩
                    · omega
                    · exact h1)
                  clear HMd hlt4 hj hjl
                  generalize (j : Int) = J4 at *
                  go_wp2_with fail
                  go_roundw
                  case rel => exact ⟨0, k + 1, by omega, by omega, by omega, rfl, by go_num, by have hn := HN.out; rw [show u + 3 - (k + 1) = n + 1 by omega]; exact HS5.out⟩
                  case measure => simp [intOf]; omega
            · have hku : k = u + 2 := by omega
              have hcmp3 : ¬ (k : Int) < 2 + (u : Int) := by omega
              have HS6 := Lib.hid (show StT (l + 1) w.heap.size w wr g (u + 2) 1 (l + 1 - a) from by
                have h1 := hs
                rw [hku, show u + 3 - (u + 2) = 1 by omega] at h1
                exact ⟨F2, s2, HT.out, h1⟩)
              have hmul : (3 : Int) * (1 + (l : Int)) = ((3 * (l + 1) : Nat) : Int) := by omega
              obtain ⟨Z, hZ⟩ : ∃ Z : Nat, 3 * (l + 1) = Z := ⟨_, rfl⟩
              rw [hZ] at hmul
              have hZ2 : Z ≤ 100 := by omega
              clear HT hs hlt hk1 hk2 hku hZ
              generalize (k : Int) = J6 at *
              go_wp2_with fail
              go_loopw [12] (fun i wx => ∃ j : Nat, j ≤ Z ∧ i = .int .i64 (j : Nat) ∧ ∃ v, 1 ≤ v ∧ StT (l + 1) w.heap.size w wx g (u + 2) 1 v) (fun i _ => Z - (intOf i).toNat)
              case atStart => exact ⟨0, by omega, rfl, l + 1 - a, by omega, HS6.out⟩
              case round =>
                obtain ⟨j, hj, rfl, v, hv1, F7, s7, ht, hs⟩ := hrel
                have HT := Lib.hid ht
                have HX := Lib.hid hs
                clear ht hs HS6
                by_cases hlt7 : j < Z
                · have hcmp7 : (j : Int) < (Z : Int) := by omega
                  go_wp2_with fail
                  refine (ttick_any HT.out.tab HX.out.ok (by omega)).mono ?_
                  intro e w5 hg
                  obtain ⟨F5, rfl, h5, _⟩ := HT.out.step hg
                  have HS8 := Lib.hid (show ∃ v, 1 ≤ v ∧ StT (l + 1) w.heap.size w w5 g (u + 2) 1 v from by
                    by_cases e1 : v = 1
                    · subst e1
                      exact ⟨l + 1, by omega, F5, _, h5, HX.out.tick3⟩
                    · exact ⟨v - 1, by omega, F5, _, h5, HX.out.tick1 (by omega)⟩)
                  clear hg h5
                  go_wp2_with fail
                  go_roundw
                  case rel => exact ⟨j + 1, by omega, by go_num, HS8.out⟩
                  case measure => simp [intOf]; omega
                · have hcmp7 : ¬ (j : Int) < (Z : Int) := by omega
                  have hhk : fhold s7 = ((u + 2 : Nat) : Int) := HX.out.hold
                  have hhk2 : fhold s7 = 2 + (u : Int) := by omega
                  have HQ := Lib.hid HX.out.qlen
                  clear hhk
                  go_wp2_with fail
                  refine (thold_any HT.out.tab HX.out.ok).mono ?_
                  rw [hhk2]
                  rintro e w2 ⟨rfl, m2, hw2⟩
                  have HT2 := Lib.hid (hw2 ▸ HT.out.drewN m2)
                  clear hw2 HT hhk2
                  go_wp2_with fail
                  refine (tqueue_any HT2.out.tab HX.out.ok (by omega)).mono ?_
                  intro e w3 hg
                  obtain ⟨F3, qa, qn, qc, rfl, h3, _, _, hv, _, _⟩ := HT2.out.lstep hg
                  have HT3 := Lib.hid h3
                  obtain rfl : qn = 0 := by have := hv.1; rw [ints_len, HQ.out] at this; omega
                  clear hg h3 hv HT2 HX HQ
                  go_wp2
                  go_ret
                  exact ⟨rfl, HT3.out.bel⟩

set_option maxRecDepth 100000 in
theorem lifted (os : Os) (started : os.Started) (H : Type) (enc : TypeId × Value → H) :
    ReturnsInHanded {} Try.checked os 5 .any (Rows.floorWaitsSpec.pre6 enc Try.prog Try.f5 Rows.floorWaitsRow.domain false) (Rows.floorWaitsSpec.post enc Try.prog Try.f5 false true false false) := by
  refine returnsInHanded_of_change_sized (C := Try.checked) own started (by kernel_rfl) Try.func5
    (ChangeSpec.witness6 (enc := enc) (C := Try.checked) false ⟨#[], #[.int .i64 0, .int .i64 0, .int .i64 0], []⟩ 8 (by kernel_rfl) (by kernel_rfl) (by kernel_rfl) (by kernel_rfl)) ?_
  intro W base args ds gs before hval0 hW hcnd hsz0 _
  have hval : ∀ (j : Nat) t v, Try.f5.params[j]? = some t → args[j]? = some v → Value.okWide Try.prog W .any base t v := hval0
  have hW' := hW
  obtain ⟨p, q, hA0, hV, rfl, hfz, hnd⟩ := hW
  have hsz : (DataW.weightsEach Try.prog (Try.f5.params.toList ++ Rows.floorWaitsSpec.plain.varTypes Try.prog) (ds ++ gs)).all (· ≤ reachBytes) = true := hsz0
  have hA : DataW.TrodAll enc Try.prog W 0 (fun _ => true) true Try.f5.params.toList args.toList ds p := hA0
  rw [Try.params5] at hA hval hsz
  obtain ⟨v0, vs0, d0, ds0, p0, q0, hargs, rfl, rfl, h0, r0⟩ := trodAll_cons hA
  obtain ⟨v1, vs1, d1, ds1, p1, q1, rfl, rfl, rfl, h1, r1⟩ := trodAll_cons r0
  obtain ⟨v2, vs2, d2, ds2, p2, q2, rfl, rfl, rfl, h2, r2⟩ := trodAll_cons r1
  obtain ⟨rfl, rfl, rfl⟩ := trodAll_nil r2
  obtain rfl : args = #[v0, v1, v2] := by cases args; simp_all
  obtain ⟨rfl, rfl⟩ := trodVars_none hV
  obtain ⟨a0, rfl, rfl, rfl, w0⟩ := open_int Try.underlying3 (hval 0 3 v0 rfl rfl) h0
  obtain ⟨a1, rfl, rfl, rfl, w1⟩ := open_int Try.underlying3 (hval 1 3 v1 rfl rfl) h1
  obtain ⟨a2, rfl, rfl, rfl, w2⟩ := open_int Try.underlying3 (hval 2 3 v2 rfl rfl) h2
  clear hA0 hval0 hsz hsz0
  refine (walk a0 a1 a2 W w0 w1 w2).mono fun e W' ⟨he, bel⟩ => ?_
  subst he
  exact ⟨_, rfl, _, _, _, [], _, [], hW', trodAll_mk1 (shut_bool Try.underlying4 _), (trodAll_cons_mk (shut_int Try.underlying3 w0) (trodAll_cons_mk (shut_int Try.underlying3 w1) (trodAll_cons_mk (shut_int Try.underlying3 w2) trodAll_mk0))), rfl, bel.frame _, fun h => by cases h⟩

theorem over : Rows.floorWaitsRow.holds Try.pinned (OpenSpec.ofChange Rows.floorWaitsSpec) :=
  OpenClaim.holds_of_wide 5 Try.f5 rfl rfl rfl rfl rfl rfl rfl ⟨rfl, rfl, rfl, rfl, rfl⟩ rfl rfl rfl rfl rfl (by kernel_rfl) Try.func5 (by kernel_rfl)
    (of_decide_eq_true (by kernel_rfl)) (by unfold Func.isWrapper; first | (rw [if_pos (by decide +kernel)]; kernel_rfl) | (rw [if_neg (by decide +kernel)]; exact ⟨rfl, rfl⟩))
    (fun os started H enc _ => lifted os started H enc)

end Go.Proofs.Ytoohlingoklaaaa.floorWaits
namespace Go.Proofs.Ytoohlingoklaaaa
theorem floorWaits_holds : Rows.FloorWaitsSaid := floorWaits.over
#print axioms floorWaits_holds
end Go.Proofs.Ytoohlingoklaaaa
