/- FloorOrder: for every input the law answers true, and its arguments read as before. Conditions: none. -/
import Derived.Test.YtoohlingoklaaaaFoh
import Derived.Test.YtoohlingoklaaaaFup
import Derived.Test.YtoohlingoklaaaaInk
import Derived.Deep.RegionHeld
namespace Go.Proofs.Ytoohlingoklaaaa.floorOrder
open Go.ChangeShapes Go.WideShapes Go.ChangeAt Go.RowKit
theorem and7 (a : Int) : ∃ r : Nat, r ≤ 7 ∧ bits .and .i64 a 7 = r := by
  have hlt : (BitVec.ofInt 64 a &&& BitVec.ofInt 64 7).toNat ≤ 7 := by
    rw [BitVec.toNat_and]
    exact Nat.and_le_right
  refine ⟨_, hlt, ?_⟩
  show IntKind.i64.wrap ((BitVec.ofInt 64 a &&& BitVec.ofInt 64 7).toNat : Int) = _
  rw [IntKind.wrap_i64]
  omega

theorem and3 (a : Int) : ∃ r : Nat, r ≤ 3 ∧ bits .and .i64 a 3 = r := by
  have hlt : (BitVec.ofInt 64 a &&& BitVec.ofInt 64 3).toNat ≤ 3 := by
    rw [BitVec.toNat_and]
    exact Nat.and_le_right
  refine ⟨_, hlt, ?_⟩
  show IntKind.i64.wrap ((BitVec.ofInt 64 a &&& BitVec.ofInt 64 3).toNat : Int) = _
  rw [IntKind.wrap_i64]
  omega

/-- m users have come and asked -/
def CameT (base : Nat) (w0 w : World) (g m : Nat) : Prop := ∃ F s, TB base w0 w F g s ∧ Came 50 m s
/-- n wait or hold, from k on -/
def StT (base : Nat) (w0 w : World) (g k n : Nat) : Prop := ∃ F s, TB base w0 w F g s ∧ St 1000 50 s k n 50

set_option maxRecDepth 100000 in
set_option maxHeartbeats 4000000 in
theorem walk (a0 : Int) (a1 : Option Addr) (len1 cap1 : Nat) (z1 : List Int) (w : World) (w0 : (Lit.int .i64 a0).wf = true) (w1 : IsRow .i64 w a1 len1 cap1 z1) :
    Calls Try.prog 6 #[.int .i64 a0, .slice a1 len1 cap1] w fun e w' => e = .returned (.bool true) ∧ Below w.heap.size w w' := by
  have HA0 := Lib.hid w0
  have HW1 := Lib.hid w1
  have hcl := w1.cap
  have hm1 : len1 ≤ 9223372036854775807 := by have := hcl.1; have := hcl.2; unfold maxLen at this; omega
  clear w0 w1 hcl HA0
  obtain ⟨u, hu, hand⟩ := and7 a0
  go_enter Try.func6, Try.ntmps6
  go_wp2_with fail
  refine (fhead_any w).mono ?_
  rintro e wa ⟨rfl, hb1⟩
  have HB1 := Lib.hid hb1
  clear hb1
  by_cases hlen : len1 < u + 2
  · have hd : decide ((len1 : Int) < 2 + (u : Int)) = true := by simp; omega
    go_wp2
    go_ret
    exact ⟨rfl, HB1.out⟩
  · have hd : decide ((len1 : Int) < 2 + (u : Int)) = false := by simp; omega
    have hlu : u + 2 ≤ len1 := by omega
    clear hlen
    go_wp2_with fail
    refine (tnew_any 50 wa).mono ?_
    rintro e wb ⟨F, g, rfl, ht, hF, hb2⟩
    have HT1 := Lib.hid (show CameT w.heap.size w wb g 0 from ⟨F, _, TB.new HB1.out HB1.out.size ht hF hb2, came_new 50 (by decide) (by decide)⟩)
    clear ht hF hb2 HB1
    go_wp2_with fail
    go_loopw [6] (fun i wx => ∃ m : Nat, m ≤ u + 2 ∧ i = .int .i64 ((m : Int) + 1) ∧ CameT w.heap.size w wx g m) (fun i _ => u + 3 - (intOf i).toNat)
    case atStart => exact ⟨0, by omega, rfl, HT1.out⟩
    case round =>
      obtain ⟨m, hm, rfl, F1, s, ht, hc⟩ := hrel
      have HT := Lib.hid ht
      have HC := Lib.hid hc
      clear ht hc HT1
      by_cases hlt : m < u + 2
      · have hle : ((m : Int) + 1) ≤ 2 + (u : Int) := by omega
        have HN := Lib.hid (HC.out.next (by omega))
        have hwf : wf64 ((m : Int) + 1) := WalkArith.wf_i64 (by omega)
        go_wp2_with fail
        refine (tjoin_any HT.out.tab HC.out.ok (by omega) ((m : Int) + 1) 1 hwf (by decide)).mono ?_
        intro e w5 hg
        obtain ⟨F5, rfl, h5, _⟩ := HT.out.step hg
        have HT5 := Lib.hid h5
        clear hg h5
        go_wp2_with fail
        refine (task_any HT5.out.tab HN.out.1 (by omega) ((m : Int) + 1) hwf).mono ?_
        intro e w6 hg
        obtain ⟨F6, rfl, h6, _⟩ := HT5.out.step hg
        have HT6 := Lib.hid (show CameT w.heap.size w w6 g (m + 1) from ⟨F6, _, h6, HN.out.2.2⟩)
        clear hg h6
        go_wp2_with fail
        go_roundw
        case rel => exact ⟨m + 1, by omega, by go_num, HT6.out⟩
        case measure => simp [intOf]; omega
      · have hmu : m = u + 2 := by omega
        have hle : ¬ ((m : Int) + 1) ≤ 2 + (u : Int) := by omega
        have HS := Lib.hid (show StT w.heap.size w wr g 1 (u + 2) from by
          have h1 := HC.out
          rw [hmu] at h1
          exact ⟨F1, s, HT.out, h1.st (by omega)⟩)
        clear HT HC hlt hm hmu
        generalize (m : Int) + 1 = M at *
        go_wp2_with fail
        go_loopw [7] (fun i wx => ∃ k : Nat, 1 ≤ k ∧ k ≤ u + 2 ∧ i = .int .i64 (k : Nat) ∧ StT w.heap.size w wx g k (u + 3 - k)) (fun i _ => u + 3 - (intOf i).toNat)
        case atStart => exact ⟨1, by omega, by omega, rfl, HS.out⟩
        case round =>
          obtain ⟨k, hk1, hk2, rfl, F1, s, ht, hs⟩ := hrel
          have HT := Lib.hid ht
          clear ht HS
          by_cases hlt : k < u + 2
          · obtain ⟨n, hn⟩ : ∃ n, u + 3 - k = n + 2 := ⟨u + 1 - k, by omega⟩
            rw [hn] at hs
            have HX := Lib.hid hs
            have hhk : fhold s = k := hs.hold
            have HN := Lib.hid hn
            clear hs hn
            have hcmp : (k : Int) < 2 + (u : Int) := by omega
            go_wp2_with fail
            refine (thold_any HT.out.tab HX.out.ok).mono ?_
            rw [hhk]
            rintro e w2 ⟨rfl, m2, hw2⟩
            have HT2 := Lib.hid (hw2 ▸ HT.out.drewN m2)
            clear hw2 HT hhk
            obtain ⟨b, off, rfl, hbB, hc⟩ := HW1.out.ints (by omega)
            have hck : w2.cell? ⟨b, off + k, none⟩ = some (.int .i64 (z1.getD k 0)) := (HT2.out.bel.cell (p := ⟨b, off + k, none⟩) hbB).trans (hc k (by omega))
            clear hc
            obtain ⟨x, hx⟩ : ∃ x, z1.getD k 0 = x := ⟨_, rfl⟩
            rw [hx] at hck
            clear hx
            obtain ⟨r, hr3, hand3⟩ := and3 x
            have hwf : wf64 (k : Int) := WalkArith.wf_i64 (by omega)
            rcases (show r = 0 ∨ r = 1 ∨ r = 2 ∨ r = 3 by omega) with rfl | rfl | rfl | rfl
            · have HQ := Lib.hid HX.out.drop
              go_wp2_with fail
              refine (tdrop_any HT2.out.tab HX.out.ok (by omega) (k : Int) hwf).mono ?_
              intro e w6 hg
              rw [HQ.out.1] at hg
              obtain ⟨F6, rfl, h6, _⟩ := HT2.out.step hg
              have HS7 := Lib.hid (show StT w.heap.size w w6 g (k + 1) (n + 1) from ⟨F6, _, h6, HQ.out.2⟩)
              clear hg h6 HT2 HQ HX hbB
              obtain ⟨F7, s7, ht7, hs7⟩ := HS7.out
              have HT7 := Lib.hid ht7
              have HX7 := Lib.hid hs7
              clear ht7 hs7
              have hh7 := HX7.out.hold
              have hl7 := HX7.out.left
              go_wp2_with fail
              refine (thold_any HT7.out.tab HX7.out.ok).mono ?_
              rw [hh7]
              rintro e w8 ⟨rfl, m8, hw8⟩
              have HT8 := Lib.hid (hw8 ▸ HT7.out.drewN m8)
              clear hw8
              go_wp2_with fail
              refine (tleft_any HT8.out.tab HX7.out.ok).mono ?_
              rw [hl7]
              rintro e w9 ⟨rfl, m9, hw9⟩
              have HT9 := Lib.hid (hw9 ▸ HT8.out.drewN m9)
              clear hw9
              go_wp2_with fail
              go_roundw
              case rel => exact ⟨k + 1, by omega, by omega, by go_num, F7, s7, HT9.out, by have hn := HN.out; have := HX7.out; rw [show u + 3 - (k + 1) = n + 1 by omega]; exact this⟩
              case measure => simp [intOf]; omega
            · have HQ := Lib.hid HX.out.leave
              go_wp2_with fail
              refine (tleave_any HT2.out.tab HX.out.ok (by omega) (k : Int) hwf).mono ?_
              intro e w6 hg
              rw [HX.out.has] at hg
              obtain ⟨F6, rfl, h6, _⟩ := HT2.out.step hg
              have HS7 := Lib.hid (show StT w.heap.size w w6 g (k + 1) (n + 1) from ⟨F6, _, h6, HQ.out⟩)
              clear hg h6 HT2 HQ HX hbB
              obtain ⟨F7, s7, ht7, hs7⟩ := HS7.out
              have HT7 := Lib.hid ht7
              have HX7 := Lib.hid hs7
              clear ht7 hs7
              have hh7 := HX7.out.hold
              have hl7 := HX7.out.left
              go_wp2_with fail
              refine (thold_any HT7.out.tab HX7.out.ok).mono ?_
              rw [hh7]
              rintro e w8 ⟨rfl, m8, hw8⟩
              have HT8 := Lib.hid (hw8 ▸ HT7.out.drewN m8)
              clear hw8
              go_wp2_with fail
              refine (tleft_any HT8.out.tab HX7.out.ok).mono ?_
              rw [hl7]
              rintro e w9 ⟨rfl, m9, hw9⟩
              have HT9 := Lib.hid (hw9 ▸ HT8.out.drewN m9)
              clear hw9
              go_wp2_with fail
              go_roundw
              case rel => exact ⟨k + 1, by omega, by omega, by go_num, F7, s7, HT9.out, by have hn := HN.out; have := HX7.out; rw [show u + 3 - (k + 1) = n + 1 by omega]; exact this⟩
              case measure => simp [intOf]; omega
            · have HQ := Lib.hid HX.out.watch
              go_wp2_with fail
              refine (tset_any HT2.out.tab HX.out.ok (by omega) (k : Int) 0 hwf (by decide)).mono ?_
              intro e w6 hg
              rw [HQ.out.1] at hg
              obtain ⟨F6, rfl, h6, _⟩ := HT2.out.step hg
              have HS7 := Lib.hid (show StT w.heap.size w w6 g (k + 1) (n + 1) from ⟨F6, _, h6, HQ.out.2⟩)
              clear hg h6 HT2 HQ HX hbB
              obtain ⟨F7, s7, ht7, hs7⟩ := HS7.out
              have HT7 := Lib.hid ht7
              have HX7 := Lib.hid hs7
              clear ht7 hs7
              have hh7 := HX7.out.hold
              have hl7 := HX7.out.left
              go_wp2_with fail
              refine (thold_any HT7.out.tab HX7.out.ok).mono ?_
              rw [hh7]
              rintro e w8 ⟨rfl, m8, hw8⟩
              have HT8 := Lib.hid (hw8 ▸ HT7.out.drewN m8)
              clear hw8
              go_wp2_with fail
              refine (tleft_any HT8.out.tab HX7.out.ok).mono ?_
              rw [hl7]
              rintro e w9 ⟨rfl, m9, hw9⟩
              have HT9 := Lib.hid (hw9 ▸ HT8.out.drewN m9)
              clear hw9
              go_wp2_with fail
              go_roundw
              case rel => exact ⟨k + 1, by omega, by omega, by go_num, F7, s7, HT9.out, by have hn := HN.out; have := HX7.out; rw [show u + 3 - (k + 1) = n + 1 by omega]; exact this⟩
              case measure => simp [intOf]; omega
            · have HQ := Lib.hid HX.out.rev
              go_wp2_with fail
              refine (trev_any HT2.out.tab HX.out.ok (by omega)).mono ?_
              intro e w6 hg
              rw [HQ.out.1] at hg
              obtain ⟨F6, rfl, h6, _⟩ := HT2.out.step hg
              have HS7 := Lib.hid (show StT w.heap.size w w6 g (k + 1) (n + 1) from ⟨F6, _, h6, HQ.out.2⟩)
              clear hg h6 HT2 HQ HX hbB
              obtain ⟨F7, s7, ht7, hs7⟩ := HS7.out
              have HT7 := Lib.hid ht7
              have HX7 := Lib.hid hs7
              clear ht7 hs7
              have hh7 := HX7.out.hold
              have hl7 := HX7.out.left
              go_wp2_with fail
              refine (thold_any HT7.out.tab HX7.out.ok).mono ?_
              rw [hh7]
              rintro e w8 ⟨rfl, m8, hw8⟩
              have HT8 := Lib.hid (hw8 ▸ HT7.out.drewN m8)
              clear hw8
              go_wp2_with fail
              refine (tleft_any HT8.out.tab HX7.out.ok).mono ?_
              rw [hl7]
              rintro e w9 ⟨rfl, m9, hw9⟩
              have HT9 := Lib.hid (hw9 ▸ HT8.out.drewN m9)
              clear hw9
              go_wp2_with fail
              go_roundw
              case rel => exact ⟨k + 1, by omega, by omega, by go_num, F7, s7, HT9.out, by have hn := HN.out; have := HX7.out; rw [show u + 3 - (k + 1) = n + 1 by omega]; exact this⟩
              case measure => simp [intOf]; omega
          · obtain rfl : k = u + 2 := by omega
            rw [show u + 3 - (u + 2) = 1 by omega] at hs
            have HX := Lib.hid hs
            have HQ := Lib.hid hs.qlen
            clear hs
            go_wp2_with fail
            refine (tqueue_any HT.out.tab HX.out.ok (by omega)).mono ?_
            intro e w6 hg
            obtain ⟨F6, a, n, c, rfl, h6, _, _, hv, _, _⟩ := HT.out.lstep hg
            have HT6 := Lib.hid h6
            obtain rfl : n = 0 := by have := hv.1; rw [ints_len, HQ.out] at this; omega
            clear hg h6 hv
            go_wp2
            go_ret
            exact ⟨rfl, HT6.out.bel⟩

set_option maxRecDepth 100000 in
theorem lifted (os : Os) (started : os.Started) (H : Type) (enc : TypeId × Value → H) :
    ReturnsInHanded {} Try.checked os 6 .any (Rows.floorOrderSpec.pre6 enc Try.prog Try.f6 Rows.floorOrderRow.domain false) (Rows.floorOrderSpec.post enc Try.prog Try.f6 false true false false) := by
  refine returnsInHanded_of_change_sized (C := Try.checked) own started (by kernel_rfl) Try.func6
    (ChangeSpec.witness6 (enc := enc) (C := Try.checked) false ⟨#[], #[.int .i64 0, .slice none 0 0], []⟩ 8 (by kernel_rfl) (by kernel_rfl) (by kernel_rfl) (by kernel_rfl)) ?_
  intro W base args ds gs before hval0 hW hcnd hsz0 _
  have hval : ∀ (j : Nat) t v, Try.f6.params[j]? = some t → args[j]? = some v → Value.okWide Try.prog W .any base t v := hval0
  have hW' := hW
  obtain ⟨p, q, hA0, hV, rfl, hfz, hnd⟩ := hW
  have hsz : (DataW.weightsEach Try.prog (Try.f6.params.toList ++ Rows.floorOrderSpec.plain.varTypes Try.prog) (ds ++ gs)).all (· ≤ reachBytes) = true := hsz0
  have hA : DataW.TrodAll enc Try.prog W 0 (fun _ => true) true Try.f6.params.toList args.toList ds p := hA0
  rw [Try.params6] at hA hval hsz
  obtain ⟨v0, vs0, d0, ds0, p0, q0, hargs, rfl, rfl, h0, r0⟩ := trodAll_cons hA
  obtain ⟨v1, vs1, d1, ds1, p1, q1, rfl, rfl, rfl, h1, r1⟩ := trodAll_cons r0
  obtain ⟨rfl, rfl, rfl⟩ := trodAll_nil r1
  obtain rfl : args = #[v0, v1] := by cases args; simp_all
  obtain ⟨rfl, rfl⟩ := trodVars_none hV
  obtain ⟨a0, rfl, rfl, rfl, w0⟩ := open_int Try.underlying3 (hval 0 3 v0 rfl rfl) h0
  obtain ⟨a1, len1, cap1, rfl⟩ := okWide_slice Try.underlying39 (hval 1 39 v1 rfl rfl)
  have k1 := h1
  have lt1 : ∀ x ∈ p1, x.block < W.heap.size := by obtain ⟨m, hm⟩ := k1; exact DataW.trod_lt m _ _ _ hm
  obtain ⟨z1, w1⟩ : ∃ zs, IsRow .i64 W a1 len1 cap1 zs := by
    obtain ⟨fuel, hf⟩ := h1
    exact open_row hf
  clear hA0 hval0 hsz hsz0
  refine (walk a0 a1 len1 cap1 z1 W w0 w1).mono fun e W' ⟨he, bel⟩ => ?_
  subst he
  exact ⟨_, rfl, _, _, _, [], _, [], hW', trodAll_mk1 (shut_bool Try.underlying4 _), (trodAll_cons_mk (shut_int Try.underlying3 w0) (trodAll_cons_mk (Below.trod laidOut (by kernel_rfl) (of_decide_eq_true (by kernel_rfl)) k1 bel lt1) trodAll_mk0)), rfl, bel.frame _, fun h => by cases h⟩

theorem over : Rows.floorOrderRow.holds Try.pinned (OpenSpec.ofChange Rows.floorOrderSpec) :=
  OpenClaim.holds_of_wide 6 Try.f6 rfl rfl rfl rfl rfl rfl rfl ⟨rfl, rfl, rfl, rfl, rfl⟩ rfl rfl rfl rfl rfl (by kernel_rfl) Try.func6 (by kernel_rfl)
    (of_decide_eq_true (by kernel_rfl)) (by unfold Func.isWrapper; first | (rw [if_pos (by decide +kernel)]; kernel_rfl) | (rw [if_neg (by decide +kernel)]; exact ⟨rfl, rfl⟩))
    (fun os started H enc _ => lifted os started H enc)

end Go.Proofs.Ytoohlingoklaaaa.floorOrder
namespace Go.Proofs.Ytoohlingoklaaaa
theorem floorOrder_holds : Rows.FloorOrderSaid := floorOrder.over
#print axioms floorOrder_holds
end Go.Proofs.Ytoohlingoklaaaa
