/- SpotSigns: for every input the law answers true, and its arguments read as before. Conditions: none. -/
import Derived.Test.YtfehlmoghibamaaSph
namespace Go.Proofs.Ytfehlmoghibamaa.spotSigns
open Go.ChangeShapes Go.WideShapes Go.ChangeAt Go.RowKit
open Sp

theorem and4095 (a : Int) : ∃ r : Nat, r ≤ 4095 ∧ bits .and .i64 a 4095 = r := by
  have hlt : (BitVec.ofInt 64 a &&& BitVec.ofInt 64 4095).toNat ≤ 4095 := by
    rw [BitVec.toNat_and]
    exact Nat.and_le_right
  refine ⟨_, hlt, ?_⟩
  show IntKind.i64.wrap ((BitVec.ofInt 64 a &&& BitVec.ofInt 64 4095).toNat : Int) = _
  rw [IntKind.wrap_i64]
  omega

/-- the place behind so many signs -/
def at_ (W : Int) (j : Nat) : Sp := ⟨W, (j : Int) % W, (j : Int) / W, 0⟩

theorem at_next (W : Int) (j : Nat) (h0 : 1 ≤ W) : nxt (at_ W j) 120 = at_ W (j + 1) := by
  have hm0 := Int.emod_nonneg (j : Int) (show W ≠ 0 by omega)
  have hm1 := Int.emod_lt_of_pos (j : Int) (show 0 < W by omega)
  have hd := Int.mul_ediv_add_emod (j : Int) W
  unfold at_ nxt
  simp only
  rw [if_neg (by omega), if_neg (by omega)]
  unfold Sp.lone
  simp only
  rw [if_neg (by omega), if_neg (by omega), if_neg (by omega), if_neg (by omega), if_neg (by omega), if_neg (by omega)]
  have e : ((j + 1 : Nat) : Int) = W * ((j : Int) / W) + ((j : Int) % W + 1) := by omega
  by_cases h : (j : Int) % W + 1 < W
  · rw [if_pos h]
    have e1 : ((j + 1 : Nat) : Int) % W = (j : Int) % W + 1 := by
      rw [e, Int.mul_add_emod_self_left, Int.emod_eq_of_lt (by omega) h]
    have e2 : ((j + 1 : Nat) : Int) / W = (j : Int) / W := by
      rw [e, Int.mul_add_ediv_left _ _ (by omega), Int.ediv_eq_zero_of_lt (by omega) h]
      omega
    rw [e1, e2]
  · rw [if_neg h]
    have hw : (j : Int) % W + 1 = W := by omega
    have e1 : ((j + 1 : Nat) : Int) % W = 0 := by
      rw [e, hw, Int.mul_add_emod_self_left, Int.emod_self]
    have e2 : ((j + 1 : Nat) : Int) / W = (j : Int) / W + 1 := by
      rw [e, hw, Int.mul_add_ediv_left _ _ (by omega), Int.ediv_self (by omega)]
    rw [e1, e2]

theorem at_ok (W : Int) (j : Nat) (h0 : 1 ≤ W) (h1 : W ≤ 500) : Ok (at_ W j) j := by
  have hm0 := Int.emod_nonneg (j : Int) (show W ≠ 0 by omega)
  have hm1 := Int.emod_lt_of_pos (j : Int) (show 0 < W by omega)
  have hd0 : 0 ≤ (j : Int) / W := Int.ediv_nonneg (by omega) (by omega)
  have hd1 : (j : Int) / W ≤ j := Int.ediv_le_self _ (by omega)
  exact ⟨h0, h1, hm0, hm1, hd0, hd1, .inl rfl⟩

theorem width_ok (a : Int) : ∃ W : Int, 1 ≤ W ∧ W ≤ 500 ∧ wrap64 (1 + wrap64 ((IntKind.u64.wrap a).tmod 500)) = W := by
  have h0 : 0 ≤ IntKind.u64.wrap a := by rw [IntKind.wrap_u64]; omega
  have e : (IntKind.u64.wrap a).tmod 500 = IntKind.u64.wrap a % 500 := Int.tmod_eq_emod_of_nonneg h0
  rw [e]
  have h1 := Int.emod_nonneg (IntKind.u64.wrap a) (show (500 : Int) ≠ 0 by omega)
  have h2 := Int.emod_lt_of_pos (IntKind.u64.wrap a) (show (0 : Int) < 500 by omega)
  refine ⟨1 + IntKind.u64.wrap a % 500, by omega, by omega, ?_⟩
  generalize IntKind.u64.wrap a % 500 = u at *
  unfold wrap64
  omega

set_option maxRecDepth 100000 in
theorem walk (a0 : Int) (a1 : Int) (w : World) (w0 : (Lit.int .i64 a0).wf = true) (w1 : (Lit.int .i64 a1).wf = true) :
    Calls Try.prog 4 #[.int .i64 a0, .int .i64 a1] w fun e w' => e = .returned (.bool true) ∧ Below w.heap.size w w' := by
  have HA0 := Lib.hid w0
  have HA1 := Lib.hid w1
  clear w0 w1 HA0 HA1
  have kc := fun (w : World) (C : Array Value) (n c : Nat) => Lib.run_convert_bytes_const (P := Try.prog) w 29 5 C n c Try.underlying29 Try.underlying5
  obtain ⟨N, hN, hn⟩ := and4095 a1
  go_enter Try.func4, Try.ntmps4
  go_wp2_with fail
  refine (head_any w).mono ?_
  rintro e w1 ⟨rfl, hb1⟩
  have HB1 := Lib.hid hb1
  clear hb1
  go_wp2_with fail
  obtain ⟨W, h1, h2, hW⟩ := width_ok a0
  rw [hW]
  clear hW
  refine (snew_any W w1).mono ?_
  have hcw : cols W = W := by unfold cols; rw [if_neg (by omega), if_neg (by omega)]
  rw [hcw]
  rintro e w2 ⟨g, rfl, hg, hs, hb2⟩
  have HB2 := Lib.hid (Below.trans HB1.out (hb2.mono HB1.out.size))
  have HS2 := Lib.hid (show SpotIs g w2 (at_ W 0) by unfold at_; simpa using hs)
  have hgw : w.heap.size ≤ g := Nat.le_trans HB1.out.size hg
  clear hs hb2 HB1 hg hcw
  go_wp2_with fail
  go_loopw [6] (fun i wr => ∃ j : Nat, j ≤ N ∧ i = .int .i64 j ∧ SpotIs g wr (at_ W j) ∧ Below w.heap.size w wr) (fun i _ => N - (intOf i).toNat)
  case atStart => exact ⟨0, by omega, rfl, HS2.out, HB2.out⟩
  case round =>
    obtain ⟨j, hj, rfl, hs, hb⟩ := hrel
    have HS := Lib.hid hs
    have HB := Lib.hid hb
    have HOK := Lib.hid (at_ok W j h1 h2)
    have hgl := hs.lt
    clear hs hb
    by_cases hlt : j < N
    · have hal : Below wr.heap.size wr (wr.alloc (.cells #[.int .u8 120] 5)) := (Below.refl _ _).alloc (Nat.le_refl _) _
      have HS3 := Lib.hid (HS.out.keep (only_below hal (fun _ => False)) (fun h => h))
      have HB3 := Lib.hid (Below.trans HB.out (hal.mono HB.out.size))
      have HL3 := Lib.hid (lit_new wr [120#8] #[.int .u8 120] 5 (0, 0) rfl)
      have hsz : (wr.alloc (.cells #[.int .u8 120] 5)).heap.size = wr.heap.size + 1 := by simp
      have HNX := Lib.hid (show nxts (at_ W j) [120#8] = at_ W (j + 1) from at_next W j h1)
      clear hal
      go_wp2_with fail
      generalize wr.alloc (.cells #[.int .u8 120] 5) = w3 at *
      refine (sput_any g (at_ W j) j (some ⟨wr.heap.size, 0, none⟩) 1 1 _ _ w3 HS3.out HOK.out (by omega) HL3.out (by omega) (fun _ p hp => by injection hp with hp; subst hp; simp; omega)).mono ?_
      rintro e w4 ⟨rfl, ho4, hs4⟩
      rw [HNX.out] at hs4
      have HS4 := Lib.hid hs4
      have HB4 := Lib.hid (below_only HB3.out ho4 hgw)
      clear ho4 hs4
      go_wp2
      go_roundw
      case rel => exact ⟨j + 1, by omega, by go_num, HS4.out, HB4.out⟩
      case measure => simp [intOf]; omega
    · obtain rfl : j = N := by omega
      have hd1 : ((j : Int) % W) = (j : Int).tmod W := (Int.tmod_eq_emod_of_nonneg (by omega)).symm
      have hd2 : ((j : Int) / W) = (j : Int).tdiv W := (Int.tdiv_eq_ediv_of_nonneg (by omega)).symm
      go_wp2_with fail
      refine (sat_any g (at_ W j) j wr HS.out HOK.out (by omega)).mono ?_
      rintro e w5 ⟨rfl, hb5⟩
      have HS5 := Lib.hid (HS.out.keep (only_below hb5 (fun _ => False)) (fun h => h))
      have HB5 := Lib.hid (Below.trans HB.out (hb5.mono HB.out.size))
      have hgl5 := HS5.out.lt
      clear hb5 HS HB
      rw [show (at_ W j).c = (j : Int) % W from rfl, show (at_ W j).r = (j : Int) / W from rfl]
      have hj0 : (0 : Int) ≤ (j : Int) := by omega
      have hwne : (W == 0) = false := by simp; omega
      clear hd1 hd2
      have hdv : wrap64 ((j : Int) / W) = (j : Int) / W := by
        have hd0 : 0 ≤ (j : Int) / W := Int.ediv_nonneg (by omega) (by omega)
        have hd1 : (j : Int) / W ≤ j := Int.ediv_le_self _ (by omega)
        generalize (j : Int) / W = d at *
        unfold wrap64
        omega
      have hal : Below w5.heap.size w5 (w5.alloc (.cells #[.int .u8 13] 5 (1, 2))) := (Below.refl _ _).alloc (Nat.le_refl _) _
      have HS6 := Lib.hid (HS5.out.keep (only_below hal (fun _ => False)) (fun h => h))
      have HB6 := Lib.hid (Below.trans HB5.out (hal.mono HB5.out.size))
      have HL6 := Lib.hid (lit_new w5 [13#8] #[.int .u8 13] 5 (1, 2) rfl)
      have hsz : (w5.alloc (.cells #[.int .u8 13] 5 (1, 2))).heap.size = w5.heap.size + 1 := by simp
      have HNX := Lib.hid (show nxts (at_ W j) [13#8] = ⟨W, 0, (j : Int) / W, 0⟩ from rfl)
      clear hal
      go_wp2_with fail
      generalize w5.alloc (.cells #[.int .u8 13] 5 (1, 2)) = w6 at *
      refine (sput_any g (at_ W j) j (some ⟨w5.heap.size, 0, none⟩) 1 1 _ _ w6 HS6.out HOK.out (by omega) HL6.out (by omega) (fun _ p hp => by injection hp with hp; subst hp; simp; omega)).mono ?_
      rintro e w7 ⟨rfl, ho7, hs7⟩
      rw [HNX.out] at hs7
      have hok7 := Ok.nxts HOK.out [13#8]
      rw [HNX.out] at hok7
      have HOK7 := Lib.hid hok7
      have HS7 := Lib.hid hs7
      have HB7 := Lib.hid (below_only HB6.out ho7 hgw)
      clear ho7 hs7 hok7
      go_wp2_with fail
      refine (sat_any g _ _ _ HS7.out HOK7.out (by simp; omega)).mono ?_
      rintro e w8 ⟨rfl, hb8⟩
      have HB8 := Lib.hid (Below.trans HB7.out (hb8.mono HB7.out.size))
      clear hb8
      go_wp2
      go_ret
      exact ⟨rfl, HB8.out⟩

set_option maxRecDepth 100000 in
theorem lifted (os : Os) (started : os.Started) (H : Type) (enc : TypeId × Value → H) :
    ReturnsInHanded {} Try.checked os 4 .any (Rows.spotSignsSpec.pre6 enc Try.prog Try.f4 Rows.spotSignsRow.domain false) (Rows.spotSignsSpec.post enc Try.prog Try.f4 false true false false) := by
  refine returnsInHanded_of_change_sized (C := Try.checked) own started (by kernel_rfl) Try.func4
    (ChangeSpec.witness6 (enc := enc) (C := Try.checked) false ⟨#[], #[.int .i64 0, .int .i64 0], []⟩ 8 (by kernel_rfl) (by kernel_rfl) (by kernel_rfl) (by kernel_rfl)) ?_
  intro W base args ds gs before hval0 hW hcnd hsz0 _
  have hval : ∀ (j : Nat) t v, Try.f4.params[j]? = some t → args[j]? = some v → Value.okWide Try.prog W .any base t v := hval0
  have hW' := hW
  obtain ⟨p, q, hA0, hV, rfl, hfz, hnd⟩ := hW
  have hsz : (DataW.weightsEach Try.prog (Try.f4.params.toList ++ Rows.spotSignsSpec.plain.varTypes Try.prog) (ds ++ gs)).all (· ≤ reachBytes) = true := hsz0
  have hA : DataW.TrodAll enc Try.prog W 0 (fun _ => true) true Try.f4.params.toList args.toList ds p := hA0
  rw [Try.params4] at hA hval hsz
  obtain ⟨v0, vs0, d0, ds0, p0, q0, hargs, rfl, rfl, h0, r0⟩ := trodAll_cons hA
  obtain ⟨v1, vs1, d1, ds1, p1, q1, rfl, rfl, rfl, h1, r1⟩ := trodAll_cons r0
  obtain ⟨rfl, rfl, rfl⟩ := trodAll_nil r1
  obtain rfl : args = #[v0, v1] := by cases args; simp_all
  obtain ⟨rfl, rfl⟩ := trodVars_none hV
  obtain ⟨a0, rfl, rfl, rfl, w0⟩ := open_int Try.underlying3 (hval 0 3 v0 rfl rfl) h0
  obtain ⟨a1, rfl, rfl, rfl, w1⟩ := open_int Try.underlying3 (hval 1 3 v1 rfl rfl) h1
  clear hA0 hval0 hsz hsz0
  refine (walk a0 a1 W w0 w1).mono fun e W' ⟨he, bel⟩ => ?_
  subst he
  exact ⟨_, rfl, _, _, _, [], _, [], hW', trodAll_mk1 (shut_bool Try.underlying4 _), (trodAll_cons_mk (shut_int Try.underlying3 w0) (trodAll_cons_mk (shut_int Try.underlying3 w1) trodAll_mk0)), rfl, bel.frame _, fun h => by cases h⟩

theorem over : Rows.spotSignsRow.holds Try.pinned (OpenSpec.ofChange Rows.spotSignsSpec) :=
  OpenClaim.holds_of_wide 4 Try.f4 rfl rfl rfl rfl rfl rfl rfl ⟨rfl, rfl, rfl, rfl, rfl⟩ rfl rfl rfl rfl rfl (by kernel_rfl) Try.func4 (by kernel_rfl)
    (of_decide_eq_true (by kernel_rfl)) (by unfold Func.isWrapper; first | (rw [if_pos (by decide +kernel)]; kernel_rfl) | (rw [if_neg (by decide +kernel)]; exact ⟨rfl, rfl⟩))
    (fun os started H enc _ => lifted os started H enc)

end Go.Proofs.Ytfehlmoghibamaa.spotSigns
namespace Go.Proofs.Ytfehlmoghibamaa
theorem spotSigns_holds : Rows.SpotSignsSaid := spotSigns.over
#print axioms spotSigns_holds
end Go.Proofs.Ytfehlmoghibamaa
