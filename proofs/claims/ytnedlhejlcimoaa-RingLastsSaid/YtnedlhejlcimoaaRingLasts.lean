/- RingLasts: for every input the law answers true, and its arguments read as before. Conditions: none. -/
import Derived.Test.YtnedlhejlcimoaaRingx
import Derived.ProofKit
import Derived.OpenShut
import Derived.ShutString
import Derived.ChangeOld
namespace Go.Proofs.Ytnedlhejlcimoaa.ringLasts
open Go.ChangeShapes Go.WideShapes Go.ChangeAt Go.RowKit
open Go.ChangeMaps (open_string shut_string)
open Rg
set_option linter.unusedVariables false

theorem own : ownKnob Try.prog.godebug = none := by kernel_rfl
theorem laidOut : laidOutB Try.prog = true := by kernel_rfl

theorem size_any (a : Int) : ∃ p : Nat, p < 300 ∧ wrap64 ((IntKind.u64.wrap a).tmod 300) = p := by
  have h1 := wrap_u64_nonneg a
  generalize IntKind.u64.wrap a = x at *
  rw [Int.tmod_eq_emod_of_nonneg h1]
  refine ⟨(x % 300).toNat, by omega, ?_⟩
  rw [IntWalk.wrap64_in _ (by omega)]
  omega

theorem n_any (a : Int) : ∃ m : Nat, m ≤ 1023 ∧ bits .and .i64 a 1023 = m := by
  have hlt : (BitVec.ofInt 64 a &&& BitVec.ofInt 64 1023).toNat ≤ 1023 := by
    rw [BitVec.toNat_and]
    exact Nat.and_le_right
  refine ⟨_, hlt, ?_⟩
  show IntKind.i64.wrap ((BitVec.ofInt 64 a &&& BitVec.ofInt 64 1023).toNat : Int) = _
  rw [IntKind.wrap_i64]
  omega

/-- the byte that comes as the i-th -/
def f (c : BitVec 8) (i : Nat) : BitVec 8 := BitVec.ofNat 8 (c.toNat + i % 128)

theorem and_127 (i : Nat) (h : i ≤ 100000) : bits .and .i64 (i : Int) 127 = (i % 128 : Nat) := by
  have e1 : (BitVec.ofInt 64 (i : Int) &&& BitVec.ofInt 64 127).toNat = i % 128 := by
    rw [BitVec.toNat_and, BitVec.ofInt_natCast, BitVec.toNat_ofNat, Nat.mod_eq_of_lt (by omega)]
    exact Nat.and_two_pow_sub_one_eq_mod i 7
  show IntKind.i64.wrap ((BitVec.ofInt 64 (i : Int) &&& BitVec.ofInt 64 127).toNat : Int) = _
  rw [e1, IntKind.wrap_i64]
  omega

theorem f_int (c : BitVec 8) (i : Nat) : ((c.toNat : Int) + (i : Int) % 128) % 256 = (f c i).toNat := by
  unfold f
  rw [BitVec.toNat_ofNat]
  omega

theorem u8_wf {n : Int} (h : (Lit.int .u8 n).wf = true) : ∃ s : BitVec 8, n = s.toNat := by
  simp [Lit.wf, IntKind.min, IntKind.max, IntKind.bits, IntKind.signed] at h
  exact ⟨BitVec.ofNat 8 n.toNat, by simp; omega⟩

set_option maxHeartbeats 2000000 in
theorem walk (a0 : Int) (a1 : Int) (a2 : Int) (w0 : (Lit.int .i64 a0).wf = true) (w1 : (Lit.int .i64 a1).wf = true) (w2 : (Lit.int .u8 a2).wf = true) (w : World) :
    Calls Try.prog 6 #[.int .i64 a0, .int .i64 a1, .int .u8 a2] w fun e w' => e = .returned (.bool true) ∧ Below w.heap.size w w' := by
  obtain ⟨c, rfl⟩ := u8_wf w2
  obtain ⟨p, hp, ep⟩ := size_any a0
  obtain ⟨m, hm, em⟩ := n_any a1
  have hroom : roomOf ((1 : Int) + (p : Int)) = 1 + p := by unfold roomOf; omega
  have HRoom := Lib.hid hroom
  clear hroom
  go_enter Try.func6, Try.ntmps6
  go_wp2_with fail
  refine (head01_any w).mono ?_
  rintro e w1 ⟨rfl, hb1⟩
  have HB1 := Lib.hid hb1
  clear hb1
  go_wp2_with fail
  refine (new_ring _ w1).mono ?_
  rintro e w2 ⟨rfl, hr2, hb2, hs2⟩
  rw [HRoom.out] at hr2
  have HR2 := Lib.hid hr2
  have HB2 := Lib.hid (Below.trans HB1.out (hb2.mono HB1.out.size))
  have HS2 := Lib.hid hs2
  clear hr2 hb2 hs2
  go_wp2
  go_loopw [8] (fun i wr => ∃ k : Nat, k ≤ m ∧ i = .int .i64 k ∧ Ring wr (w1.heap.size + 1) w1.heap.size (1 + p) ((List.range k).map (f c)) ∧ Below w.heap.size w wr) (fun i _ => m - (intOf i).toNat)
  case atStart => exact ⟨0, by omega, rfl, HR2.out, HB2.out⟩
  case round =>
    obtain ⟨k, hk, rfl, hring, hbr⟩ := hrel
    have HRing := Lib.hid hring
    have HBr := Lib.hid hbr
    clear hring hbr
    by_cases hlt : k < m
    · have h127 := and_127 k (by omega)
      go_wp2_with fail
      rw [f_int]
      have hout : Bytes (wr.alloc (.cells #[.int .u8 (f c k).toNat] 5)) (wr.heap.size + 1) (some ⟨wr.heap.size, 0, none⟩) 1 [f c k] := by
        refine ⟨rfl, fun _ => ⟨_, 0, rfl, by omega, fun i hi => ?_⟩⟩
        obtain rfl : i = 0 := by omega
        rw [cell_of_row _ _ _ _ _ _ (heap_alloc_new _ _)]
        rfl
      have hlt1 := HRing.out.lt
      refine (append_ring (HRing.out.keep ((Only.refl (fun _ => False) wr).alloc _) (fun h => h) (fun h => h)) _ 1 1 [f c k] hout (fun _ q hq => by injection hq with hq; subst hq; exact ⟨by simp; omega, by simp; omega⟩) (Nat.le_refl _) (by simp) (by simp; omega)).mono ?_
      rintro e w4 ⟨rfl, hr4, ho4⟩
      have hb4 : Below w.heap.size w w4 := Below.trans HBr.out (((Only.refl (fun q => q = w1.heap.size + 1 ∨ q = w1.heap.size) wr).alloc _ |>.trans ho4).below HBr.out.size (fun q hq => by have := HB1.out.size; omega))
      have hl4 : (List.range k).map (f c) ++ [f c k] = (List.range (k + 1)).map (f c) := by rw [List.range_succ, List.map_append]; rfl
      rw [hl4] at hr4
      have HR4 := Lib.hid hr4
      have HB4 := Lib.hid hb4
      clear hr4 ho4 hb4 hl4 hout hlt1
      go_wp2
      go_roundw
      case rel => exact ⟨k + 1, by omega, by go_num, HR4.out, HB4.out⟩
      case measure => simp [intOf]; omega
    · obtain rfl : k = m := by omega
      have HL : Hid (((List.range k).map (f c)).length = k) := Lib.hid (by simp)
      go_wp2_with fail
      refine (base_ring HRing.out).mono ?_
      rintro e w5 ⟨rfl, m5, rfl⟩
      rw [HL.out]
      go_wp2_with fail
      have hcs : ∃ off count : Nat, k - (1 + p) = off ∧ off + count = k ∧ ((k ≤ 1 + p ∧ count = k) ∨ (1 + p < k ∧ count = 1 + p)) := by
        by_cases h : k ≤ 1 + p
        · exact ⟨0, k, by omega, by omega, .inl ⟨h, rfl⟩⟩
        · exact ⟨k - (1 + p), 1 + p, rfl, by omega, .inr ⟨by omega, rfl⟩⟩
      obtain ⟨off, count, hoff, hsum, hcase⟩ := hcs
      rw [hoff]
      refine (read_ring (HRing.out.drewN m5) off _ count (by rw [HL.out]; omega) (by rw [HL.out]; omega) (by rw [HL.out]; omega)).mono ?_
      rintro e w6 ⟨a3, rfl, hby, hab, ho6⟩
      have hlist : ∀ j, j < count → (((List.range k).map (f c)).drop off |>.take count)[j]?.getD 0#8 = f c (off + j) := by
        intro j hj
        rw [List.getElem?_take, if_pos hj, List.getElem?_drop, List.getElem?_map, List.getElem?_range (by omega)]
        rfl
      have HList := Lib.hid hlist
      have HBy := Lib.hid hby
      have hr6 := (HRing.out.drewN m5).keep ho6 (fun h => h) (fun h => h)
      have hb6 : Below w.heap.size w w6 := Below.trans (below_drewN HBr.out m5) (ho6.below HBr.out.size (fun _ _ h => h))
      have HR6 := Lib.hid hr6
      have HB6 := Lib.hid hb6
      have HS := Lib.hid hsum
      have HOff := Lib.hid hoff
      have hck : count ≤ k := by omega
      clear hlist hby hr6 hb6 ho6 hab hsum hoff
      rcases hcase with ⟨hle, rfl⟩ | ⟨hle, rfl⟩
      all_goals
        go_wp2_with fail
        refine (end_ring HR6.out).mono ?_
        rintro e w7 ⟨rfl, rfl⟩
        rw [HL.out]
        go_wp2
      · go_loop [69] (fun i => ∃ j : Nat, j ≤ count ∧ i = .int .i64 j) (fun i => count - (intOf i).toNat)
        case atStart => exact ⟨0, by omega, rfl⟩
        case round =>
          obtain ⟨j, hj, rfl⟩ := hrel
          by_cases hlj : j < count
          · obtain ⟨b, o, rfl, _, hc⟩ := HBy.out.2 (by omega)
            have hcell := hc j hlj
            rw [HList.out j hlj] at hcell
            clear hc
            have h127 := and_127 j (by omega)
            have hcmp : (((f c (off + j)).toNat : Int) != ((c.toNat : Int) + (j : Int) % 128) % 256) = false := by
              have h0 : off = 0 := by have := HS.out; omega
              rw [h0, Nat.zero_add, f_int]
              simp
            go_wp2
            go_round
            case rel => exact ⟨j + 1, by omega, by go_num⟩
            case measure => simp [intOf]; omega
          · go_wp2_with fail
            refine (base_ring HR6.out).mono ?_
            rintro e w7 ⟨rfl, m7, rfl⟩
            rw [HL.out]
            go_wp2_with fail
            refine (read_ring_no (HR6.out.drewN _) _ 1 (.inl (by rw [HL.out]; omega))).mono ?_
            rintro e w8 ⟨rfl, m8, rfl⟩
            go_wp2_with fail
            refine (end_ring (HR6.out.drewN _)).mono ?_
            rintro e w9 ⟨rfl, rfl⟩
            rw [HL.out]
            go_wp2_with fail
            refine (read_ring_no (HR6.out.drewN _) _ 1 (.inr (by rw [HL.out]; omega))).mono ?_
            rintro e w10 ⟨rfl, m10, rfl⟩
            go_wp2
            go_ret
            exact ⟨rfl, below_drewN HB6.out _⟩
      · go_loop [69] (fun i => ∃ j : Nat, j ≤ (1 + p) ∧ i = .int .i64 j) (fun i => (1 + p) - (intOf i).toNat)
        case atStart => exact ⟨0, by omega, rfl⟩
        case round =>
          obtain ⟨j, hj, rfl⟩ := hrel
          by_cases hlj : j < (1 + p)
          · obtain ⟨b, o, rfl, _, hc⟩ := HBy.out.2 (by omega)
            have hcell := hc j hlj
            rw [HList.out j hlj] at hcell
            clear hc
            have hsp : (k : Int) - (1 + (p : Int)) + (j : Int) = ((off + j : Nat) : Int) := by have := HS.out; omega
            have h127 : bits .and .i64 ((k : Int) - (1 + (p : Int)) + (j : Int)) 127 = ((off + j) % 128 : Nat) := by rw [hsp]; exact and_127 (off + j) (by have := HS.out; omega)
            have hcmp : (((f c (off + j)).toNat : Int) != ((c.toNat : Int) + ((off : Int) + (j : Int)) % 128) % 256) = false := by
              have := f_int c (off + j)
              rw [show ((off : Int) + (j : Int)) = ((off + j : Nat) : Int) by omega, this]
              simp
            clear hsp
            go_wp2
            go_round
            case rel => exact ⟨j + 1, by omega, by go_num⟩
            case measure => simp [intOf]; omega
          · go_wp2_with fail
            refine (base_ring HR6.out).mono ?_
            rintro e w7 ⟨rfl, m7, rfl⟩
            rw [HL.out]
            go_wp2_with fail
            refine (read_ring_no (HR6.out.drewN _) _ 1 (.inl (by rw [HL.out]; omega))).mono ?_
            rintro e w8 ⟨rfl, m8, rfl⟩
            go_wp2_with fail
            refine (end_ring (HR6.out.drewN _)).mono ?_
            rintro e w9 ⟨rfl, rfl⟩
            rw [HL.out]
            go_wp2_with fail
            refine (read_ring_no (HR6.out.drewN _) _ 1 (.inr (by rw [HL.out]; omega))).mono ?_
            rintro e w10 ⟨rfl, m10, rfl⟩
            go_wp2
            go_ret
            exact ⟨rfl, below_drewN HB6.out _⟩

set_option maxRecDepth 100000 in
theorem lifted (os : Os) (started : os.Started) (H : Type) (enc : TypeId × Value → H) :
    ReturnsInHanded {} Try.checked os 6 .any (Rows.ringLastsSpec.pre6 enc Try.prog Try.f6 Rows.ringLastsRow.domain false) (Rows.ringLastsSpec.post enc Try.prog Try.f6 false true false false) := by
  refine returnsInHanded_of_change (C := Try.checked) own started (by kernel_rfl) Try.func6
    (ChangeSpec.witness6 (enc := enc) (C := Try.checked) false ⟨#[], #[.int .i64 0, .int .i64 0, .int .u8 0], []⟩ 8 (by kernel_rfl) (by kernel_rfl) (by kernel_rfl) (by kernel_rfl)) ?_
  intro W base args ds gs before hval0 hW hcnd _
  have hval : ∀ (j : Nat) t v, Try.f6.params[j]? = some t → args[j]? = some v → Value.okWide Try.prog W .any base t v := hval0
  have hW' := hW
  obtain ⟨p, q, hA0, hV, rfl, hfz, hnd⟩ := hW
  have hA : DataW.TrodAll enc Try.prog W 0 (fun _ => true) true Try.f6.params.toList args.toList ds p := hA0
  rw [Try.params6] at hA hval
  obtain ⟨v0, vs0, d0, ds0, p0, q0, hargs, rfl, rfl, h0, r0⟩ := trodAll_cons hA
  obtain ⟨v1, vs1, d1, ds1, p1, q1, rfl, rfl, rfl, h1, r1⟩ := trodAll_cons r0
  obtain ⟨v2, vs2, d2, ds2, p2, q2, rfl, rfl, rfl, h2, r2⟩ := trodAll_cons r1
  obtain ⟨rfl, rfl, rfl⟩ := trodAll_nil r2
  obtain rfl : args = #[v0, v1, v2] := by cases args; simp_all
  obtain ⟨rfl, rfl⟩ := trodVars_none hV
  obtain ⟨a0, rfl, rfl, rfl, w0⟩ := open_int Try.underlying3 (hval 0 3 v0 rfl rfl) h0
  obtain ⟨a1, rfl, rfl, rfl, w1⟩ := open_int Try.underlying3 (hval 1 3 v1 rfl rfl) h1
  obtain ⟨a2, rfl, rfl, rfl, w2⟩ := open_int Try.underlying5 (hval 2 5 v2 rfl rfl) h2
  clear hA0 hval0
  refine (walk a0 a1 a2 w0 w1 w2 W).mono fun e W' ⟨he, bel⟩ => ?_
  subst he
  exact ⟨_, rfl, _, _, _, [], _, [], hW', trodAll_mk1 (shut_bool Try.underlying4 _), (trodAll_cons_mk (shut_int Try.underlying3 w0) (trodAll_cons_mk (shut_int Try.underlying3 w1) (trodAll_cons_mk (shut_int Try.underlying5 w2) trodAll_mk0))), rfl, bel.frame _, fun h => by cases h⟩

theorem over : Rows.ringLastsRow.holds Try.pinned (OpenSpec.ofChange Rows.ringLastsSpec) :=
  OpenClaim.holds_of_wide 6 Try.f6 rfl rfl rfl rfl rfl rfl rfl ⟨rfl, rfl, rfl, rfl, rfl⟩ rfl rfl rfl rfl rfl (by kernel_rfl) Try.func6 (by kernel_rfl)
    (of_decide_eq_true (by kernel_rfl)) (by unfold Func.isWrapper; first | (rw [if_pos (by decide +kernel)]; kernel_rfl) | (rw [if_neg (by decide +kernel)]; exact ⟨rfl, rfl⟩))
    (fun os started H enc _ => lifted os started H enc)

end Go.Proofs.Ytnedlhejlcimoaa.ringLasts
namespace Go.Proofs.Ytnedlhejlcimoaa
theorem ringLasts_holds : Rows.RingLastsSaid := ringLasts.over
#print axioms ringLasts_holds
end Go.Proofs.Ytnedlhejlcimoaa
