/- InqWhole: for every input the law answers true, and its arguments read as before. Conditions: none. -/
import Derived.Test.YtanloclkbdameaaIqh
import Derived.Test.YtanloclkbdameaaSz
import Derived.Test.YtanloclkbdameaaInp
namespace Go.Proofs.Ytanloclkbdameaa.inqWhole
open Go.ChangeShapes Go.WideShapes Go.ChangeAt Go.RowKit
/-- pieces one behind the other -/
def joined (T : Nat → Bs) : Nat → Bs
  | 0 => []
  | k + 1 => joined T k ++ T k

theorem joined_len {T : Nat → Bs} {m : Nat} : ∀ k, (∀ r, r < k → (T r).length ≤ m) → (joined T k).length ≤ k * m
  | 0, _ => Nat.zero_le _
  | k + 1, h => by
    have h1 := joined_len (T := T) (m := m) k (fun r hr => h r (by omega))
    have h2 := h k (by omega)
    simp only [joined, List.length_append, Nat.succ_mul]
    omega

def s0 : Fl := fjoin (fjoin (fnew 10) 1 2) 2 1
def s1 : Fl := fgive s0 1
def s2 : Fl := fgive s1 2

/-- the table behind so many turns -/
def st (k : Nat) : Fl := if k = 0 then s0 else if k % 2 = 1 then s1 else s2

theorem st_ok (k : Nat) : FOk 10 (st k) := by
  have h0 : FOk 2 s0 := ((fok_new 10).join (id := 1) 2 (by decide)).join (id := 2) 1 (by decide)
  have h1 : FOk 3 s1 := h0.give 1
  have h2 : FOk 4 s2 := h1.give 2
  unfold st
  split
  · exact h0.mono (by decide)
  · split
    · exact h1.mono (by decide)
    · exact h2.mono (by decide)

theorem and_1 (i : Nat) (h : i ≤ 100000) : bits .and .i64 (i : Int) 1 = (i % 2 : Nat) := by
  have e1 : (BitVec.ofInt 64 (i : Int) &&& BitVec.ofInt 64 1).toNat = i % 2 := by
    rw [BitVec.toNat_and, BitVec.ofInt_natCast, BitVec.toNat_ofNat, Nat.mod_eq_of_lt (by omega)]
    exact Nat.and_two_pow_sub_one_eq_mod i 1
  show IntKind.i64.wrap ((BitVec.ofInt 64 (i : Int) &&& BitVec.ofInt 64 1).toNat : Int) = _
  rw [e1, IntKind.wrap_i64]
  omega

theorem st_turn (k : Nat) (hk : k ≤ 100000) : ∃ q : Nat, q ≤ 1 ∧ bits .and .i64 (k : Int) 1 = (q : Int) ∧ wf64 (1 + (q : Int)) ∧ wf64 (3 - (1 + (q : Int))) ∧ giveE (st k) (1 + (q : Int)) = 0 ∧ fgive (st k) (1 + (q : Int)) = st (k + 1) ∧
    whyE false (st (k + 1)) (3 - (1 + (q : Int))) = 4 ∧ whyE false (st (k + 1)) (1 + (q : Int)) = 0 := by
  refine ⟨k % 2, by omega, and_1 k hk, ?_⟩
  rcases Nat.mod_two_eq_zero_or_one k with h | h
  · rw [h]
    have e2 : st (k + 1) = s1 := by unfold st; rw [if_neg (by omega), if_pos (by omega)]
    rw [e2]
    by_cases h0 : k = 0
    · have e1 : st k = s0 := by unfold st; rw [if_pos h0]
      rw [e1]
      exact ⟨by decide, by decide, rfl, rfl, rfl, rfl⟩
    · have e1 : st k = s2 := by unfold st; rw [if_neg h0, if_neg (by omega)]
      rw [e1]
      exact ⟨by decide, by decide, rfl, rfl, rfl, rfl⟩
  · rw [h]
    have e2 : st (k + 1) = s2 := by unfold st; rw [if_neg (by omega), if_neg (by omega)]
    have e1 : st k = s1 := by unfold st; rw [if_neg (by omega), if_pos (by omega)]
    rw [e1, e2]
    exact ⟨by decide, by decide, rfl, rfl, rfl, rfl⟩

set_option maxRecDepth 100000 in
set_option maxHeartbeats 1000000 in
theorem walk (a0 : Option Addr) (len0 cap0 : Nat) (A0 : Nat → Option Addr) (L0 C0 : Nat → Nat) (T0 : Nat → Bs) (w : World) (w0 : Pcs w w.heap.size a0 len0 A0 L0 C0 T0) (g0 : len0 ≤ cap0 ∧ cap0 ≤ maxLen) :
    Calls Try.prog 4 #[.slice a0 len0 cap0] w fun e w' => e = .returned (.bool true) ∧ Below w.heap.size w w' := by
  have HW0 := Lib.hid w0
  have HG := Lib.hid g0
  have hmax : len0 ≤ 9223372036854775807 := by have := g0.1; have := g0.2; unfold maxLen at this; omega
  clear w0 g0
  by_cases hlen : 40 < len0
  · go_enter Try.func4, Try.ntmps4
    go_wp2_with fail
    refine (ihead_any w).mono ?_
    rintro e w1 ⟨rfl, hb1⟩
    go_wp2
    go_ret
    exact ⟨rfl, hb1⟩
  · have hlen0 : len0 ≤ 40 := by omega
    have hd0 : decide (40 < (len0 : Int)) = false := by simp; omega
    have HJ := Lib.hid (show wf64 1 ∧ wf64 2 from ⟨by decide, by decide⟩)
    clear hlen
    go_enter Try.func4, Try.ntmps4
    go_wp2_with fail
    refine (ihead_any w).mono ?_
    rintro e w1 ⟨rfl, hb1⟩
    have HB1 := Lib.hid hb1
    clear hb1
    go_wp2_with fail
    refine (tnew_any 10 w1).mono ?_
    rintro e w2 ⟨F, gt, rfl, ht, hF, hb2⟩
    have H2 := Lib.hid (TB.new HB1.out HB1.out.size ht hF hb2)
    clear ht hF hb2 HB1
    go_wp2_with fail
    refine (iq_new _ w2).mono ?_
    rintro e w3 ⟨g, G, rfl, hq, hG, hb3⟩
    rw [show sizeOf' 65536 = 65536 from by decide] at hq
    have H3 := Lib.hid (TQ.made H2.out hq hG hb3)
    clear hq hG hb3 H2
    go_wp2_with fail
    refine (tjoin_any H3.out.tb.tab (fok_new 10) (by decide) 1 2 HJ.out.1 HJ.out.2).mono ?_
    intro e w4 hg
    obtain ⟨F4, rfl, h4, _⟩ := H3.out.t hg
    have H4 := Lib.hid h4
    clear hg h4 H3
    go_wp2_with fail
    refine (tjoin_any H4.out.tb.tab ((fok_new 10).join (id := 1) 2 (by decide)) (by decide) 2 1 HJ.out.2 HJ.out.1).mono ?_
    intro e w5 hg
    obtain ⟨F5, rfl, h5, _⟩ := H4.out.t hg
    have H5 := Lib.hid (show TQ w.heap.size w w5 F5 gt (st 0) G (IR 0 false) g 65536 [] from h5)
    clear hg h5 H4
    go_wp2
    go_loopw [5, 22] (fun s5 i wr => ∃ (k : Nat) (F G : Nat → Prop), k ≤ len0 ∧ i = .int .i64 k ∧ s5 = .string (str (joined T0 k)) ∧ (∀ r, r < k → (T0 r).length ≤ 200) ∧ TQ w.heap.size w wr F gt (st k) G (IR (joined T0 k).length false) g 65536 (joined T0 k)) (fun _ i _ => len0 - (intOf i).toNat)
    case atStart => exact ⟨0, F5, G, by omega, rfl, rfl, fun r hr => absurd hr (by omega), H5.out⟩
    case round =>
      obtain ⟨k, F, G, hk, rfl, rfl, hle, htq⟩ := hrel
      have HT := Lib.hid htq
      have HLe := Lib.hid hle
      have hjl := joined_len k hle
      have hjs := str_size (joined T0 k)
      clear htq H5 hle
      by_cases hlt : k < len0
      · obtain ⟨b, off, rfl, hbB, hc⟩ := (HW0.out.below HT.out.tb.bel).outer (by omega)
        have hck := hc k hlt
        obtain ⟨hwb, hw1, hw2⟩ := (HW0.out.below HT.out.tb.bel).inner k hlt
        have hbl := hwb.1
        have HBy := Lib.hid hwb
        have hLk : L0 k ≤ 9223372036854775807 := by unfold most at hw2; omega
        clear hc hwb hw1 hw2
        by_cases h200 : 200 < L0 k
        · go_wp2
          go_ret
          exact ⟨rfl, HT.out.tb.bel⟩
        · have h200' : L0 k ≤ 200 := by omega
          have hd2 : decide (200 < (L0 k : Int)) = false := by simp; omega
          obtain ⟨q, hq1, hand, i1, i2, t1, t2, t3, t4⟩ := st_turn k (by omega)
          have hj40 : (joined T0 k).length ≤ 8000 := by
            have : k * 200 ≤ 40 * 200 := Nat.mul_le_mul_right _ (by omega)
            omega
          have HE := Lib.hid (And.intro t1 (And.intro t2 (And.intro t3 t4)))
          have HI := Lib.hid (And.intro i1 i2)
          clear t1 t2 t3 t4 i1 i2 h200
          go_wp2_with fail
          refine (tgive_any HT.out.tb.tab (st_ok k) (by decide) _ HI.out.1).mono ?_
          intro e wa hg
          rw [HE.out.1, HE.out.2.1] at hg
          obtain ⟨Fa, rfl, ha, _⟩ := HT.out.t hg
          have HTa := Lib.hid ha
          clear hg ha
          go_wp2_with fail
          refine (iq_offer_why HTa.out.qu HTa.out.tb.tab (st_ok (k + 1)) _ HI.out.2 (A0 k) (L0 k) (C0 k) 4 HE.out.2.2.1 (by decide)).mono ?_
          rintro e wb ⟨rfl, mb, hwb⟩
          have HTb := Lib.hid (hwb ▸ HTa.out.drewN mb)
          clear hwb HTa
          go_wp2_with fail
          refine (iq_offer_yes HTb.out.qu HTb.out.tb.tab (st_ok (k + 1)) _ HI.out.1 (C0 k) ((HW0.out.inner k hlt).1.below HTb.out.tb.bel) HE.out.2.2.2 (by omega) (by omega)).mono ?_
          intro e wc hg
          obtain ⟨Gc, rfl, hc3, _⟩ := HTb.out.q hg
          rw [show (joined T0 k).length + L0 k = (joined T0 (k + 1)).length by simp only [joined, List.length_append]; omega] at hc3
          have HTc := Lib.hid (show TQ w.heap.size w wc Fa gt (st (k + 1)) Gc (IR (joined T0 (k + 1)).length false) g 65536 (joined T0 (k + 1)) from hc3)
          have hcv := conv_str (cap := C0 k) ((HW0.out.inner k hlt).1.below HTc.out.tb.bel)
          have hts : (str (T0 k)).size = L0 k := by rw [str_size]; exact hbl
          have hov : ¬ (9223372036854775807 < (joined T0 k).length + L0 k) := by omega
          clear hg hc3 HTb HT hck hbB
          go_wp2
          go_roundw
          case rel =>
            refine ⟨k + 1, Fa, Gc, by omega, by go_num, by simp only [joined]; rw [str_app], fun r hr => ?_, HTc.out⟩
            rcases Nat.lt_or_ge r k with h | h
            · exact HLe.out r h
            · obtain rfl : r = k := by omega
              omega
          case measure => simp [intOf]; omega
      · obtain rfl : k = len0 := by omega
        have hj40 : (joined T0 k).length ≤ 8000 := by
          have : k * 200 ≤ 40 * 200 := Nat.mul_le_mul_right _ (by omega)
          omega
        go_wp2_with fail
        refine (q_take HT.out.qu 100000 (joined T0 k).length (by unfold takes; omega)).mono ?_
        rintro e wa ⟨rfl, hba, hga⟩
        rw [List.take_length] at hba
        obtain ⟨Ga, _, ha, _⟩ := HT.out.q hga
        have HTa := Lib.hid ha
        have hcv := conv_str (cap := (joined T0 k).length) hba
        clear hba hga ha HT
        go_wp2_with fail
        refine (iq_total HTa.out.qu).mono ?_
        rintro e wb ⟨rfl, rfl⟩
        go_wp2
        go_ret
        exact ⟨rfl, HTa.out.tb.bel⟩

set_option maxRecDepth 100000 in
theorem lifted (os : Os) (started : os.Started) (H : Type) (enc : TypeId × Value → H) :
    ReturnsInHanded {} Try.checked os 4 .any (Rows.inqWholeSpec.pre6 enc Try.prog Try.f4 Rows.inqWholeRow.domain false) (Rows.inqWholeSpec.post enc Try.prog Try.f4 false true false false) := by
  refine returnsInHanded_of_change_sized (C := Try.checked) own started (by kernel_rfl) Try.func4
    (ChangeSpec.witness6 (enc := enc) (C := Try.checked) false ⟨#[], #[.slice none 0 0], []⟩ 8 (by kernel_rfl) (by kernel_rfl) (by kernel_rfl) (by kernel_rfl)) ?_
  intro W base args ds gs before hval0 hW hcnd hsz0 _
  have hval : ∀ (j : Nat) t v, Try.f4.params[j]? = some t → args[j]? = some v → Value.okWide Try.prog W .any base t v := hval0
  have hW' := hW
  obtain ⟨p, q, hA0, hV, rfl, hfz, hnd⟩ := hW
  have hsz : (DataW.weightsEach Try.prog (Try.f4.params.toList ++ Rows.inqWholeSpec.plain.varTypes Try.prog) (ds ++ gs)).all (· ≤ reachBytes) = true := hsz0
  have hA : DataW.TrodAll enc Try.prog W 0 (fun _ => true) true Try.f4.params.toList args.toList ds p := hA0
  rw [Try.params4] at hA hval hsz
  obtain ⟨v0, vs0, d0, ds0, p0, q0, hargs, rfl, rfl, h0, r0⟩ := trodAll_cons hA
  obtain ⟨rfl, rfl, rfl⟩ := trodAll_nil r0
  obtain rfl : args = #[v0] := by cases args; simp_all
  obtain ⟨rfl, rfl⟩ := trodVars_none hV
  obtain ⟨a0, len0, cap0, rfl⟩ := okWide_slice Try.underlying52 (hval 0 52 v0 rfl rfl)
  have k0 := h0
  have lt0 : ∀ x ∈ p0, x.block < W.heap.size := by obtain ⟨m, hm⟩ := k0; exact DataW.trod_lt m _ _ _ hm
  obtain ⟨A0, L0, C0, T0, w0, g0⟩ : ∃ A L C T, Pcs W W.heap.size a0 len0 A L C T ∧ len0 ≤ cap0 ∧ cap0 ≤ maxLen := by
    obtain ⟨fuel, hf⟩ := h0
    exact open_pcs hf (fits_of hsz (j := 0) rfl rfl)
  clear hA0 hval0 hsz hsz0
  refine (walk a0 len0 cap0 A0 L0 C0 T0 W w0 g0).mono fun e W' ⟨he, bel⟩ => ?_
  subst he
  exact ⟨_, rfl, _, _, _, [], _, [], hW', trodAll_mk1 (shut_bool Try.underlying4 _), (trodAll_cons_mk (Below.trod laidOut (by kernel_rfl) (of_decide_eq_true (by kernel_rfl)) k0 bel lt0) trodAll_mk0), rfl, bel.frame _, fun h => by cases h⟩

theorem over : Rows.inqWholeRow.holds Try.pinned (OpenSpec.ofChange Rows.inqWholeSpec) :=
  OpenClaim.holds_of_wide 4 Try.f4 rfl rfl rfl rfl rfl rfl rfl ⟨rfl, rfl, rfl, rfl, rfl⟩ rfl rfl rfl rfl rfl (by kernel_rfl) Try.func4 (by kernel_rfl)
    (of_decide_eq_true (by kernel_rfl)) (by unfold Func.isWrapper; first | (rw [if_pos (by decide +kernel)]; kernel_rfl) | (rw [if_neg (by decide +kernel)]; exact ⟨rfl, rfl⟩))
    (fun os started H enc _ => lifted os started H enc)

end Go.Proofs.Ytanloclkbdameaa.inqWhole
namespace Go.Proofs.Ytanloclkbdameaa
theorem inqWhole_holds : Rows.InqWholeSaid := inqWhole.over
#print axioms inqWhole_holds
end Go.Proofs.Ytanloclkbdameaa
