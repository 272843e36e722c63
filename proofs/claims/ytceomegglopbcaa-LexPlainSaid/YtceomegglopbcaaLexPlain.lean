/- LexPlain: for every input the law answers true, and its arguments read as before. Conditions: none. -/
import Derived.Test.YtceomegglopbcaaLxh
import Derived.Test.YtceomegglopbcaaInb
namespace Go.Proofs.Ytceomegglopbcaa.lexPlain
open Go.ChangeShapes Go.WideShapes Go.ChangeAt Go.RowKit
open Lx

/-- each Escape twice -/
def twi : Bs → Bs
  | [] => []
  | c :: l => (if c.toNat = 29 then [c, c] else [c]) ++ twi l

theorem twi_app (l m : Bs) : twi (l ++ m) = twi l ++ twi m := by
  induction l with
  | nil => rfl
  | cons c l ih =>
    show _ ++ twi (l ++ m) = _ ++ twi l ++ twi m
    rw [ih, List.append_assoc]

theorem twi_tells (l : Bs) : lrun lx0 (twi l) = lx0 ∧ lkeys lx0 (twi l) = l ∧ lcmds lx0 (twi l) = [] := by
  induction l with
  | nil => exact ⟨rfl, rfl, rfl⟩
  | cons c l ih =>
    obtain ⟨h1, h2, h3⟩ := ih
    have hs : lrun lx0 (if c.toNat = 29 then [c, c] else [c]) = lx0 ∧ lkeys lx0 (if c.toNat = 29 then [c, c] else [c]) = [c] ∧ lcmds lx0 (if c.toNat = 29 then [c, c] else [c]) = [] := by
      split
      · rename_i h
        refine ⟨?_, ?_, ?_⟩ <;> simp [lrun, lkeys, lcmds, lkey, lcmd, lstep, lx0, h]
      · rename_i h
        refine ⟨?_, ?_, ?_⟩ <;> simp [lrun, lkeys, lcmds, lkey, lcmd, lstep, lx0, h]
    refine ⟨?_, ?_, ?_⟩
    · show lrun lx0 (_ ++ twi l) = _
      rw [lrun_app, hs.1, h1]
    · show lkeys lx0 (_ ++ twi l) = _
      rw [lkeys_app, hs.1, hs.2.1, h2]
      rfl
    · show lcmds lx0 (_ ++ twi l) = _
      rw [lcmds_app, hs.1, hs.2.2, h3]
      rfl

theorem twi_len (l : Bs) : (twi l).length ≤ 2 * l.length := by
  induction l with
  | nil => exact Nat.le_refl _
  | cons c l ih =>
    have : (if c.toNat = 29 then [c, c] else [c]).length ≤ 2 := by split <;> simp
    show (_ ++ twi l).length ≤ _
    rw [List.length_append, List.length_cons]
    omega

theorem twi_next (l : Bs) (k : Nat) (h : k < l.length) : twi (l.take (k + 1)) = twi (l.take k) ++ (if (at_ l k).toNat = 29 then [at_ l k, at_ l k] else [at_ l k]) := by
  rw [take_at l k h, twi_app]
  show _ ++ (_ ++ []) = _
  rw [List.append_nil]

set_option maxRecDepth 100000 in
theorem walk (a0 : Option Addr) (len0 cap0 : Nat) (z0 : List Int) (w : World) (w0 : IsRow .u8 w a0 len0 cap0 z0) :
    Calls Try.prog 4 #[.slice a0 len0 cap0] w fun e w' => e = .returned (.bool true) ∧ Below w.heap.size w w' := by
  obtain ⟨l, hl, hn⟩ := IsRow.bytes w0
  obtain ⟨hcap, hmax⟩ := IsRow.cap w0
  have hll := hl.1
  have HL := Lib.hid hl
  have HLL := Lib.hid hll
  have hmax0 : len0 ≤ 9223372036854775807 := by unfold maxLen at hmax; omega
  clear w0 hl hn hmax hcap hll
  by_cases hlen : 300 < len0
  · have hd0 : decide (300 < (len0 : Int)) = true := by simp; omega
    go_enter Try.func4, Try.ntmps4
    go_wp2_with fail
    refine (xhead_any w).mono ?_
    rintro e w1 ⟨rfl, hb1⟩
    go_wp2
    go_ret
    exact ⟨rfl, hb1⟩
  · have hl0 : len0 ≤ 300 := by omega
    have hd0 : decide (300 < (len0 : Int)) = false := by simp; omega
    clear hlen
    go_enter Try.func4, Try.ntmps4
    go_wp2_with fail
    refine (xhead_any w).mono ?_
    rintro e w1 ⟨rfl, hb1⟩
    have HB1 := Lib.hid hb1
    have hs1 : w.heap.size ≤ w1.heap.size := hb1.size
    clear hb1
    go_wp2
    have HM0 := Lib.hid (own_fresh w1 w.heap.size hs1)
    have HB2 := Lib.hid (Below.trans HB1.out ((below_lit w1 (.cells #[] 5)).mono hs1))
    go_loopw [3, 16] (fun s3 i wr => ∃ k A N c, k ≤ len0 ∧ i = .int .i64 (k : Nat) ∧ s3 = .slice A N c ∧ Mid w.heap.size wr A N c (twi (l.take k)) ∧ Below w.heap.size w wr) (fun _ i _ => len0 - (intOf i).toNat)
    case atStart => exact ⟨0, _, _, _, by omega, rfl, rfl, HM0.out, HB2.out⟩
    case round =>
      obtain ⟨k, A, N, c, hk, rfl, rfl, hm, hb⟩ := hrel
      have HM := Lib.hid hm
      have HB := Lib.hid hb
      have hN : N ≤ 2 * k := by
        have h1 := hm.len
        have h2 := twi_len (l.take k)
        rw [List.length_take] at h2
        omega
      have hsr : w.heap.size ≤ wr.heap.size := hb.size
      have HN1 := Lib.hid (hm.len)
      clear hm hb HM0 HB2 HB1
      by_cases hlt : k < len0
      · obtain ⟨b, off, rfl, hbB, _⟩ := HL.out.2 (by omega)
        have hc0 := (HL.out.below HB.out).at k hlt
        have HT := Lib.hid (twi_next l k (by rw [HLL.out]; exact hlt))
        have hx8 := at_small l k
        by_cases hx : (at_ l k).toNat = 29
        · rw [if_pos hx] at HT
          have HX := Lib.hid hx
          rw [hx] at hc0
          clear hx
          go_wp2_with (first
            | (at_builtin
               refine wpList_mid rfl (.tmp 20) (.tmp 22) rfl w.heap.size rfl (HM.out.below (below_lit _ _)) rfl (lit1 wr (at_ l k) 29 (by rw [HX.out]; rfl)) (by omega) (by simp; omega) ?_
               intro A4 c4 w4 hm ho hp2
               have HM4 := Lib.hid hm
               have HB4 := Lib.hid (only_self (Below.trans HB.out ((below_lit wr _).mono hsr)) (by simp; omega) ho (fun b hb => (HM.out.inlt hb).1))
               have hs4 : w.heap.size ≤ w4.heap.size := HB4.out.size
               clear hm ho hp2)
            | (at_builtin
               refine wpList_mid rfl (.tmp 26) (.tmp 28) rfl w.heap.size rfl (HM4.out.below (below_lit _ _)) rfl (lit1 w4 (at_ l k) 29 (by rw [HX.out]; rfl)) (by omega) (by simp; omega) ?_
               intro A5 c5 w5 hm ho hp2
               have HM5 := Lib.hid hm
               have HB5 := Lib.hid (only_self (Below.trans HB4.out ((below_lit w4 _).mono hs4)) (by simp; omega) ho (fun b hb => (HM4.out.inlt hb).1))
               clear hm ho hp2))
          go_roundw
          case rel => exact ⟨k + 1, _, _, _, by omega, by go_num, rfl, by rw [HT.out]; have := HM5.out; rw [List.append_assoc] at this; exact this, HB5.out⟩
          case measure => simp [intOf]; omega
        · rw [if_neg hx] at HT
          have hne : (((at_ l k).toNat : Int) == 29) = false := by simp; omega
          obtain ⟨v, hv⟩ : ∃ v : Int, v = (at_ l k).toNat := ⟨_, rfl⟩
          have HV := Lib.hid hv
          rw [← hv] at hc0 hne
          clear hv hx
          go_wp2_with (first
            | (at_builtin
               refine wpList_mid rfl (.tmp 20) (.tmp 22) rfl w.heap.size rfl (HM.out.below (below_lit _ _)) rfl (lit1 wr (at_ l k) v HV.out) (by omega) (by simp; omega) ?_
               intro A4 c4 w4 hm ho hp2
               have HM4 := Lib.hid hm
               have HB4 := Lib.hid (only_self (Below.trans HB.out ((below_lit wr _).mono hsr)) (by simp; omega) ho (fun b hb => (HM.out.inlt hb).1))
               clear hm ho hp2))
          go_roundw
          case rel => exact ⟨k + 1, _, _, _, by omega, by go_num, rfl, by rw [HT.out]; exact HM4.out, HB4.out⟩
          case measure => simp [intOf]; omega
      · obtain rfl : k = len0 := by omega
        have htk : l.take k = l := List.take_of_length_le (by rw [HLL.out]; exact Nat.le_refl _)
        rw [htk] at HM HN1
        obtain ⟨_, hk2, hc2⟩ := twi_tells l
        have HK := Lib.hid (And.intro hk2 hc2)
        clear htk hk2 hc2
        go_wp2_with fail
        refine (xnew_any wr).mono ?_
        rintro e w2 ⟨F, g, rfl, hx, hF, hb2⟩
        have HX := Lib.hid hx
        have HF := Lib.hid hF
        have HB2 := Lib.hid (Below.trans HB.out (hb2.mono hsr))
        have HM2 := Lib.hid (HM.out.below hb2)
        have hlo : ∀ b, In A b → b < wr.heap.size := fun b hb => (HM.out.inlt hb).2
        have HLO := Lib.hid hlo
        clear hx hF hb2 hlo HM
        go_wp2_with fail
        refine (xpush_any F g lx0 A N c _ (twi l) w2 HX.out HM2.out.bytes (Nat.le_refl _) (fun _ b hb hFb => by have := HLO.out b hb; have := HF.out b hFb; omega) (by omega) (by simp [lx0])).mono ?_
        rintro e w3 ⟨F2, K, kn, kc, R, rn, rc, rfl, hx, hf, ho, h1, h2, _, _⟩
        rw [HK.out.1] at h1
        rw [HK.out.2] at h2
        obtain rfl : rn = 0 := h2.1.symm
        have HB3 := Lib.hid (only_self HB2.out HB2.out.size ho (fun b hb => Nat.le_trans hsr (HF.out b hb)))
        have hv1 := conv_str (cap := kc) h1
        have hv2 := conv_str (cap := cap0) (HL.out.below HB3.out)
        have hzz : ((str l).toList == (str l).toList) = true := by simp
        clear hx hf ho h1 h2 HM2 HX HF
        go_wp2
        go_ret
        exact ⟨rfl, HB3.out⟩

set_option maxRecDepth 100000 in
theorem lifted (os : Os) (started : os.Started) (H : Type) (enc : TypeId × Value → H) :
    ReturnsInHanded {} Try.checked os 4 .any (Rows.lexPlainSpec.pre6 enc Try.prog Try.f4 Rows.lexPlainRow.domain false) (Rows.lexPlainSpec.post enc Try.prog Try.f4 false true false false) := by
  refine returnsInHanded_of_change_sized (C := Try.checked) own started (by kernel_rfl) Try.func4
    (ChangeSpec.witness6 (enc := enc) (C := Try.checked) false ⟨#[], #[.slice none 0 0], []⟩ 8 (by kernel_rfl) (by kernel_rfl) (by kernel_rfl) (by kernel_rfl)) ?_
  intro W base args ds gs before hval0 hW hcnd hsz0 _
  have hval : ∀ (j : Nat) t v, Try.f4.params[j]? = some t → args[j]? = some v → Value.okWide Try.prog W .any base t v := hval0
  have hW' := hW
  obtain ⟨p, q, hA0, hV, rfl, hfz, hnd⟩ := hW
  have hsz : (DataW.weightsEach Try.prog (Try.f4.params.toList ++ Rows.lexPlainSpec.plain.varTypes Try.prog) (ds ++ gs)).all (· ≤ reachBytes) = true := hsz0
  have hA : DataW.TrodAll enc Try.prog W 0 (fun _ => true) true Try.f4.params.toList args.toList ds p := hA0
  rw [Try.params4] at hA hval hsz
  obtain ⟨v0, vs0, d0, ds0, p0, q0, hargs, rfl, rfl, h0, r0⟩ := trodAll_cons hA
  obtain ⟨rfl, rfl, rfl⟩ := trodAll_nil r0
  obtain rfl : args = #[v0] := by cases args; simp_all
  obtain ⟨rfl, rfl⟩ := trodVars_none hV
  obtain ⟨a0, len0, cap0, rfl⟩ := okWide_slice Try.underlying26 (hval 0 26 v0 rfl rfl)
  have k0 := h0
  have lt0 : ∀ x ∈ p0, x.block < W.heap.size := by obtain ⟨m, hm⟩ := k0; exact DataW.trod_lt m _ _ _ hm
  obtain ⟨z0, w0⟩ : ∃ zs, IsRow .u8 W a0 len0 cap0 zs := by
    obtain ⟨fuel, hf⟩ := h0
    exact open_brow hf
  clear hA0 hval0 hsz hsz0
  refine (walk a0 len0 cap0 z0 W w0).mono fun e W' ⟨he, bel⟩ => ?_
  subst he
  exact ⟨_, rfl, _, _, _, [], _, [], hW', trodAll_mk1 (shut_bool Try.underlying4 _), (trodAll_cons_mk (Below.trod laidOut (by kernel_rfl) (of_decide_eq_true (by kernel_rfl)) k0 bel lt0) trodAll_mk0), rfl, bel.frame _, fun h => by cases h⟩

theorem over : Rows.lexPlainRow.holds Try.pinned (OpenSpec.ofChange Rows.lexPlainSpec) :=
  OpenClaim.holds_of_wide 4 Try.f4 rfl rfl rfl rfl rfl rfl rfl ⟨rfl, rfl, rfl, rfl, rfl⟩ rfl rfl rfl rfl rfl (by kernel_rfl) Try.func4 (by kernel_rfl)
    (of_decide_eq_true (by kernel_rfl)) (by unfold Func.isWrapper; first | (rw [if_pos (by decide +kernel)]; kernel_rfl) | (rw [if_neg (by decide +kernel)]; exact ⟨rfl, rfl⟩))
    (fun os started H enc _ => lifted os started H enc)

end Go.Proofs.Ytceomegglopbcaa.lexPlain
namespace Go.Proofs.Ytceomegglopbcaa
theorem lexPlain_holds : Rows.LexPlainSaid := lexPlain.over
#print axioms lexPlain_holds
end Go.Proofs.Ytceomegglopbcaa
