/- LexPieces: for every input the law answers true, and its arguments read as before. Conditions: none. -/
import Derived.Test.YtceomegglopbcaaLxh
import Derived.Test.YtceomegglopbcaaInp
namespace Go.Proofs.Ytceomegglopbcaa.lexPieces
open Go.ChangeShapes Go.WideShapes Go.ChangeAt Go.RowKit
open Lx

/-- the first pieces as one -/
def catx (T : Nat → Bs) : Nat → Bs
  | 0 => []
  | k + 1 => catx T k ++ T k

set_option maxRecDepth 100000 in
set_option maxHeartbeats 2000000 in
theorem walk (a0 : Option Addr) (len0 cap0 : Nat) (A0 : Nat → Option Addr) (L0 C0 : Nat → Nat) (T0 : Nat → Bs) (w : World) (w0 : Pcs w w.heap.size a0 len0 A0 L0 C0 T0) (g0 : len0 ≤ cap0 ∧ cap0 ≤ maxLen) :
    Calls Try.prog 3 #[.slice a0 len0 cap0] w fun e w' => e = .returned (.bool true) ∧ Below w.heap.size w w' := by
  have HW0 := Lib.hid w0
  have hmax0 : len0 ≤ 9223372036854775807 := by have := g0.1; have := g0.2; unfold maxLen at this; omega
  clear w0 g0
  by_cases hlen : 60 < len0
  · have hd0 : decide (60 < (len0 : Int)) = true := by simp; omega
    go_enter Try.func3, Try.ntmps3
    go_wp2_with fail
    refine (xhead_any w).mono ?_
    rintro e w1 ⟨rfl, hb1⟩
    go_wp2
    go_ret
    exact ⟨rfl, hb1⟩
  · have hl0 : len0 ≤ 60 := by omega
    have hd0 : decide (60 < (len0 : Int)) = false := by simp; omega
    clear hlen
    go_enter Try.func3, Try.ntmps3
    go_wp2_with fail
    refine (xhead_any w).mono ?_
    rintro e w1 ⟨rfl, hb1⟩
    have HB1 := Lib.hid hb1
    clear hb1
    go_wp2_with fail
    refine (xnew_any w1).mono ?_
    rintro e w2 ⟨F, g, rfl, hx, hF, hb2⟩
    have HX := Lib.hid hx
    have HF := Lib.hid hF
    have HB2 := Lib.hid (Below.trans HB1.out (hb2.mono HB1.out.size))
    have hs2 : w.heap.size ≤ w2.heap.size := HB2.out.size
    have HFl := Lib.hid (show ∀ b, F b → w.heap.size ≤ b from fun b hb => Nat.le_trans HB1.out.size (hF b hb))
    clear hx hF hb2
    go_wp2
    have HP0 := Lib.hid (lp_new w.heap.size w2 F g HX.out HFl.out hs2)
    have HB3 := Lib.hid (show Below w.heap.size w (((w2.alloc (.cells #[] 5)).alloc (.cells #[] 5)).alloc (.cells #[] 9)) from Below.trans HB2.out ((((Below.refl _ _).alloc (Nat.le_refl _) _).alloc (by simp) _).alloc (by simp; omega) _ |>.mono hs2))
    clear HX HF HFl
    go_loopw [4, 5, 6, 24] (fun s4 s5 s6 i wr => ∃ k F aa an ac ka kn kc ra rn rc, k ≤ len0 ∧ i = .int .i64 (k : Nat) ∧ s4 = .slice aa an ac ∧ s5 = .slice ka kn kc ∧ s6 = .slice ra rn rc ∧ an ≤ 1000 ∧ LP w.heap.size wr F g (lrun lx0 (catx T0 k)) aa an ac (catx T0 k) ka kn kc (lkeys lx0 (catx T0 k)) ra rn rc (lcmds lx0 (catx T0 k)) ∧ Below w.heap.size w wr) (fun _ _ _ i _ => len0 - (intOf i).toNat)
    case atStart => exact ⟨0, F, _, _, _, _, _, _, _, _, _, by omega, rfl, rfl, rfl, rfl, by omega, HP0.out, HB3.out⟩
    case round =>
      obtain ⟨k, F, aa, an, ac, ka, kn, kc, ra, rn, rc, hk, rfl, rfl, rfl, rfl, han, hp, hb⟩ := hrel
      have HP := Lib.hid hp
      have HB := Lib.hid hb
      clear hp hb HP0 HB3 HB2
      by_cases hlt : k < len0
      · obtain ⟨b, off, rfl, hbB, hc⟩ := (HW0.out.below HB.out).outer (by omega)
        have hc0 := hc k hlt
        have HI := Lib.hid ((HW0.out.below HB.out).inner k hlt)
        have hLr : L0 k ≤ 140737488351232 := by have := HI.out.2; unfold most at this; omega
        have hsz : w.heap.size ≤ wr.heap.size := HB.out.size
        clear hc
        by_cases hbig : 1000 < an + L0 k
        · have hd1 : decide (1000 < ((an : Int) + (L0 k : Int))) = true := by simp; omega
          go_wp2_with (first
            | (at_builtin
               refine wpList_mid rfl (.tmp 28) (.tmp 29) rfl w.heap.size rfl HP.out.all rfl HI.out.1 (by omega) hsz ?_
               intro A2 c2 w2 hm ho hp2
               have HB2 := Lib.hid (only_self HB.out hsz ho HP.out.low.2.1)
               clear hm ho hp2))
          go_ret
          exact ⟨rfl, HB2.out⟩
        · have hd1 : decide (1000 < ((an : Int) + (L0 k : Int))) = false := by simp; omega
          have hcl : (catx T0 k).length = an := HP.out.all.len
          have hTl : (T0 k).length = L0 k := HI.out.1.1
          have HX := Lib.hid (show catx T0 (k + 1) = catx T0 k ++ T0 k from rfl)
          have HRUN := Lib.hid (lrun_app lx0 (catx T0 k) (T0 k))
          have HKEY := Lib.hid (lkeys_app lx0 (catx T0 k) (T0 k))
          have HCMD := Lib.hid (lcmds_app lx0 (catx T0 k) (T0 k))
          have hsb : (lrun lx0 (catx T0 k)).b.length ≤ 1000000 := by have := lb_len lx0 (catx T0 k); have h0 : lx0.b.length = 0 := rfl; omega
          rw [← HX.out] at HRUN HKEY HCMD
          have HKN := Lib.hid (show kn ≤ 1000 by have := HP.out.lk.ko.keys.len; have := lkeys_len lx0 (catx T0 k); omega)
          have HRN := Lib.hid (show rn ≤ 1000 by have := HP.out.lk.ko.cmds.len; rw [strs_len] at this; have := lcmds_len lx0 (catx T0 k); omega)
          generalize lrun lx0 (catx T0 k) = s at *
          generalize hK0 : lkeys lx0 (catx T0 k) = K0 at *
          generalize hC0 : lcmds lx0 (catx T0 k) = C00 at *
          generalize hX0 : catx T0 k = X0 at *
          generalize hX1 : catx T0 (k + 1) = X1 at *
          clear hK0 hC0 hX0
          go_wp2_with (first
            | (at_builtin
               refine wpList_mid rfl (.tmp 28) (.tmp 29) rfl w.heap.size rfl HP.out.all rfl HI.out.1 (by omega) hsz ?_
               intro A2 c2 va hm ho hp2
               have HB2 := Lib.hid (only_self HB.out hsz ho HP.out.low.2.1)
               have HP2 := Lib.hid (HP.out.grow hm ho hp2)
               have HI2 := Lib.hid (HI.out.1.only ho hsz (fun _ p hp hS => by have := HP.out.low.2.1 _ hS; obtain ⟨b5, o5, e5, h5, _⟩ := HI.out.1.2 (by omega); rw [hp] at e5; injection e5 with e5; subst e5; simp at this; omega))
               clear hm ho hp2))
          have hs2' : w.heap.size ≤ va.heap.size := HB2.out.size
          have hAF : 0 < L0 k → ∀ b, In (A0 k) b → ¬ F b := by
            intro h0 b h3 hF
            obtain ⟨b5, o5, e5, h5, _⟩ := HI2.out.2 h0
            rw [e5] at h3
            have := in_one h3
            have := HP2.out.lk.flow b hF
            omega
          refine (xpush_any F g s (A0 k) (L0 k) (C0 k) w.heap.size (T0 k) va HP2.out.lk.lex HI2.out hs2' hAF (by omega) hsb).mono ?_
          intro e w3 hpush
          obtain ⟨F2, k2, n2, c2, r2, m2, d2, rfl, hp3, hf3, ho3, hn3⟩ := HP2.out.push hs2' hpush
          have HP3 := Lib.hid hp3
          have HF3 := Lib.hid hf3
          have HLK := Lib.hid (fun b (hb : In ka b) => (HP2.out.lk.ko.keys.inlt hb).2)
          have HB3 := Lib.hid (only_self HB2.out hs2' ho3 HP2.out.lk.flow)
          have hs3 : w.heap.size ≤ w3.heap.size := HB3.out.size
          have hn2 : n2 ≤ 1000 := by have := hf3.keys.1; have := lkeys_len s (T0 k); omega
          have hm2 : m2 ≤ 1000 := by have := hf3.cmds.1; rw [strs_len] at this; have := lcmds_len s (T0 k); omega
          have hkn : kn ≤ 1000 := HKN.out
          have hrn : rn ≤ 1000 := HRN.out
          clear hpush hp3 hf3 ho3 hn3 hAF HP2 HB2 HI2
          go_wp2_with (first
            | (at_builtin
               refine wpList_mid rfl (.tmp 40) (.tmp 41) rfl w.heap.size rfl HP3.out.lk.ko.keys rfl HF3.out.keys (by omega) hs3 ?_
               intro A4 c4 w4 hm ho hp2
               have HP4 := Lib.hid (HP3.out.key hm ho hp2)
               have HB4 := Lib.hid (only_self HB3.out hs3 ho HP3.out.low.2.2.1)
               have HV4 := Lib.hid (HF3.out.only ho (fun b hb => HLK.out b hb)).2
               have hs4 : w.heap.size ≤ w4.heap.size := HB4.out.size
               clear hm ho hp2)
            | (at_builtin
               refine wpList_rw elem_str rfl (.tmp 43) (.tmp 44) rfl w.heap.size rfl HP4.out.lk.ko.cmds rfl HV4.out (by omega) hs4 ?_
               intro A5 c5 w5 hm ho hp2
               have HP5 := Lib.hid (HP4.out.cmd (C2 := C00 ++ lcmds s (T0 k)) (by rw [strs_app]; exact hm) ho hp2)
               have HB5 := Lib.hid (only_self HB4.out hs4 ho HP4.out.low.2.2.2)
               have hs5 : w.heap.size ≤ w5.heap.size := HB5.out.size
               clear hm ho hp2))
          have hp5 := HP5.out
          rw [← HX.out, ← HRUN.out, ← HKEY.out, ← HCMD.out] at hp5
          have HQ5 := Lib.hid hp5
          clear hp5 HP5 HP4 HV4 HF3 HP3 HB3 HB4 HKEY HRUN HCMD
          refine (parts_any w5 _ (an + L0 k) _ A2 X1 HQ5.out.all.bytes (Nat.le_refl _) (by omega) HQ5.out.all.cap HQ5.out.all.max).mono ?_
          rintro e w6 ⟨pa, pn, pc, qa, qn, qc, rfl, hko, hb6⟩
          have HK6 := Lib.hid hko
          have HP6 := Lib.hid (HQ5.out.below hb6)
          have HB6 := Lib.hid (Below.trans HB5.out (hb6.mono hs5))
          have hv1 := conv_str (cap := c4) HP6.out.lk.ko.keys.bytes
          have hv2 := conv_str (cap := pc) HK6.out.keys.bytes
          have hqn : qn ≤ 1000 := by have := hko.cmds.len; rw [strs_len] at this; have := lcmds_len lx0 X1; have := HQ5.out.all.len; omega
          have hq5 : rowsEq (lcmds lx0 X1) (lcmds lx0 X1) = true := by unfold rowsEq; simp
          have HQE := Lib.hid hq5
          have hs6 : w.heap.size ≤ w6.heap.size := HB6.out.size
          clear hko hb6 HQ5 HB5 hq5
          generalize hZ : str (lkeys lx0 X1) = Z at *
          have hzz : (Z.toList == Z.toList) = true := by simp
          clear hZ
          go_wp2_with fail
          refine (same8_any w6 _ _ (rn + m2) c5 qn qc A5 qa (lcmds lx0 X1) (lcmds lx0 X1) HP6.out.lk.ko.cmds.vals HK6.out.cmds.vals (Nat.le_refl _) (Nat.le_refl _) (by omega) (by omega)).mono ?_
          rw [HQE.out]
          rintro e w7 ⟨rfl, hb7⟩
          have HP7 := Lib.hid (HP6.out.below hb7)
          have HB7 := Lib.hid (Below.trans HB6.out (hb7.mono hs6))
          clear hb7 HP6 HB6 hv1 hv2 HK6
          go_wp2
          go_roundw
          case rel => exact ⟨k + 1, F2, _, _, _, _, _, _, _, _, _, by omega, by go_num, rfl, rfl, rfl, by omega, by rw [hX1]; exact HP7.out, HB7.out⟩
          case measure => simp [intOf]; omega
      · obtain rfl : k = len0 := by omega
        go_wp2
        go_ret
        exact ⟨rfl, HB.out⟩

set_option maxRecDepth 100000 in
theorem lifted (os : Os) (started : os.Started) (H : Type) (enc : TypeId × Value → H) :
    ReturnsInHanded {} Try.checked os 3 .any (Rows.lexPiecesSpec.pre6 enc Try.prog Try.f3 Rows.lexPiecesRow.domain false) (Rows.lexPiecesSpec.post enc Try.prog Try.f3 false true false false) := by
  refine returnsInHanded_of_change_sized (C := Try.checked) own started (by kernel_rfl) Try.func3
    (ChangeSpec.witness6 (enc := enc) (C := Try.checked) false ⟨#[], #[.slice none 0 0], []⟩ 8 (by kernel_rfl) (by kernel_rfl) (by kernel_rfl) (by kernel_rfl)) ?_
  intro W base args ds gs before hval0 hW hcnd hsz0 _
  have hval : ∀ (j : Nat) t v, Try.f3.params[j]? = some t → args[j]? = some v → Value.okWide Try.prog W .any base t v := hval0
  have hW' := hW
  obtain ⟨p, q, hA0, hV, rfl, hfz, hnd⟩ := hW
  have hsz : (DataW.weightsEach Try.prog (Try.f3.params.toList ++ Rows.lexPiecesSpec.plain.varTypes Try.prog) (ds ++ gs)).all (· ≤ reachBytes) = true := hsz0
  have hA : DataW.TrodAll enc Try.prog W 0 (fun _ => true) true Try.f3.params.toList args.toList ds p := hA0
  rw [Try.params3] at hA hval hsz
  obtain ⟨v0, vs0, d0, ds0, p0, q0, hargs, rfl, rfl, h0, r0⟩ := trodAll_cons hA
  obtain ⟨rfl, rfl, rfl⟩ := trodAll_nil r0
  obtain rfl : args = #[v0] := by cases args; simp_all
  obtain ⟨rfl, rfl⟩ := trodVars_none hV
  obtain ⟨a0, len0, cap0, rfl⟩ := okWide_slice Try.underlying22 (hval 0 22 v0 rfl rfl)
  have k0 := h0
  have lt0 : ∀ x ∈ p0, x.block < W.heap.size := by obtain ⟨m, hm⟩ := k0; exact DataW.trod_lt m _ _ _ hm
  obtain ⟨A0, L0, C0, T0, w0, g0⟩ : ∃ A L C T, Pcs W W.heap.size a0 len0 A L C T ∧ len0 ≤ cap0 ∧ cap0 ≤ maxLen := by
    obtain ⟨fuel, hf⟩ := h0
    exact open_pcs hf (fits_of hsz (j := 0) rfl rfl)
  clear hA0 hval0 hsz hsz0
  refine (walk a0 len0 cap0 A0 L0 C0 T0 W w0 g0).mono fun e W' ⟨he, bel⟩ => ?_
  subst he
  exact ⟨_, rfl, _, _, _, [], _, [], hW', trodAll_mk1 (shut_bool Try.underlying4 _), (trodAll_cons_mk (Below.trod laidOut (by kernel_rfl) (of_decide_eq_true (by kernel_rfl)) k0 bel lt0) trodAll_mk0), rfl, bel.frame _, fun h => by cases h⟩

theorem over : Rows.lexPiecesRow.holds Try.pinned (OpenSpec.ofChange Rows.lexPiecesSpec) :=
  OpenClaim.holds_of_wide 3 Try.f3 rfl rfl rfl rfl rfl rfl rfl ⟨rfl, rfl, rfl, rfl, rfl⟩ rfl rfl rfl rfl rfl (by kernel_rfl) Try.func3 (by kernel_rfl)
    (of_decide_eq_true (by kernel_rfl)) (by unfold Func.isWrapper; first | (rw [if_pos (by decide +kernel)]; kernel_rfl) | (rw [if_neg (by decide +kernel)]; exact ⟨rfl, rfl⟩))
    (fun os started H enc _ => lifted os started H enc)

end Go.Proofs.Ytceomegglopbcaa.lexPieces
namespace Go.Proofs.Ytceomegglopbcaa
theorem lexPieces_holds : Rows.LexPiecesSaid := lexPieces.over
#print axioms lexPieces_holds
end Go.Proofs.Ytceomegglopbcaa
