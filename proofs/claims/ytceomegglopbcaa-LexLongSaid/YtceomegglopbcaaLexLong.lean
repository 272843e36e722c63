/- LexLong: for every input the law answers true, and its arguments read as before. Conditions: none. -/
import Derived.Test.YtceomegglopbcaaLxh
import Derived.Test.YtceomegglopbcaaInq
import Derived.Test.YtceomegglopbcaaTob
namespace Go.Proofs.Ytceomegglopbcaa.lexLong
open Go.ChangeShapes Go.WideShapes Go.ChangeAt Go.RowKit
open Lx

theorem and7 (a : Int) : ∃ r : Nat, r ≤ 7 ∧ bits .and .i64 a 7 = r := by
  have hlt : (BitVec.ofInt 64 a &&& BitVec.ofInt 64 7).toNat ≤ 7 := by
    rw [BitVec.toNat_and]
    exact Nat.and_le_right
  refine ⟨_, hlt, ?_⟩
  show IntKind.i64.wrap ((BitVec.ofInt 64 a &&& BitVec.ofInt 64 7).toNat : Int) = _
  rw [IntKind.wrap_i64]
  omega

/-- so many letters -/
def ccs (n : Nat) : Bs := List.replicate n 99#8

theorem ccs_len (n : Nat) : (ccs n).length = n := by simp [ccs]
theorem ccs_next (n : Nat) : ccs (n + 1) = ccs n ++ [99#8] := by
  unfold ccs
  rw [List.replicate_succ']

theorem in_ccs (b : Bs) (n : Nat) : lrun ⟨2, b⟩ (ccs n) = ⟨2, b ++ ccs n⟩ ∧ lkeys ⟨2, b⟩ (ccs n) = [] ∧ lcmds ⟨2, b⟩ (ccs n) = [] := by
  induction n generalizing b with
  | zero => exact ⟨by show (⟨2, b⟩ : Lx) = ⟨2, b ++ []⟩; rw [List.append_nil], rfl, rfl⟩
  | succ n ih =>
    have hs : lstep ⟨2, b⟩ 99#8 = ⟨2, b ++ [99#8]⟩ := by simp [lstep]
    have hr : ccs (n + 1) = 99#8 :: ccs n := rfl
    obtain ⟨h1, h2, h3⟩ := ih (b ++ [99#8])
    rw [hr]
    refine ⟨?_, ?_, ?_⟩
    · show lrun (lstep ⟨2, b⟩ 99#8) (ccs n) = _
      rw [hs, h1, List.append_assoc]
      rfl
    · show lkey _ _ ++ lkeys (lstep ⟨2, b⟩ 99#8) (ccs n) = _
      rw [hs, h2]
      simp [lkey]
    · show lcmd _ _ ++ lcmds (lstep ⟨2, b⟩ 99#8) (ccs n) = _
      rw [hs, h3]
      simp [lcmd]

theorem one_long (n : Nat) : lrun lx0 ([29#8, 58#8] ++ ccs n) = ⟨2, ccs n⟩ ∧ lkeys lx0 ([29#8, 58#8] ++ ccs n) = [] ∧ lcmds lx0 ([29#8, 58#8] ++ ccs n) = [] := by
  obtain ⟨h1, h2, h3⟩ := in_ccs [] n
  refine ⟨?_, ?_, ?_⟩
  · rw [lrun_app, show lrun lx0 [29#8, 58#8] = ⟨2, []⟩ by simp [lrun, lstep, lx0], h1]
    rfl
  · rw [lkeys_app, show lrun lx0 [29#8, 58#8] = ⟨2, []⟩ by simp [lrun, lstep, lx0], h2]
    simp [lkeys, lkey, lstep, lx0]
  · rw [lcmds_app, show lrun lx0 [29#8, 58#8] = ⟨2, []⟩ by simp [lrun, lstep, lx0], h3]
    simp [lcmds, lcmd, lstep, lx0]

theorem feed_end (b : Bs) : lrun ⟨2, b⟩ [10#8] = lx0 ∧ lkeys ⟨2, b⟩ [10#8] = [] ∧ lcmds ⟨2, b⟩ [10#8] = [shut b] := by
  refine ⟨?_, ?_, ?_⟩ <;> simp [lrun, lkeys, lcmds, lkey, lcmd, lstep, lx0]

theorem bytes_nil : (⟨#[]⟩ : ByteArray).toList = [] := by
  rw [show (⟨#[]⟩ : ByteArray) = ByteArray.empty from rfl]
  simp

set_option maxRecDepth 100000 in
theorem walk (a0 : Int) (t1 : Bs) (w : World) (w0 : (Lit.int .i64 a0).wf = true) (w1 : t1.length ≤ maxLen) :
    Calls Try.prog 5 #[.int .i64 a0, .string (str t1)] w fun e w' => e = .returned (.bool true) ∧ Below w.heap.size w w' := by
  have HW1 := Lib.hid w1
  have HW0 := Lib.hid w0
  have kc := fun (w : World) (C : Array Value) (n c : Nat) => Lib.run_convert_bytes_const (P := Try.prog) w 26 5 C n c Try.underlying26 Try.underlying5
  obtain ⟨r, hr, hand⟩ := and7 a0
  have hsz1 := str_size t1
  have hmax1 : t1.length ≤ 9223372036854775807 := by unfold maxLen at w1; omega
  clear w0 w1
  by_cases hlen : 100 < t1.length
  · have hd0 : decide (100 < ((str t1).size : Int)) = true := by simp; omega
    go_enter Try.func5, Try.ntmps5
    go_wp2_with fail
    refine (xhead_any w).mono ?_
    rintro e w1 ⟨rfl, hb1⟩
    go_wp2
    go_ret
    exact ⟨rfl, hb1⟩
  · have hd0 : decide (100 < ((str t1).size : Int)) = false := by simp; omega
    go_enter Try.func5, Try.ntmps5
    go_wp2_with fail
    refine (xhead_any w).mono ?_
    rintro e w1 ⟨rfl, hb1⟩
    have HB1 := Lib.hid hb1
    have hs1 : w.heap.size ≤ w1.heap.size := hb1.size
    clear hb1
    go_wp2
    have ht1 : t1.length ≤ 100 := by omega
    clear hlen hd0 hmax1
    go_loop [5, 6] (fun s5 s6 => ∃ i : Nat, i ≤ 76 + r ∧ s6 = .int .i64 i ∧ s5 = .string (str (ccs i))) (fun _ s6 => 76 + r - (intOf s6).toNat)
    case atStart => exact ⟨0, by omega, rfl, rfl⟩
    case round =>
      obtain ⟨i, hi, rfl, rfl⟩ := hrel
      have hcs := str_size (ccs i)
      rw [ccs_len] at hcs
      by_cases hlt : i < 76 + r
      · have HN := Lib.hid (ccs_next i)
        have hlt' : (i : Int) < 76 + (r : Int) := by omega
        go_wp2
        go_round
        case rel => exact ⟨i + 1, by omega, by go_num, by rw [HN.out, str_app]; rfl⟩
        case measure => simp [intOf]; omega
      · obtain rfl : i = 76 + r := by omega
        obtain ⟨o1, o2, o3⟩ := one_long (76 + r)
        obtain ⟨f1, f2, f3⟩ := feed_end (ccs (76 + r))
        have HO := Lib.hid (And.intro o1 (And.intro o2 o3))
        have HF0 := Lib.hid (And.intro f1 (And.intro f2 f3))
        have HL := Lib.hid (ccs_len (76 + r))
        clear o1 o2 o3 f1 f2 f3 hlt
        generalize ccs (76 + r) = cs at *
        go_wp2_with fail
        refine (xnew_any w1).mono ?_
        rintro e w2 ⟨F, g, rfl, hx, hF, hb2⟩
        have HX := Lib.hid hx
        have HF := Lib.hid (fun b hb => Nat.le_trans hs1 (hF b hb))
        have HB2 := Lib.hid (Below.trans HB1.out (hb2.mono hs1))
        have hs2 : w.heap.size ≤ w2.heap.size := HB2.out.size
        clear hx hF hb2
        obtain ⟨cc, w3, hcv, hbv, hbel, hle, _⟩ := conv_tob w2 ([29#8, 58#8] ++ cs)
        rw [str_app, show str [29#8, 58#8] = ⟨#[29, 58]⟩ from rfl] at hcv
        have hl2 : ([29#8, 58#8] ++ cs).length = 78 + r := by rw [List.length_append, HL.out]; simp; omega
        have HX3 := Lib.hid (HX.out.keep (only_of_below hbel) (fun _ _ h => h))
        have HB3 := Lib.hid (Below.trans HB2.out (hbel.mono hs2))
        have HV3 := Lib.hid hbv
        have HLT := Lib.hid HX.out.lt
        have hs3 : w.heap.size ≤ w3.heap.size := HB3.out.size
        have hs23 : w2.heap.size + 1 ≤ w3.heap.size := by assumption
        clear hbv hbel
        generalize hI : [29#8, 58#8] ++ cs = I at *
        have hII := Lib.hid hI
        clear hI
        go_wp2_with fail
        refine (xpush_any F g lx0 _ (78 + r) cc _ I w3 HX3.out (by have := HV3.out; rw [hl2] at this; exact this) hs23 (fun _ b hb hFb => by have := in_one hb; have := HLT.out b hFb; omega) (by omega) (by simp [lx0])).mono ?_
        rintro e w4 ⟨F2, K, kn, kc2, R, rn, rc, rfl, hx, hf, ho, h1, h2, _, _⟩
        rw [HO.out.1] at hx
        rw [HO.out.2.1] at h1
        rw [HO.out.2.2] at h2
        obtain rfl : kn = 0 := h1.1.symm
        obtain rfl : rn = 0 := h2.1.symm
        have HX4 := Lib.hid hx
        have HF4 := Lib.hid (show ∀ b, F2 b → w.heap.size ≤ b from fun b hb => by rcases hf b hb with h | h; exact HF.out b h; omega)
        have HB4 := Lib.hid (only_self HB3.out hs3 ho HF.out)
        have hs4 : w.heap.size ≤ w4.heap.size := HB4.out.size
        have HLT4 := Lib.hid hx.lt
        clear hx hf ho h1 h2 HX3 HX HV3 HB3 HLT hcv
        go_wp2_with fail
        have HLI := Lib.hid (lit_len w4 [10#8] #[.int .u8 10] 5 (1, 2) rfl 1 rfl)
        have hal : Below w4.heap.size w4 (w4.alloc (.cells #[.int .u8 10] 5 (1, 2))) := (Below.refl _ _).alloc (Nat.le_refl _) _
        have HX5 := Lib.hid (HX4.out.keep (only_of_below hal) (fun _ _ h => h))
        have HB5 := Lib.hid (Below.trans HB4.out (hal.mono hs4))
        have hsz5 : (w4.alloc (.cells #[.int .u8 10] 5 (1, 2))).heap.size = w4.heap.size + 1 := by simp
        clear hal HX4 HB4 kc
        generalize w4.alloc (.cells #[.int .u8 10] 5 (1, 2)) = w5 at *
        refine (xpush_any F2 g _ _ 1 1 _ [10#8] w5 HX5.out HLI.out (by omega) (fun _ b hb hFb => by have := in_one hb; have := HLT4.out b hFb; omega) (by omega) (by show cs.length ≤ _; have := HL.out; omega)).mono ?_
        rintro e w6 ⟨F3, K, kn, kc2, R, rn, rc, rfl, hx, hf, ho, h1, h2, _, h4⟩
        rw [HF0.out.1] at hx
        rw [HF0.out.2.1] at h1
        rw [HF0.out.2.2] at h2
        obtain rfl : kn = 0 := h1.1.symm
        obtain rfl : rn = 1 := h2.1.symm
        have HX6 := Lib.hid hx
        have HF6 := Lib.hid (show ∀ b, F3 b → w.heap.size ≤ b from fun b hb => by rcases hf b hb with h | h; exact HF4.out b h; omega)
        have HB6 := Lib.hid (only_self HB5.out (by omega) ho HF4.out)
        have hs6 : w.heap.size ≤ w6.heap.size := HB6.out.size
        have HLT6 := Lib.hid hx.lt
        have HR6 := Lib.hid h2
        have HRF := Lib.hid (h4 (by omega))
        clear hx hf ho h1 h2 h4 HX5 HB5 HLI HLT4 HF4
        obtain ⟨c7, w7, hcv7, hbv7, hbel7, hle7, hs67⟩ := conv_tob w6 t1
        have HX7 := Lib.hid (HX6.out.keep (only_of_below hbel7) (fun _ _ h => h))
        have HB7 := Lib.hid (Below.trans HB6.out (hbel7.mono hs6))
        have HV7 := Lib.hid hbv7
        have HR7 := Lib.hid ((HR6.out.below hbel7).more (k := w7.heap.size) (by omega))
        have hs7 : w.heap.size ≤ w7.heap.size := HB7.out.size
        clear hbv7 hbel7 HX6 HR6
        go_wp2_with fail
        refine (xpush_any F3 g lx0 _ t1.length c7 _ t1 w7 HX7.out HV7.out hs67 (fun _ b hb hFb => by have := in_one hb; have := HLT6.out b hFb; omega) (by omega) (by simp [lx0])).mono ?_
        rintro e w8 ⟨F4, K, kn, kc2, R2, rn, rc2, rfl, hx, hf, ho, h1, h2, _, _⟩
        have HB8 := Lib.hid (only_self HB7.out hs7 ho HF6.out)
        have hs8 : w.heap.size ≤ w8.heap.size := HB8.out.size
        have HR8 := Lib.hid (HR7.out.only ho (Nat.le_refl _) (fun _ p hp hS => (HRF.out p.block ⟨p, hp, rfl⟩).2 hS))
        have HK8 := Lib.hid h1
        have HC8 := Lib.hid h2
        have hkn : kn ≤ 100 := by have := h1.1; have := lkeys_len lx0 t1; omega
        have hrn : rn ≤ 100 := by have := h2.1; rw [strs_len] at this; have := lcmds_len lx0 t1; omega
        have hs78 : w7.heap.size ≤ w8.heap.size := ho.size
        clear hx hf ho h1 h2 HX7 HB7 HV7 HR7 hcv7
        obtain ⟨c9, w9, hcv9, hbv9, hbel9, hle9, hs89, hm9⟩ := conv_tob2 w8 t1 HW1.out
        have HB9 := Lib.hid (Below.trans HB8.out (hbel9.mono hs8))
        have HV9 := Lib.hid (hbv9.more (B' := w9.heap.size) hs89)
        have HR9 := Lib.hid (HR8.out.below (hbel9.mono hs78))
        have HK9 := Lib.hid (HK8.out.below hbel9)
        have HC9 := Lib.hid (HC8.out.below hbel9)
        have hs9 : w.heap.size ≤ w9.heap.size := HB9.out.size
        clear hbv9 hbel9 HR8 HK8 HC8 HB8
        go_wp2_with fail
        refine (parts_any w9 _ t1.length c9 _ t1 HV9.out (Nat.le_refl _) (by omega) hle9 hm9).mono ?_
        rintro e w10 ⟨pa, pn, pc, qa, qn, qc, rfl, hko, hb10⟩
        have HB10 := Lib.hid (Below.trans HB9.out (hb10.mono hs9))
        have HKO := Lib.hid hko
        have hs89' : w8.heap.size ≤ w9.heap.size := by omega
        have HR10 := Lib.hid (HR9.out.below (hb10.mono (by omega)))
        have hv1 := conv_str (cap := kc2) (HK9.out.below (hb10.mono hs89'))
        have hv2 := conv_str (cap := pc) hko.keys.bytes
        have HC10 := Lib.hid ((HC9.out.below (hb10.mono hs89')))
        have hqn : qn ≤ 100 := by have := hko.cmds.len; rw [strs_len] at this; have := lcmds_len lx0 t1; omega
        have hq5 : rowsEq (lcmds lx0 t1) (lcmds lx0 t1) = true := by unfold rowsEq; simp
        have HQE := Lib.hid hq5
        have hs10 : w8.heap.size ≤ w10.heap.size := Nat.le_trans hs89' hb10.size
        clear hko hb10 HR9 HK9 HC9 HB9 hcv9 hq5
        have HSAME := Lib.hid (same8_any w10 _ _ rn rc2 qn qc R2 qa (lcmds lx0 t1) (lcmds lx0 t1) HC10.out HKO.out.cmds.vals hs10 (Nat.le_refl _) (by omega) (by omega))
        rw [HQE.out] at HSAME
        obtain ⟨b, off, rfl, hbB, hc⟩ := HR10.out.at (by omega)
        have hc0 := hc 0 (by omega)
        rw [Nat.add_zero, show ([shut cs] : List Bs).getD 0 [] = shut cs from rfl] at hc0
        clear hc
        generalize hZ : str (lkeys lx0 t1) = Z at *
        have hzz : (Z.toList == Z.toList) = true := by simp
        clear hZ HKO HC10 HR10
        have hnil : ((str cs).toList == (⟨#[]⟩ : ByteArray).toList) = false := str_ne (m := []) (by intro e; have := HL.out; rw [e] at this; simp at this; omega)
        have hnil2 : (str cs).toList.isEmpty = false := by
          cases h : (str cs).toList.isEmpty
          · rfl
          · rw [List.isEmpty_iff] at h
            rw [h, bytes_nil] at hnil
            simp at hnil
        have hnil3 : (str []).toList = [] := bytes_nil
        by_cases h80 : 76 + r ≤ 80
        · rw [show shut cs = cs by unfold shut; rw [if_neg (by rw [HL.out]; omega)]] at hc0
          have hss : ((str cs).toList == (str cs).toList) = true := by simp
          have h80' : (76 + (r : Int)) ≤ 80 := by omega
          have h80'' : ¬ (80 : Int) < 76 + (r : Int) := by omega
          go_wp2_with fail
          refine HSAME.out.mono ?_
          rintro e w11 ⟨rfl, hb11⟩
          have HB11 := Lib.hid (Below.trans HB10.out (hb11.mono (by omega)))
          clear hb11 hv1 hv2
          go_wp2
          go_ret
          exact ⟨ret_bool (by simp; omega), HB11.out⟩
        · rw [show shut cs = [] by unfold shut; rw [if_pos (by rw [HL.out]; omega)]] at hc0
          have hss : ((str []).toList == (str cs).toList) = false := str_ne (l := []) (by intro e; have := HL.out; rw [← e] at this; simp at this; omega)
          have h80' : ¬ (76 + (r : Int)) ≤ 80 := by omega
          have h80'' : (80 : Int) < 76 + (r : Int) := by omega
          go_wp2_with fail
          refine HSAME.out.mono ?_
          rintro e w11 ⟨rfl, hb11⟩
          have HB11 := Lib.hid (Below.trans HB10.out (hb11.mono (by omega)))
          clear hb11 hv1 hv2
          go_wp2
          go_ret
          exact ⟨ret_bool (by simp; omega), HB11.out⟩

set_option maxRecDepth 100000 in
theorem lifted (os : Os) (started : os.Started) (H : Type) (enc : TypeId × Value → H) :
    ReturnsInHanded {} Try.checked os 5 .any (Rows.lexLongSpec.pre6 enc Try.prog Try.f5 Rows.lexLongRow.domain false) (Rows.lexLongSpec.post enc Try.prog Try.f5 false true false false) := by
  refine returnsInHanded_of_change_sized (C := Try.checked) own started (by kernel_rfl) Try.func5
    (ChangeSpec.witness6 (enc := enc) (C := Try.checked) false ⟨#[], #[.int .i64 0, .string ⟨#[]⟩], []⟩ 8 (by kernel_rfl) (by kernel_rfl) (by kernel_rfl) (by kernel_rfl)) ?_
  intro W base args ds gs before hval0 hW hcnd hsz0 _
  have hval : ∀ (j : Nat) t v, Try.f5.params[j]? = some t → args[j]? = some v → Value.okWide Try.prog W .any base t v := hval0
  have hW' := hW
  obtain ⟨p, q, hA0, hV, rfl, hfz, hnd⟩ := hW
  have hsz : (DataW.weightsEach Try.prog (Try.f5.params.toList ++ Rows.lexLongSpec.plain.varTypes Try.prog) (ds ++ gs)).all (· ≤ reachBytes) = true := hsz0
  have hA : DataW.TrodAll enc Try.prog W 0 (fun _ => true) true Try.f5.params.toList args.toList ds p := hA0
  rw [Try.params5] at hA hval hsz
  obtain ⟨v0, vs0, d0, ds0, p0, q0, hargs, rfl, rfl, h0, r0⟩ := trodAll_cons hA
  obtain ⟨v1, vs1, d1, ds1, p1, q1, rfl, rfl, rfl, h1, r1⟩ := trodAll_cons r0
  obtain ⟨rfl, rfl, rfl⟩ := trodAll_nil r1
  obtain rfl : args = #[v0, v1] := by cases args; simp_all
  obtain ⟨rfl, rfl⟩ := trodVars_none hV
  obtain ⟨a0, rfl, rfl, rfl, w0⟩ := open_int Try.underlying3 (hval 0 3 v0 rfl rfl) h0
  have k1 := h1
  have lt1 : ∀ x ∈ p1, x.block < W.heap.size := by obtain ⟨m, hm⟩ := k1; exact DataW.trod_lt m _ _ _ hm
  obtain ⟨s1, rfl, _, _, hs1⟩ := Go.ChangeMaps.open_string Try.underlying9 (hval 1 9 v1 rfl rfl) h1
  obtain ⟨t1, rfl, w1⟩ := as_str s1 hs1
  clear hA0 hval0 hsz hsz0
  refine (walk a0 t1 W w0 w1).mono fun e W' ⟨he, bel⟩ => ?_
  subst he
  exact ⟨_, rfl, _, _, _, [], _, [], hW', trodAll_mk1 (shut_bool Try.underlying4 _), (trodAll_cons_mk (shut_int Try.underlying3 w0) (trodAll_cons_mk (Below.trod laidOut (by kernel_rfl) (of_decide_eq_true (by kernel_rfl)) k1 bel lt1) trodAll_mk0)), rfl, bel.frame _, fun h => by cases h⟩

theorem over : Rows.lexLongRow.holds Try.pinned (OpenSpec.ofChange Rows.lexLongSpec) :=
  OpenClaim.holds_of_wide 5 Try.f5 rfl rfl rfl rfl rfl rfl rfl ⟨rfl, rfl, rfl, rfl, rfl⟩ rfl rfl rfl rfl rfl (by kernel_rfl) Try.func5 (by kernel_rfl)
    (of_decide_eq_true (by kernel_rfl)) (by unfold Func.isWrapper; first | (rw [if_pos (by decide +kernel)]; kernel_rfl) | (rw [if_neg (by decide +kernel)]; exact ⟨rfl, rfl⟩))
    (fun os started H enc _ => lifted os started H enc)

end Go.Proofs.Ytceomegglopbcaa.lexLong
namespace Go.Proofs.Ytceomegglopbcaa
theorem lexLong_holds : Rows.LexLongSaid := lexLong.over
#print axioms lexLong_holds
end Go.Proofs.Ytceomegglopbcaa
