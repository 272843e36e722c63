/- FrameCuts: for every input the law answers true, and its arguments read as before. Conditions: none. -/
import Derived.Test.YtdeinmbhnedgkaaRows
import Derived.WalkKit
import Derived.ProofKit
import Derived.OpenShut
import Derived.ShutString
import Derived.ChangeOld
import Derived.Below
import Derived.Test.YtdeinmbhnedgkaaFlaw
import Derived.Deep.QuietTactic
import Derived.BigQuiet
namespace Go.Proofs.Ytdeinmbhnedgkaa.frameCuts
open Go.ChangeShapes Go.WideShapes Go.ChangeAt Go.RowKit
open Go.ChangeMaps (open_string shut_string)
set_option linter.unusedVariables false

theorem own : ownKnob Try.prog.godebug = none := by kernel_rfl
theorem laidOut : laidOutB Try.prog = true := by kernel_rfl

open Fr

theorem rem_any (a : Int) (n : Nat) (h0 : ¬ n = 0) (h : ¬ 1000 < n) : ∃ p : Nat, p < n ∧ wrap64 ((IntKind.u64.wrap a).tmod (n : Int)) = p := by
  have h1 := wrap_u64_nonneg a
  generalize IntKind.u64.wrap a = x at *
  rw [Int.tmod_eq_emod_of_nonneg h1]
  have h2 := Int.emod_nonneg x (b := (n : Int)) (by omega)
  have h3 := Int.emod_lt_of_pos x (b := (n : Int)) (by omega)
  refine ⟨(x % (n : Int)).toNat, by omega, ?_⟩
  rw [IntWalk.wrap64_in _ (by omega)]
  omega

theorem own_new_at (w : World) (base g : Nat) (hg : w.heap.size = g) (hb : base ≤ g) : Own base (w.alloc (.cells #[] 5)) (some ⟨g, 0, none⟩) 0 0 [] := by
  subst hg
  exact own_new w base hb

theorem own_turn {base n c g : Nat} {w : World} {l : Bs} (h : Own base w (some ⟨g, 0, none⟩) n c l) (p : Nat) (x : BitVec 8) :
    Own base (w.setCell ⟨g, p, none⟩ (.int .u8 x.toNat)) (some ⟨g, 0, none⟩) n c (l.set p x) := by
  have hs := h.row.stored p (by8 x)
  refine ⟨?_, h.cap⟩
  rw [List.map_set]
  exact hs.1

set_option maxRecDepth 100000 in
set_option maxHeartbeats 2000000 in
theorem walk (a0 : Int) (a1 : Option Addr) (len1 cap1 : Nat) (z1 : List Int) (a2 : Option Addr) (len2 cap2 : Nat) (z2 : List Int) (a3 : Int) (a4 : Int) (a5 : Int) (w : World) (w0 : (Lit.int .u8 a0).wf = true) (w1 : IsRow .u8 w a1 len1 cap1 z1) (w2 : IsRow .u8 w a2 len2 cap2 z2) (w3 : (Lit.int .i64 a3).wf = true) (w4 : (Lit.int .i64 a4).wf = true) (w5 : (Lit.int .u8 a5).wf = true) :
    Calls Try.prog 5 #[.int .u8 a0, .slice a1 len1 cap1, .slice a2 len2 cap2, .int .i64 a3, .int .i64 a4, .int .u8 a5] w fun e w' => e = .returned (.bool true) ∧ Below w.heap.size w w' := by
  obtain ⟨k, rfl⟩ := u8_wf w0
  obtain ⟨y, rfl⟩ := u8_wf w5
  obtain ⟨la, hla, _⟩ := IsRow.bytes w1
  obtain ⟨lm, hlm, _⟩ := IsRow.bytes w2
  obtain ⟨hcap1, hmax1⟩ := IsRow.cap w1
  obtain ⟨hcap2, hmax2⟩ := IsRow.cap w2
  have HLa := Lib.hid hla
  have HLm := Lib.hid hlm
  clear hla hlm w0 w1 w2 w3 w4 w5
  by_cases hlen : 300 < len1 ∨ 300 < len2
  · rcases hlen with hlen | hlen
    all_goals
      go_enter Try.func5, Try.ntmps5
      go_wp2_with fail
      refine (head_any w).mono ?_
      rintro e w1 ⟨rfl, hb1⟩
      go_wp2
      all_goals
        go_ret
        exact ⟨rfl, hb1⟩
  · have hle1 : len1 ≤ 300 := by omega
    have hle2 : len2 ≤ 300 := by omega
    have d1 : decide (300 < (len1 : Int)) = false := by simp; omega
    have d2 : decide (300 < (len2 : Int)) = false := by simp; omega
    clear hlen
    go_enter Try.func5, Try.ntmps5
    go_wp2_with fail
    refine (head_any w).mono ?_
    rintro e w1 ⟨rfl, hb1⟩
    have HB1 := Lib.hid hb1
    have HLa1 := Lib.hid (HLa.out.below hb1)
    have HLm1 := Lib.hid (HLm.out.below hb1)
    clear hb1 HLa HLm
    go_wp2_with fail
    refine (put_eq none 0 0 w.heap.size [] k a1 len1 cap1 la (fr k la) (len1 + 5) (by omega) rfl w1 (Bytes.nil _) HLa1.out HB1.out.size (by omega) (by omega)).mono ?_
    rintro e w2 ⟨A2, c2, rfl, hown, hb2⟩
    have HB2 := Lib.hid (Below.trans HB1.out (hb2.mono HB1.out.size))
    have HLa2 := Lib.hid (HLa1.out.below (hb2.mono HB1.out.size))
    have HLm2 := Lib.hid (HLm1.out.below (hb2.mono HB1.out.size))
    have HO2 := Lib.hid (hown.mono HB1.out.size)
    obtain ⟨g2, rfl, hg2, hgl2⟩ := hown.form (by omega)
    have hc2 := hown.cap
    clear hown hb2 HLa1 HLm1
    obtain ⟨p3, hp3, ep3⟩ := rem_any a3 (len1 + 5) (by omega) (by omega)
    obtain ⟨p4, hp4, ep4⟩ := rem_any a4 (len1 + 3) (by omega) (by omega)
    rw [show ((len1 + 5 : Nat) : Int) = (len1 : Int) + 5 by omega] at ep3
    rw [show ((len1 + 3 : Nat) : Int) = (len1 : Int) + 5 - 2 by omega] at ep4
    have hq5 : (2 : Int) + (p4 : Int) < (len1 : Int) + 5 := by omega
    have EP4 := Lib.hid ep4
    clear ep4
    go_wp2_with fail
    have herr := err_fr_cut k la (by rw [HLa2.out.1]; omega) p3 (by rw [HLa2.out.1]; exact hp3)
    refine (get_no_any _ p3 _ w2.heap.size ((fr k la).take p3) 5 herr (by omega) w2 (HO2.out.bytes.take (by omega)) (Nat.le_refl _) (by omega) (by omega)).mono ?_
    rintro e w3 ⟨A3, c3, rfl, hb3⟩
    have HB3 := Lib.hid (Below.trans HB2.out (hb3.mono HB2.out.size))
    have HLa3 := Lib.hid (HLa2.out.below (hb3.mono HB2.out.size))
    have HLm3 := Lib.hid (HLm2.out.below (hb3.mono HB2.out.size))
    have HO3 := Lib.hid (HO2.out.below hb3)
    clear ep3 herr hb3 HLa2 HLm2 HO2 hgl2 hg2
    have hw3 : w.heap.size ≤ w3.heap.size := HB3.out.size
    go_wp2_with (first
      | (at_builtin
         (with_reducible refine wpList_put rfl (.tmp 53) (.tmp 54) rfl w3.heap.size _ 0 0 [] rfl (own_new_at _ w3.heap.size (w3.heap.size + 1) (by simp) (by omega)) w3.heap.size (some ⟨g2, 0, none⟩) (len1 + 5) c2 (fr k la) rfl (HO3.out.bytes.below (((Below.refl _ _).alloc (Nat.le_refl _) _).alloc (by simp) _)) (by omega) (by simp; omega) ?_)
         intro A4 c4 w4 hown hbel
         rw [Nat.zero_add, List.nil_append] at hown
         have HQ4 := Lib.hid hown
         have HT4 := Lib.hid (Below.trans (((Below.refl w3.heap.size w3).alloc (Nat.le_refl _) _).alloc (by simp) _) hbel)
         clear hown hbel)
      | (at_builtin
         (with_reducible refine wpList_put rfl (.tmp 55) (.tmp 56) rfl w3.heap.size _ _ _ _ rfl HQ4.out w.heap.size a2 len2 cap2 lm rfl (HLm3.out.below (HT4.out.mono hw3)) (by omega) HT4.out.size ?_)
         intro A5 c5 w5 hown hbel
         have HQ5 := Lib.hid hown
         have HT5 := Lib.hid (Below.trans HT4.out hbel)
         clear hown hbel))
    refine (get_yes_any A5 (len1 + 5 + len2) c5 w5.heap.size k la lm len1 HLa3.out.1 (by omega) w5 HQ5.out.bytes (Nat.le_refl _) HQ5.out.cap (by omega)).mono ?_
    rintro e w6 ⟨A6, c6, rfl, hby6, hb6⟩
    have HT6 := Lib.hid (Below.trans HT5.out (hb6.mono HT5.out.size))
    have HY6 := Lib.hid hby6
    clear hby6 hb6
    have hbx : Below w6.heap.size w6 (w6.alloc (.cells #[.int .u8 k.toNat, .slice A6 len1 c6] 26)) := (Below.refl _ _).alloc (Nat.le_refl _) _
    have HX := Lib.hid (Box.new w6 k A6 len1 c6 _ rfl)
    have k1 := conv_str (cap := c6) (HY6.out.below hbx)
    have k2 := conv_str (cap := cap1) ((HLa3.out.below (HT6.out.mono hw3)).below (hbx.mono (Nat.le_trans hw3 HT6.out.size)))
    have HT7 := Lib.hid (Below.trans HT6.out (hbx.mono HT6.out.size))
    clear hbx
    go_wp2_with (first
      | (at_builtin
         (with_reducible refine wpList_put rfl (.tmp 92) (.tmp 93) rfl w6.heap.size _ 0 0 [] rfl (own_new_at _ w6.heap.size (w6.heap.size + 1) (by simp) (by omega)) w3.heap.size (some ⟨g2, 0, none⟩) (len1 + 5) c2 (fr k la) rfl ((HO3.out.bytes.below HT7.out).below ((Below.refl w3.heap.size _).alloc HT7.out.size _)) (by omega) (by simp; omega) ?_)
         intro A8 c8 w8 hown hbel
         rw [Nat.zero_add, List.nil_append] at hown
         have HQ8 := Lib.hid hown
         have HT8 := Lib.hid (Below.trans (HT7.out.alloc HT7.out.size _) (hbel.mono HT6.out.size))
         obtain ⟨g8, rfl, hg8, hgl8⟩ := hown.form (by omega)
         have ep4 := EP4.out
         generalize hv : (fr k la)[2 + p4]?.getD 0#8 = v at *
         have HV := Lib.hid hv
         have hcell := own_bytes hown g8 rfl (2 + p4) (by omega)
         rw [hv] at hcell
         have hfz := hown.row.frozenAt (2 + p4)
         have hxor := u8_xor_nat v.toNat y.toNat v.isLt y.isLt
         rw [← BitVec.toNat_xor] at hxor
         generalize hx : v ^^^ y = x at *
         rw [← hv] at hx
         have HXo := Lib.hid hx
         have HT9 := Lib.hid (Below.trans HT8.out ((Below.refl w3.heap.size w8).setCell (p := ⟨g8, 2 + p4, none⟩) (by have := HT6.out.size; simp; omega) (.int .u8 x.toNat)))
         have HR := Lib.hid (own_turn hown (2 + p4) x)
         clear hown hbel hv hx k1 k2))
    have hla := HLa3.out.1
    clear hcell hfz hxor ep4
    generalize w8.setCell ⟨g8, 2 + p4, none⟩ (.int .u8 x.toNat) = w9 at *
    by_cases hy : y = 0#8
    · subst hy
      have hset := set_same (fr k la) (2 + p4) (by rw [fr_len]; omega)
      rw [HXo.out] at hset
      rw [hset] at HR
      have hby : Bytes w9 w9.heap.size (some ⟨g8, 0, none⟩) (len1 + 5) (fr k la ++ []) := by rw [List.append_nil]; exact HR.out.bytes
      clear hset
      refine (get_yes_any _ (len1 + 5) _ _ k la [] len1 hla (by omega) w9 hby (Nat.le_refl _) HR.out.cap (by omega)).mono ?_
      rintro e w10 ⟨A10, c10, rfl, _, hb10⟩
      have HT10 := Lib.hid (Below.trans HT9.out (hb10.mono HT9.out.size))
      clear hb10 hla
      go_wp2
      go_ret
      exact ⟨by simp, Below.trans HB3.out ((HT10.out.alloc HT10.out.size _).mono hw3)⟩
    · have herr := err_fr_turn k la (by omega) p4 (by omega) y hy
      rw [HXo.out] at herr
      have hy0 : ((y.toNat : Int) == 0) = false := by
        simp only [beq_eq_false_iff_ne]
        intro h
        exact hy (BitVec.eq_of_toNat_eq (by simpa using h))
      have hy1 : ((y.toNat : Int) != 0) = true := by rw [bne, hy0]; rfl
      refine (get_no_any _ (len1 + 5) _ _ _ 7 herr (by omega) w9 HR.out.bytes (Nat.le_refl _) HR.out.cap (by omega)).mono ?_
      rintro e w10 ⟨A10, c10, rfl, hb10⟩
      have HT10 := Lib.hid (Below.trans HT9.out (hb10.mono HT9.out.size))
      clear hb10 hla herr hy
      go_wp2
      go_ret
      exact ⟨by simp, Below.trans HB3.out ((HT10.out.alloc HT10.out.size _).mono hw3)⟩

set_option maxRecDepth 100000 in
theorem lifted (os : Os) (started : os.Started) (H : Type) (enc : TypeId × Value → H) :
    ReturnsInHanded {} Try.checked os 5 .any (Rows.frameCutsSpec.pre6 enc Try.prog Try.f5 Rows.frameCutsRow.domain false) (Rows.frameCutsSpec.post enc Try.prog Try.f5 false true false false) := by
  refine returnsInHanded_of_change (C := Try.checked) own started (by kernel_rfl) Try.func5
    (ChangeSpec.witness6 (enc := enc) (C := Try.checked) false ⟨#[], #[.int .u8 0, .slice none 0 0, .slice none 0 0, .int .i64 0, .int .i64 0, .int .u8 0], []⟩ 8 (by kernel_rfl) (by kernel_rfl) (by kernel_rfl) (by kernel_rfl)) ?_
  intro W base args ds gs before hval0 hW hcnd _
  have hval : ∀ (j : Nat) t v, Try.f5.params[j]? = some t → args[j]? = some v → Value.okWide Try.prog W .any base t v := hval0
  have hW' := hW
  obtain ⟨p, q, hA0, hV, rfl, hfz, hnd⟩ := hW
  have hA : DataW.TrodAll enc Try.prog W 0 (fun _ => true) true Try.f5.params.toList args.toList ds p := hA0
  rw [Try.params5] at hA hval
  obtain ⟨v0, vs0, d0, ds0, p0, q0, hargs, rfl, rfl, h0, r0⟩ := trodAll_cons hA
  obtain ⟨v1, vs1, d1, ds1, p1, q1, rfl, rfl, rfl, h1, r1⟩ := trodAll_cons r0
  obtain ⟨v2, vs2, d2, ds2, p2, q2, rfl, rfl, rfl, h2, r2⟩ := trodAll_cons r1
  obtain ⟨v3, vs3, d3, ds3, p3, q3, rfl, rfl, rfl, h3, r3⟩ := trodAll_cons r2
  obtain ⟨v4, vs4, d4, ds4, p4, q4, rfl, rfl, rfl, h4, r4⟩ := trodAll_cons r3
  obtain ⟨v5, vs5, d5, ds5, p5, q5, rfl, rfl, rfl, h5, r5⟩ := trodAll_cons r4
  obtain ⟨rfl, rfl, rfl⟩ := trodAll_nil r5
  obtain rfl : args = #[v0, v1, v2, v3, v4, v5] := by cases args; simp_all
  obtain ⟨rfl, rfl⟩ := trodVars_none hV
  obtain ⟨a0, rfl, rfl, rfl, w0⟩ := open_int Try.underlying5 (hval 0 5 v0 rfl rfl) h0
  obtain ⟨a1, len1, cap1, rfl⟩ := okWide_slice Try.underlying22 (hval 1 22 v1 rfl rfl)
  have k1 := h1
  have lt1 : ∀ x ∈ p1, x.block < W.heap.size := by obtain ⟨m, hm⟩ := k1; exact DataW.trod_lt m _ _ _ hm
  obtain ⟨z1, w1⟩ : ∃ zs, IsRow .u8 W a1 len1 cap1 zs := by
    obtain ⟨fuel, hf⟩ := h1
    rcases open_ints Try.underlying22 Try.underlying5 (by kernel_rfl) hf with ⟨hcs, _⟩ | ⟨x, l, c, zs, hcs, _, hl, hm, hz, _, hcell, hwz⟩
    · simp [Value.cells] at hcs
      obtain ⟨rfl, rfl, rfl⟩ := hcs
      exact ⟨[], .inl ⟨rfl, rfl, rfl, rfl⟩⟩
    · simp [Value.cells] at hcs
      obtain ⟨rfl, rfl, rfl⟩ := hcs
      exact ⟨zs, .inr ⟨_, rfl, hl, hm, by simpa using hz, hcell, hwz⟩⟩
  obtain ⟨a2, len2, cap2, rfl⟩ := okWide_slice Try.underlying22 (hval 2 22 v2 rfl rfl)
  have k2 := h2
  have lt2 : ∀ x ∈ p2, x.block < W.heap.size := by obtain ⟨m, hm⟩ := k2; exact DataW.trod_lt m _ _ _ hm
  obtain ⟨z2, w2⟩ : ∃ zs, IsRow .u8 W a2 len2 cap2 zs := by
    obtain ⟨fuel, hf⟩ := h2
    rcases open_ints Try.underlying22 Try.underlying5 (by kernel_rfl) hf with ⟨hcs, _⟩ | ⟨x, l, c, zs, hcs, _, hl, hm, hz, _, hcell, hwz⟩
    · simp [Value.cells] at hcs
      obtain ⟨rfl, rfl, rfl⟩ := hcs
      exact ⟨[], .inl ⟨rfl, rfl, rfl, rfl⟩⟩
    · simp [Value.cells] at hcs
      obtain ⟨rfl, rfl, rfl⟩ := hcs
      exact ⟨zs, .inr ⟨_, rfl, hl, hm, by simpa using hz, hcell, hwz⟩⟩
  obtain ⟨a3, rfl, rfl, rfl, w3⟩ := open_int Try.underlying3 (hval 3 3 v3 rfl rfl) h3
  obtain ⟨a4, rfl, rfl, rfl, w4⟩ := open_int Try.underlying3 (hval 4 3 v4 rfl rfl) h4
  obtain ⟨a5, rfl, rfl, rfl, w5⟩ := open_int Try.underlying5 (hval 5 5 v5 rfl rfl) h5
  clear hA0 hval0
  refine (walk a0 a1 len1 cap1 z1 a2 len2 cap2 z2 a3 a4 a5 W w0 w1 w2 w3 w4 w5).mono fun e W' ⟨he, bel⟩ => ?_
  subst he
  exact ⟨_, rfl, _, _, _, [], _, [], hW', trodAll_mk1 (shut_bool Try.underlying4 _), (trodAll_cons_mk (shut_int Try.underlying5 w0) (trodAll_cons_mk (Below.trod laidOut (by kernel_rfl) (of_decide_eq_true (by kernel_rfl)) k1 bel lt1) (trodAll_cons_mk (Below.trod laidOut (by kernel_rfl) (of_decide_eq_true (by kernel_rfl)) k2 bel lt2) (trodAll_cons_mk (shut_int Try.underlying3 w3) (trodAll_cons_mk (shut_int Try.underlying3 w4) (trodAll_cons_mk (shut_int Try.underlying5 w5) trodAll_mk0)))))), rfl, bel.frame _, fun h => by cases h⟩

theorem over : Rows.frameCutsRow.holds Try.pinned (OpenSpec.ofChange Rows.frameCutsSpec) :=
  OpenClaim.holds_of_wide 5 Try.f5 rfl rfl rfl rfl rfl rfl rfl ⟨rfl, rfl, rfl, rfl, rfl⟩ rfl rfl rfl rfl rfl (by kernel_rfl) Try.func5 (by kernel_rfl)
    (of_decide_eq_true (by kernel_rfl)) (by unfold Func.isWrapper; first | (rw [if_pos (by decide +kernel)]; kernel_rfl) | (rw [if_neg (by decide +kernel)]; exact ⟨rfl, rfl⟩))
    (fun os started H enc _ => lifted os started H enc)

end Go.Proofs.Ytdeinmbhnedgkaa.frameCuts
namespace Go.Proofs.Ytdeinmbhnedgkaa
theorem frameCuts_holds : Rows.FrameCutsSaid := frameCuts.over
#print axioms frameCuts_holds
end Go.Proofs.Ytdeinmbhnedgkaa
