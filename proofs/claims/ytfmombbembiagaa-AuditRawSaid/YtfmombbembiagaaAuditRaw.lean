/- AuditRaw: for every input the law answers true, and its arguments read as before. Conditions: none. -/
import Derived.Test.YtfmombbembiagaaAug
import Derived.Test.YtfmombbembiagaaInms
namespace Go.Proofs.Ytfmombbembiagaa.auditRaw
open Go.ChangeShapes Go.WideShapes Go.ChangeAt Go.RowKit
set_option maxHeartbeats 1000000 in
theorem walk (a0 : Option Addr) (len0 cap0 : Nat) (T0 : List Au.M) (t1 : Bs) (a2 : Int) (w : World) (w0 : MsIn w w.heap.size a0 T0) (g0 : T0.length = len0 ∧ len0 ≤ cap0 ∧ cap0 ≤ maxLen) (w1 : t1.length ≤ maxLen) (w2 : (Lit.int .i64 a2).wf = true) :
    Calls Try.prog 3 #[.slice a0 len0 cap0, .string (str t1), .int .i64 a2] w fun e w' => e = .returned (.bool true) ∧ Below w.heap.size w w' := by
  obtain ⟨rfl, hcap, hmax⟩ := g0
  have HL := Lib.hid w0
  have HS := Lib.hid (str_size t1)
  have HB0 := Lib.hid (Below.refl w.heap.size w)
  unfold maxLen at hmax
  have HA1 := Lib.hid w1
  have HA2 := Lib.hid w2
  clear w0 w1 w2 HA1 HA2
  obtain ⟨g, hg⟩ : ∃ g, w.heap.size = g := ⟨_, rfl⟩
  rw [hg] at HL HB0
  have HG := Lib.hid hg
  clear hg
  obtain ⟨n, hln⟩ : ∃ n, T0.length = n := ⟨_, rfl⟩
  rw [hln] at hcap
  simp only [hln]
  have HLn := Lib.hid hln
  clear hln
  go_enter Try.func3, Try.ntmps3
  go_wp2_with fail
  refine (lhd_any w).mono ?_
  rintro e w1 ⟨rfl, hb1⟩
  rw [HG.out] at hb1
  have HB1 := Lib.hid hb1
  clear hb1 HB0
  by_cases h60 : 60 < n
  · have hd : decide (60 < (n : Int)) = true := by simp; omega
    go_wp2
    go_ret
    exact ⟨rfl, by rw [HG.out]; exact HB1.out⟩
  have hd : decide (60 < (n : Int)) = false := by simp; omega
  by_cases h500 : 500 < (str t1).size
  · have hd2 : decide (500 < ((str t1).size : Int)) = true := by simp; omega
    go_wp2
    go_ret
    exact ⟨rfl, by rw [HG.out]; exact HB1.out⟩
  have hd2 : decide (500 < ((str t1).size : Int)) = false := by simp; omega
  go_wp2_with fail
  go_loopw [21] (fun i wr => ∃ k : Nat, k ≤ n ∧ i = .int .i64 (k : Nat) ∧ Below g w wr) (fun i _ => n - (intOf i).toNat)
  case atStart => exact ⟨0, by omega, rfl, HB1.out⟩
  case round =>
    obtain ⟨k, hk, rfl, hb⟩ := hrel
    have HBe := Lib.hid hb
    clear hb HB1
    by_cases hlt : k < n
    · obtain ⟨m, hm⟩ : ∃ m, T0[k]? = some m := ⟨_, List.getElem?_eq_getElem (by have := HLn.out; omega)⟩
      obtain ⟨b, off, ea, hbB, hc⟩ := (HL.out.below HBe.out).outer (by have := HLn.out; omega)
      subst ea
      obtain ⟨hc0, hc1, hc2, hc3⟩ := hc k m hm
      clear hc hm
      obtain ⟨K, x, y, t⟩ := m
      simp only at hc0 hc1 hc2 hc3
      have hgw := HBe.out.size
      rw [HG.out] at hgw
      have HN1 := Lib.hid (Bx.new wr _ rfl #[.int .i64 K, .int .i64 x, .int .i64 y, .string (str t)] 26)
      have HB2 := Lib.hid (HBe.out.alloc hgw (.cells #[.int .i64 K, .int .i64 x, .int .i64 y, .string (str t)] 26))
      go_upto_region 8 with fail
      generalize wr.alloc (.cells #[.int .i64 K, .int .i64 x, .int .i64 y, .string (str t)] 26) = w2 at *
      have m3 := HN1.out.cell 3 (.string (str t)) rfl
      clear hc0 hc1 hc2 hc3
      by_cases h300 : 300 < (str t).size
      · have hd3 : decide (300 < ((str t).size : Int)) = true := by simp; omega
        go_wp2
        go_ret
        exact ⟨rfl, by rw [HG.out]; exact HB2.out⟩
      · have hd3 : decide (300 < ((str t).size : Int)) = false := by simp; omega
        go_wp2
        go_roundw
        case rel => exact ⟨k + 1, by omega, by go_num, HB2.out⟩
        case measure => simp [intOf]; omega
    · have HF := Lib.hid (fun W (hW : Below g w W) => by
        have hM : MsIn W W.heap.size a0 T0 := (⟨fun hn => let ⟨b, off, e, hb, hc⟩ := (HL.out.below hW).outer hn; ⟨b, off, e, by have := hW.size; rw [HG.out] at this; omega, hc⟩, (HL.out.below hW).inner⟩ : MsIn W W.heap.size _ T0)
        have := first_any hM cap0 (by rw [HLn.out]; omega) t1 (by rw [← HS.out]; omega) a2
        rw [HLn.out] at this
        exact this)
      have HF2 := Lib.hid (fun W (hW : Below g w W) => by
        have hM : MsIn W W.heap.size a0 T0 := (⟨fun hn => let ⟨b, off, e, hb, hc⟩ := (HL.out.below hW).outer hn; ⟨b, off, e, by have := hW.size; rw [HG.out] at this; omega, hc⟩, (HL.out.below hW).inner⟩ : MsIn W W.heap.size _ T0)
        have := lfirst_any hM cap0 (by rw [HLn.out]; omega) (by rw [HLn.out]; exact hcap) t1 (by rw [← HS.out]; omega) a2
        rw [HLn.out] at this
        exact this)
      go_wp2_with fail
      refine (HF.out wr HBe.out).mono ?_
      rintro e w2 ⟨r, rfl, hr, hb2⟩
      have HR1 := Lib.hid hr
      have HB2 := Lib.hid (HBe.out.trans (hb2.mono (by have := HBe.out.size; rw [HG.out] at this; exact this)))
      clear hr hb2
      go_wp2_with fail
      refine (HF2.out w2 HB2.out).mono ?_
      rintro e w3 ⟨r2, rfl, hr, hb3⟩
      have HB3 := Lib.hid (HB2.out.trans (hb3.mono (by have := HB2.out.size; rw [HG.out] at this; exact this)))
      obtain rfl := Au.isFirst_one HR1.out hr
      clear hr hb3
      go_wp2
      go_ret
      exact ⟨by simp, by rw [HG.out]; exact HB3.out⟩

set_option maxRecDepth 100000 in
theorem lifted (os : Os) (started : os.Started) (H : Type) (enc : TypeId × Value → H) :
    ReturnsInHanded {} Try.checked os 3 .any (Rows.auditRawSpec.pre6 enc Try.prog Try.f3 Rows.auditRawRow.domain false) (Rows.auditRawSpec.post enc Try.prog Try.f3 false true false false) := by
  refine returnsInHanded_of_change_sized (C := Try.checked) own started (by kernel_rfl) Try.func3
    (ChangeSpec.witness6 (enc := enc) (C := Try.checked) false ⟨#[], #[.slice none 0 0, .string ⟨#[]⟩, .int .i64 0], []⟩ 8 (by kernel_rfl) (by kernel_rfl) (by kernel_rfl) (by kernel_rfl)) ?_
  intro W base args ds gs before hval0 hW hcnd hsz0 _
  have hval : ∀ (j : Nat) t v, Try.f3.params[j]? = some t → args[j]? = some v → Value.okWide Try.prog W .any base t v := hval0
  have hW' := hW
  obtain ⟨p, q, hA0, hV, rfl, hfz, hnd⟩ := hW
  have hsz : (DataW.weightsEach Try.prog (Try.f3.params.toList ++ Rows.auditRawSpec.plain.varTypes Try.prog) (ds ++ gs)).all (· ≤ reachBytes) = true := hsz0
  have hA : DataW.TrodAll enc Try.prog W 0 (fun _ => true) true Try.f3.params.toList args.toList ds p := hA0
  rw [Try.params3] at hA hval hsz
  obtain ⟨v0, vs0, d0, ds0, p0, q0, hargs, rfl, rfl, h0, r0⟩ := trodAll_cons hA
  obtain ⟨v1, vs1, d1, ds1, p1, q1, rfl, rfl, rfl, h1, r1⟩ := trodAll_cons r0
  obtain ⟨v2, vs2, d2, ds2, p2, q2, rfl, rfl, rfl, h2, r2⟩ := trodAll_cons r1
  obtain ⟨rfl, rfl, rfl⟩ := trodAll_nil r2
  obtain rfl : args = #[v0, v1, v2] := by cases args; simp_all
  obtain ⟨rfl, rfl⟩ := trodVars_none hV
  obtain ⟨a0, len0, cap0, rfl⟩ := okWide_slice Try.underlying22 (hval 0 22 v0 rfl rfl)
  have k0 := h0
  have lt0 : ∀ x ∈ p0, x.block < W.heap.size := by obtain ⟨m, hm⟩ := k0; exact DataW.trod_lt m _ _ _ hm
  obtain ⟨T0, w0, g0⟩ : ∃ T, MsIn W W.heap.size a0 T ∧ T.length = len0 ∧ len0 ≤ cap0 ∧ cap0 ≤ maxLen := by
    obtain ⟨fuel, hf⟩ := h0
    exact open_msgs hf
  have k1 := h1
  have lt1 : ∀ x ∈ p1, x.block < W.heap.size := by obtain ⟨m, hm⟩ := k1; exact DataW.trod_lt m _ _ _ hm
  obtain ⟨s1, rfl, _, _, hs1⟩ := Go.ChangeMaps.open_string Try.underlying9 (hval 1 9 v1 rfl rfl) h1
  obtain ⟨t1, rfl, w1⟩ := as_str s1 hs1
  obtain ⟨a2, rfl, rfl, rfl, w2⟩ := open_int Try.underlying3 (hval 2 3 v2 rfl rfl) h2
  clear hA0 hval0 hsz hsz0
  refine (walk a0 len0 cap0 T0 t1 a2 W w0 g0 w1 w2).mono fun e W' ⟨he, bel⟩ => ?_
  subst he
  exact ⟨_, rfl, _, _, _, [], _, [], hW', trodAll_mk1 (shut_bool Try.underlying4 _), (trodAll_cons_mk (Below.trod laidOut (by kernel_rfl) (of_decide_eq_true (by kernel_rfl)) k0 bel lt0) (trodAll_cons_mk (Below.trod laidOut (by kernel_rfl) (of_decide_eq_true (by kernel_rfl)) k1 bel lt1) (trodAll_cons_mk (shut_int Try.underlying3 w2) trodAll_mk0))), rfl, bel.frame _, fun h => by cases h⟩

theorem over : Rows.auditRawRow.holds Try.pinned (OpenSpec.ofChange Rows.auditRawSpec) :=
  OpenClaim.holds_of_wide 3 Try.f3 rfl rfl rfl rfl rfl rfl rfl ⟨rfl, rfl, rfl, rfl, rfl⟩ rfl rfl rfl rfl rfl (by kernel_rfl) Try.func3 (by kernel_rfl)
    (of_decide_eq_true (by kernel_rfl)) (by unfold Func.isWrapper; first | (rw [if_pos (by decide +kernel)]; kernel_rfl) | (rw [if_neg (by decide +kernel)]; exact ⟨rfl, rfl⟩))
    (fun os started H enc _ => lifted os started H enc)

end Go.Proofs.Ytfmombbembiagaa.auditRaw
namespace Go.Proofs.Ytfmombbembiagaa
theorem auditRaw_holds : Rows.AuditRawSaid := auditRaw.over
#print axioms auditRaw_holds
end Go.Proofs.Ytfmombbembiagaa
