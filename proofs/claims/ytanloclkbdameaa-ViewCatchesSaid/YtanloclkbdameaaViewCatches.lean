/- ViewCatches: for every input the law answers true, and its arguments read as before. Conditions: none. -/
import Derived.Test.YtanloclkbdameaaVh
import Derived.Test.YtanloclkbdameaaSz
import Derived.Test.YtanloclkbdameaaInb
import Derived.Deep.DeepCutAuto
namespace Go.Proofs.Ytanloclkbdameaa.viewCatches
open Go.ChangeShapes Go.WideShapes Go.ChangeAt Go.RowKit
theorem take_drop_join (l : Bs) (p c : Nat) : l.take p ++ (l.drop p).take c = l.take (p + c) := by
  rw [List.take_add]

/-- how many bytes are sent of what is left -/
theorem count_eq (n p m : Nat) (h : p ≤ n) (hm : 1 ≤ m) (hm2 : m ≤ 64) : countOf n p (11 + (m : Int)) (m : Int) = min m (n - p) := by
  unfold countOf
  omega

theorem quo_eq (L m c p : Nat) (hm : 1 ≤ m) (hp : p = L) (h1 : p = min (c * m) L) (h2 : c = 0 ∨ (c - 1) * m < L) : ((L : Int) + (m : Int) - 1).tdiv (m : Int) = (c : Int) := by
  have h3 : (L + m - 1) / m = c := by
    refine Nat.div_eq_of_lt_le ?_ ?_
    · rcases h2 with rfl | h2
      · simp
      · rcases c with _ | c
        · simp
        · rw [Nat.add_sub_cancel] at h2
          rw [Nat.succ_mul]
          omega
    · rw [Nat.succ_mul]
      omega
  rw [Int.tdiv_eq_ediv_of_nonneg (by omega), ← h3]
  have e : (L : Int) + (m : Int) - 1 = ((L + m - 1 : Nat) : Int) := by omega
  rw [e]
  rfl

set_option maxRecDepth 100000 in
set_option maxHeartbeats 1000000 in
theorem walk (a0 : Option Addr) (len0 cap0 : Nat) (z0 : List Int) (a1 : Int) (w : World) (w0 : IsRow .u8 w a0 len0 cap0 z0) (w1 : (Lit.int .i64 a1).wf = true) :
    Calls Try.prog 7 #[.slice a0 len0 cap0, .int .i64 a1] w fun e w' => e = .returned (.bool true) ∧ Below w.heap.size w w' := by
  obtain ⟨q, hq63, hand⟩ := bits_any a1 63 (by decide)
  have hand : bits .and .i64 a1 63 = (q : Int) := hand
  obtain ⟨l, hl, hmax⟩ := w0.bytes
  have hcap : len0 ≤ cap0 := by rcases w0 with ⟨_, rfl, rfl, _⟩ | ⟨_, _, h, _⟩ <;> omega
  have hlen := hl.1
  subst hlen
  have HL := Lib.hid hl
  have HA1 := Lib.hid w1
  clear w0 w1 HA1 hl
  by_cases hlen : 1000 < l.length
  · go_enter Try.func7, Try.ntmps7
    go_wp2_with fail
    refine (vhead_any w).mono ?_
    rintro e w1 ⟨rfl, hb1⟩
    go_wp2
    go_ret
    exact ⟨rfl, hb1⟩
  · have hlen0 : l.length ≤ 1000 := by omega
    have hd0 : decide (1000 < (l.length : Int)) = false := by simp; omega
    clear hlen
    go_enter Try.func7, Try.ntmps7
    go_wp2_with fail
    refine (vhead_any w).mono ?_
    rintro e w1 ⟨rfl, hb1⟩
    have HB1 := Lib.hid hb1
    clear hb1
    go_wp2_with fail
    refine (new_ring _ w1).mono ?_
    rintro e w2 ⟨rfl, hr2, hb2, hs2⟩
    rw [show roomOf 2000 = 2000 from by decide] at hr2
    have HR2 := Lib.hid hr2
    have HB2 := Lib.hid (Below.trans HB1.out (hb2.mono HB1.out.size))
    have hs1 := HB1.out.size
    clear hr2 hb2
    go_wp2_with fail
    refine (append_ring HR2.out a0 l.length cap0 l (HL.out.below HB2.out) ((HL.out.below HB2.out).away (by omega) (by omega)) hcap HB2.out.size (by simp; omega)).mono ?_
    rintro e w3 ⟨rfl, hr3, ho3⟩
    rw [List.nil_append] at hr3
    have HR3 := Lib.hid hr3
    have HB3 := Lib.hid (Below.trans HB2.out (ho3.below HB2.out.size (fun k hk => by omega)))
    clear hr3 ho3 HR2
    go_wp2_with fail
    refine (vnew_no HR3.out 5000 (by decide)).mono ?_
    rintro e w4 ⟨rfl, hx4, ho4⟩
    have hlt3 := HR3.out.lt
    rw [show startOf l.length 2000 5000 = 0 from by unfold startOf; omega] at hx4
    have HV := Lib.hid (show VR w.heap.size w w4 (w1.heap.size + 1) w1.heap.size 2000 w3.heap.size 0 0 l from
      ⟨HR3.out.keep ho4 (fun h => h) (fun h => h), hx4, Below.trans HB3.out (ho4.below HB3.out.size (fun _ _ h => h)), by omega, by omega, by omega, by omega, by omega, Nat.le_trans HB3.out.size ho4.size⟩)
    clear hx4 ho4 HR3 HB3 HB2 HB1 hlt3
    generalize w3.heap.size = g at *
    generalize w1.heap.size = gk at *
    obtain ⟨m, hm⟩ : ∃ m, 1 + q = m := ⟨_, rfl⟩
    have hm1 : (1 : Int) + (q : Int) = (m : Int) := by omega
    have hm64 : 1 ≤ m ∧ m ≤ 64 := by omega
    rw [hm1]
    clear hm hm1 hand
    go_wp2
    go_loopw [7, 8] (fun s7 s8 wr => ∃ (p c : Nat), p ≤ l.length ∧ s7 = .string (str (l.take p)) ∧ s8 = .int .i64 (c : Nat) ∧ p = min (c * m) l.length ∧ (c = 0 ∨ (c - 1) * m < l.length) ∧ c ≤ p ∧ VR w.heap.size w wr (gk + 1) gk 2000 g p 0 l) (fun _ s8 _ => 1000 - (intOf s8).toNat)
    case atStart => exact ⟨0, 0, Nat.zero_le _, rfl, rfl, by omega, .inl rfl, Nat.le_refl _, HV.out⟩
    case round =>
      obtain ⟨p, c, hp, rfl, rfl, hpc, hc1, hcp, hv⟩ := hrel
      have HVr := Lib.hid hv
      have HPC := Lib.hid (And.intro hpc hc1)
      have hcnt := count_eq l.length p m hp hm64.1 hm64.2
      clear hv HV hpc hc1
      go_wp2_with fail
      refine (vnext_send HVr.out.ring HVr.out.vw (11 + (m : Int)) (m : Int) 0 (by omega) (by omega) hp).mono ?_
      intro e w5 hs
      rw [hcnt] at hs
      by_cases hpl : p = l.length
      · obtain ⟨rfl, ho⟩ := hs.1 (by omega)
        have HV5 := Lib.hid (HVr.out.keep ho)
        clear hs ho HVr
        have hq := quo_eq l.length m c p hm64.1 hpl HPC.out.1 HPC.out.2
        have hc1 : c ≤ 1000 := by omega
        go_upto_region 15 with fail
        have HV6 := Lib.hid (HV5.out.alloc (.cells #[.int .i64 0, .int .i64 0, .int .i64 0, .string (str [])] 63))
        clear HV5
        generalize w5.alloc (.cells #[.int .i64 0, .int .i64 0, .int .i64 0, .string (str [])] 63) = w6 at *
        have hcv := conv_str (cap := cap0) (HL.out.below HV6.out.bel)
        have hm0 : ¬ (m : Int) = 0 := by omega
        go_wp2_with fail
        refine (vat_any HV6.out.vw).mono ?_
        rintro e w7 ⟨rfl, rfl⟩
        go_wp2_with fail
        refine (end_ring HV6.out.ring).mono ?_
        rintro e w7 ⟨rfl, rfl⟩
        go_wp2
        go_ret
        exact ⟨ret_bool (by simp), HV6.out.bel⟩
      · obtain ⟨rfl, hx, ho⟩ := hs.2 (by omega)
        obtain ⟨cnt, hcn⟩ : ∃ cnt, min m (l.length - p) = cnt := ⟨_, rfl⟩
        rw [hcn] at hx ⊢
        have hcle : 1 ≤ cnt ∧ p + cnt ≤ l.length := by omega
        have HV5 := Lib.hid (HVr.out.turn hx ho)
        have hj := take_drop_join l p cnt
        have hs1 : (str (l.take p)).size = p := by rw [str_size, List.length_take]; omega
        have hs2 : (str ((l.drop p).take cnt)).size = cnt := by rw [str_size, List.length_take, List.length_drop]; omega
        have HJ := Lib.hid hj
        have HCN := Lib.hid hcn
        clear hs hx ho hj HVr hcn
        generalize (l.drop p).take cnt = t at *
        go_wp2
        go_roundw
        case rel =>
          have h1 := HPC.out.1
          have h2 := HCN.out
          refine ⟨p + cnt, c + 1, hcle.2, by rw [← str_app, HJ.out], by go_num, ?_, .inr ?_, by omega, HV5.out.alloc _⟩
          · rw [Nat.succ_mul]
            generalize c * m = x at *
            omega
          · rw [Nat.add_sub_cancel]
            generalize c * m = x at *
            omega
        case measure => simp [intOf]; omega

set_option maxRecDepth 100000 in
theorem lifted (os : Os) (started : os.Started) (H : Type) (enc : TypeId × Value → H) :
    ReturnsInHanded {} Try.checked os 7 .any (Rows.viewCatchesSpec.pre6 enc Try.prog Try.f7 Rows.viewCatchesRow.domain false) (Rows.viewCatchesSpec.post enc Try.prog Try.f7 false true false false) := by
  refine returnsInHanded_of_change_sized (C := Try.checked) own started (by kernel_rfl) Try.func7
    (ChangeSpec.witness6 (enc := enc) (C := Try.checked) false ⟨#[], #[.slice none 0 0, .int .i64 0], []⟩ 8 (by kernel_rfl) (by kernel_rfl) (by kernel_rfl) (by kernel_rfl)) ?_
  intro W base args ds gs before hval0 hW hcnd hsz0 _
  have hval : ∀ (j : Nat) t v, Try.f7.params[j]? = some t → args[j]? = some v → Value.okWide Try.prog W .any base t v := hval0
  have hW' := hW
  obtain ⟨p, q, hA0, hV, rfl, hfz, hnd⟩ := hW
  have hsz : (DataW.weightsEach Try.prog (Try.f7.params.toList ++ Rows.viewCatchesSpec.plain.varTypes Try.prog) (ds ++ gs)).all (· ≤ reachBytes) = true := hsz0
  have hA : DataW.TrodAll enc Try.prog W 0 (fun _ => true) true Try.f7.params.toList args.toList ds p := hA0
  rw [Try.params7] at hA hval hsz
  obtain ⟨v0, vs0, d0, ds0, p0, q0, hargs, rfl, rfl, h0, r0⟩ := trodAll_cons hA
  obtain ⟨v1, vs1, d1, ds1, p1, q1, rfl, rfl, rfl, h1, r1⟩ := trodAll_cons r0
  obtain ⟨rfl, rfl, rfl⟩ := trodAll_nil r1
  obtain rfl : args = #[v0, v1] := by cases args; simp_all
  obtain ⟨rfl, rfl⟩ := trodVars_none hV
  obtain ⟨a0, len0, cap0, rfl⟩ := okWide_slice Try.underlying24 (hval 0 24 v0 rfl rfl)
  have k0 := h0
  have lt0 : ∀ x ∈ p0, x.block < W.heap.size := by obtain ⟨m, hm⟩ := k0; exact DataW.trod_lt m _ _ _ hm
  obtain ⟨z0, w0⟩ : ∃ zs, IsRow .u8 W a0 len0 cap0 zs := by
    obtain ⟨fuel, hf⟩ := h0
    exact open_brow hf
  obtain ⟨a1, rfl, rfl, rfl, w1⟩ := open_int Try.underlying3 (hval 1 3 v1 rfl rfl) h1
  clear hA0 hval0 hsz hsz0
  refine (walk a0 len0 cap0 z0 a1 W w0 w1).mono fun e W' ⟨he, bel⟩ => ?_
  subst he
  exact ⟨_, rfl, _, _, _, [], _, [], hW', trodAll_mk1 (shut_bool Try.underlying4 _), (trodAll_cons_mk (Below.trod laidOut (by kernel_rfl) (of_decide_eq_true (by kernel_rfl)) k0 bel lt0) (trodAll_cons_mk (shut_int Try.underlying3 w1) trodAll_mk0)), rfl, bel.frame _, fun h => by cases h⟩

theorem over : Rows.viewCatchesRow.holds Try.pinned (OpenSpec.ofChange Rows.viewCatchesSpec) :=
  OpenClaim.holds_of_wide 7 Try.f7 rfl rfl rfl rfl rfl rfl rfl ⟨rfl, rfl, rfl, rfl, rfl⟩ rfl rfl rfl rfl rfl (by kernel_rfl) Try.func7 (by kernel_rfl)
    (of_decide_eq_true (by kernel_rfl)) (by unfold Func.isWrapper; first | (rw [if_pos (by decide +kernel)]; kernel_rfl) | (rw [if_neg (by decide +kernel)]; exact ⟨rfl, rfl⟩))
    (fun os started H enc _ => lifted os started H enc)

end Go.Proofs.Ytanloclkbdameaa.viewCatches
namespace Go.Proofs.Ytanloclkbdameaa
theorem viewCatches_holds : Rows.ViewCatchesSaid := viewCatches.over
#print axioms viewCatches_holds
end Go.Proofs.Ytanloclkbdameaa
