/- SpotPuts: for every input the law answers true, and its arguments read as before. Conditions: none. -/
import Derived.Test.YtfehlmoghibamaaSph
namespace Go.Proofs.Ytfehlmoghibamaa.spotPuts
open Go.ChangeShapes Go.WideShapes Go.ChangeAt Go.RowKit
open Sp

set_option maxRecDepth 100000 in
theorem walk (a0 : Int) (a1 : Option Addr) (len1 cap1 : Nat) (A1 : Nat → Option Addr) (L1 C1 : Nat → Nat) (T1 : Nat → Bs) (w : World) (w0 : (Lit.int .i64 a0).wf = true) (w1 : Pcs w w.heap.size a1 len1 A1 L1 C1 T1) (g1 : len1 ≤ cap1 ∧ cap1 ≤ maxLen) :
    Calls Try.prog 3 #[.int .i64 a0, .slice a1 len1 cap1] w fun e w' => e = .returned (.bool true) ∧ Below w.heap.size w w' := by
  have HW0 := Lib.hid w1
  have HA0 := Lib.hid w0
  have hmax : len1 ≤ 9223372036854775807 := by have := g1.1; have := g1.2; unfold maxLen at this; omega
  clear w0 w1 g1 HA0
  go_enter Try.func3, Try.ntmps3
  go_wp2_with fail
  refine (head_any w).mono ?_
  rintro e w1 ⟨rfl, hb1⟩
  have HB1 := Lib.hid hb1
  clear hb1
  go_wp2_with fail
  refine (few_any a1 len1 cap1 w.heap.size A1 L1 C1 T1 w1 (HW0.out.below HB1.out) hmax).mono ?_
  rintro e w2 ⟨rfl, rfl⟩
  cases hf : fewP L1 len1
  · go_wp2
    go_ret
    exact ⟨rfl, HB1.out⟩
  have hf2 : len1 ≤ 100 ∧ totp L1 len1 ≤ 2000 := by
    unfold fewP at hf
    simpa using hf
  obtain ⟨hn100, ht2000⟩ := hf2
  clear hf
  go_wp2_with fail
  refine (snew_any a0 w1).mono ?_
  rintro e w2 ⟨g, rfl, hg, hs, hb2⟩
  have HB2 := Lib.hid (Below.trans HB1.out (hb2.mono HB1.out.size))
  have HS2 := Lib.hid hs
  have hgw : w.heap.size ≤ g := Nat.le_trans HB1.out.size hg
  clear hs hb2 HB1 hg
  go_wp2_with fail
  refine (lnew_any a0 w2).mono ?_
  rintro e w3 ⟨rfl, hx3, hb3⟩
  have HS3 := Lib.hid (HS2.out.keep (only_below hb3 (fun _ => False)) (fun h => h))
  have HB3 := Lib.hid (Below.trans HB2.out (hb3.mono HB2.out.size))
  have HX3 := Lib.hid hx3
  have hgm : g < w2.heap.size := HS2.out.lt
  have hmw : w.heap.size ≤ w2.heap.size := HB2.out.size
  clear hb3 hx3 HS2 HB2
  generalize w2.heap.size = gm at *
  have HO := Lib.hid (cols_ok a0)
  generalize cols a0 = W at *
  go_wp2_with fail
  go_loopw [24] (fun i wr => ∃ k : Nat, k ≤ len1 ∧ i = .int .i64 k ∧ SpotIs g wr (nxts ⟨W, 0, 0, 0⟩ (catq T1 k)) ∧ Bx gm wr (MV (nxts ⟨W, 0, 0, 0⟩ (catq T1 k))) ∧ Below w.heap.size w wr) (fun i _ => len1 - (intOf i).toNat)
  case atStart => exact ⟨0, by omega, rfl, HS3.out, HX3.out, HB3.out⟩
  case round =>
    obtain ⟨k, hk, rfl, hs, hx, hb⟩ := hrel
    have HS := Lib.hid hs
    have HX := Lib.hid hx
    have HB := Lib.hid hb
    clear hs hx hb
    by_cases hlt : k < len1
    · obtain ⟨b, off, rfl, hbB, hc⟩ := (HW0.out.below HB.out).outer (by omega)
      have hc0 := hc k hlt
      have HIn := Lib.hid ((HW0.out.below HB.out).inner k hlt)
      have hL : totp L1 k + L1 k ≤ 2000 := by
        have := totp_mono L1 (show k + 1 ≤ len1 by omega)
        rw [totp] at this
        omega
      have hcl : (catq T1 k).length = totp L1 k := catq_len T1 L1 k (fun r hr => (HW0.out.inner r (by omega)).1.1)
      have HOK := Lib.hid (show Ok (nxts ⟨W, 0, 0, 0⟩ (catq T1 k)) (totp L1 k) by have := Ok.nxts HO.out (catq T1 k); rwa [Nat.zero_add, hcl] at this)
      have HCAT := Lib.hid (show nxts ⟨W, 0, 0, 0⟩ (catq T1 (k + 1)) = nxts (nxts ⟨W, 0, 0, 0⟩ (catq T1 k)) (T1 k) by rw [catq, nxts_app])
      clear hc hcl
      generalize nxts ⟨W, 0, 0, 0⟩ (catq T1 k) = s at *
      generalize totp L1 k = tk at *
      have hsz : w.heap.size ≤ wr.heap.size := HB.out.size
      go_wp2_with fail
      refine (sput_any g s tk (A1 k) (L1 k) (C1 k) w.heap.size (T1 k) wr HS.out HOK.out (by omega) HIn.out.1 hsz (fun h0 p hp => by obtain ⟨b2, o2, e2, hlt2, _⟩ := HIn.out.1.2 h0; rw [hp] at e2; injection e2 with e2; subst e2; simp; omega)).mono ?_
      rintro e w5 ⟨rfl, ho5, hs5⟩
      have HS5 := Lib.hid hs5
      have HX5 := Lib.hid (HX.out.keep ho5 (by omega))
      have HB5 := Lib.hid (below_only HB.out ho5 hgw)
      have HI5 := Lib.hid (((HW0.out.below HB5.out).inner k hlt).1)
      clear hs5 ho5 hc0
      go_wp2_with fail
      go_loopw [33] (fun i wx => ∃ j : Nat, j ≤ L1 k ∧ i = .int .i64 j ∧ Bx gm wx (MV (nxts s ((T1 k).take j))) ∧ Only (fun b => b = gm) w5 wx) (fun i _ => L1 k - (intOf i).toNat)
      case atStart => exact ⟨0, by omega, rfl, HX5.out, Only.refl _ _⟩
      case round =>
        obtain ⟨j, hj, rfl, hx, ho⟩ := hrel
        have HXx := Lib.hid hx
        have HOx := Lib.hid ho
        have hbx := below_only HB5.out ho hmw
        clear hx ho
        by_cases hjl : j < L1 k
        · obtain ⟨b2, o2, hA, hb2, hc2⟩ := (HI5.out.below (Below.trans (Below.refl _ _) (HOx.out.below HB5.out.size (fun q hq e => by omega)))).2 (by omega)
          have hcj := hc2 j hjl
          have hok2 := Ok.nxts HOK.out ((T1 k).take j)
          have HOK2 := Lib.hid hok2
          have htl : ((T1 k).take j).length ≤ j := List.length_take_le _ _
          have HT := Lib.hid (show nxts s ((T1 k).take (j + 1)) = nxt (nxts s ((T1 k).take j)) ((T1 k)[j]?.getD 0#8).toNat by
            rw [List.take_add_one, List.getElem?_eq_getElem (show j < (T1 k).length by rw [HI5.out.1]; exact hjl)]
            exact nxts_snoc _ _ _)
          clear hc2 hok2 hbx
          rw [hA]
          generalize (T1 k)[j]?.getD 0#8 = x at *
          generalize nxts s ((T1 k).take j) = s2 at *
          go_wp2_with fail
          refine (byte_any gm s2 _ x _ HXx.out HOK2.out (by omega)).mono ?_
          rintro e w6 ⟨rfl, ho6, hx6⟩
          have HO6 := Lib.hid (HOx.out.trans ho6)
          have HX6 := Lib.hid hx6
          clear ho6 hx6
          go_wp2
          go_roundw
          case rel => exact ⟨j + 1, by omega, by go_num, by rw [HT.out]; exact HX6.out, HO6.out⟩
          case measure => simp [intOf]; omega
        · obtain rfl : j = L1 k := by omega
          have HTK := Lib.hid (show (T1 k).take (L1 k) = T1 k from List.take_of_length_le (Nat.le_of_eq HI5.out.1))
          have hXx := HXx.out
          rw [HTK.out] at hXx
          have HX6 := Lib.hid hXx
          have HS6 := Lib.hid (HS5.out.keep HOx.out (by omega))
          have HB6 := Lib.hid hbx
          have hok := Ok.nxts HOK.out (T1 k)
          rw [HI5.out.1] at hok
          have HOK6 := Lib.hid hok
          clear hXx HXx HOx hbx hok
          generalize nxts s (T1 k) = s6 at *
          obtain ⟨W6, c6, r6, q6⟩ := s6
          obtain ⟨k0, k1, k2, k3, k4, k5, k6⟩ := HOK6.out
          simp only at k0 k1 k2 k3 k4 k5
          go_wp2_with fail
          refine (sat_any g _ _ _ HS6.out HOK6.out (by omega)).mono ?_
          rintro e w7 ⟨rfl, hb7⟩
          have HS7 := Lib.hid (HS6.out.keep (only_below hb7 (fun _ => False)) (fun h => h))
          have HX7 := Lib.hid (HX6.out.keep (only_below hb7 (fun _ => False)) (fun h => h))
          have HB7 := Lib.hid (Below.trans HB6.out (hb7.mono HB6.out.size))
          have d0 : w7.cell? ⟨gm, 0, none⟩ = some (.int .i64 W6) := HX7.out.cell 0 _ rfl
          have d1 : w7.cell? ⟨gm, 1, none⟩ = some (.int .i64 c6) := HX7.out.cell 1 _ rfl
          have d2 : w7.cell? ⟨gm, 2, none⟩ = some (.int .i64 r6) := HX7.out.cell 2 _ rfl
          clear hb7 HS6 HX6 HB6
          go_wp2
          go_roundw
          case rel => exact ⟨k + 1, by omega, by go_num, by rw [HCAT.out]; exact HS7.out, by rw [HCAT.out]; exact HX7.out, HB7.out⟩
          case measure => simp [intOf]; omega
    · obtain rfl : k = len1 := by omega
      go_wp2
      go_ret
      exact ⟨rfl, HB.out⟩

set_option maxRecDepth 100000 in
theorem lifted (os : Os) (started : os.Started) (H : Type) (enc : TypeId × Value → H) :
    ReturnsInHanded {} Try.checked os 3 .any (Rows.spotPutsSpec.pre6 enc Try.prog Try.f3 Rows.spotPutsRow.domain false) (Rows.spotPutsSpec.post enc Try.prog Try.f3 false true false false) := by
  refine returnsInHanded_of_change_sized (C := Try.checked) own started (by kernel_rfl) Try.func3
    (ChangeSpec.witness6 (enc := enc) (C := Try.checked) false ⟨#[], #[.int .i64 0, .slice none 0 0], []⟩ 8 (by kernel_rfl) (by kernel_rfl) (by kernel_rfl) (by kernel_rfl)) ?_
  intro W base args ds gs before hval0 hW hcnd hsz0 _
  have hval : ∀ (j : Nat) t v, Try.f3.params[j]? = some t → args[j]? = some v → Value.okWide Try.prog W .any base t v := hval0
  have hW' := hW
  obtain ⟨p, q, hA0, hV, rfl, hfz, hnd⟩ := hW
  have hsz : (DataW.weightsEach Try.prog (Try.f3.params.toList ++ Rows.spotPutsSpec.plain.varTypes Try.prog) (ds ++ gs)).all (· ≤ reachBytes) = true := hsz0
  have hA : DataW.TrodAll enc Try.prog W 0 (fun _ => true) true Try.f3.params.toList args.toList ds p := hA0
  rw [Try.params3] at hA hval hsz
  obtain ⟨v0, vs0, d0, ds0, p0, q0, hargs, rfl, rfl, h0, r0⟩ := trodAll_cons hA
  obtain ⟨v1, vs1, d1, ds1, p1, q1, rfl, rfl, rfl, h1, r1⟩ := trodAll_cons r0
  obtain ⟨rfl, rfl, rfl⟩ := trodAll_nil r1
  obtain rfl : args = #[v0, v1] := by cases args; simp_all
  obtain ⟨rfl, rfl⟩ := trodVars_none hV
  obtain ⟨a0, rfl, rfl, rfl, w0⟩ := open_int Try.underlying3 (hval 0 3 v0 rfl rfl) h0
  obtain ⟨a1, len1, cap1, rfl⟩ := okWide_slice Try.underlying22 (hval 1 22 v1 rfl rfl)
  have k1 := h1
  have lt1 : ∀ x ∈ p1, x.block < W.heap.size := by obtain ⟨m, hm⟩ := k1; exact DataW.trod_lt m _ _ _ hm
  obtain ⟨A1, L1, C1, T1, w1, g1⟩ : ∃ A L C T, Pcs W W.heap.size a1 len1 A L C T ∧ len1 ≤ cap1 ∧ cap1 ≤ maxLen := by
    obtain ⟨fuel, hf⟩ := h1
    exact open_pcs hf (fits_of hsz (j := 1) rfl rfl)
  clear hA0 hval0 hsz hsz0
  refine (walk a0 a1 len1 cap1 A1 L1 C1 T1 W w0 w1 g1).mono fun e W' ⟨he, bel⟩ => ?_
  subst he
  exact ⟨_, rfl, _, _, _, [], _, [], hW', trodAll_mk1 (shut_bool Try.underlying4 _), (trodAll_cons_mk (shut_int Try.underlying3 w0) (trodAll_cons_mk (Below.trod laidOut (by kernel_rfl) (of_decide_eq_true (by kernel_rfl)) k1 bel lt1) trodAll_mk0)), rfl, bel.frame _, fun h => by cases h⟩

theorem over : Rows.spotPutsRow.holds Try.pinned (OpenSpec.ofChange Rows.spotPutsSpec) :=
  OpenClaim.holds_of_wide 3 Try.f3 rfl rfl rfl rfl rfl rfl rfl ⟨rfl, rfl, rfl, rfl, rfl⟩ rfl rfl rfl rfl rfl (by kernel_rfl) Try.func3 (by kernel_rfl)
    (of_decide_eq_true (by kernel_rfl)) (by unfold Func.isWrapper; first | (rw [if_pos (by decide +kernel)]; kernel_rfl) | (rw [if_neg (by decide +kernel)]; exact ⟨rfl, rfl⟩))
    (fun os started H enc _ => lifted os started H enc)

end Go.Proofs.Ytfehlmoghibamaa.spotPuts
namespace Go.Proofs.Ytfehlmoghibamaa
theorem spotPuts_holds : Rows.SpotPutsSaid := spotPuts.over
#print axioms spotPuts_holds
end Go.Proofs.Ytfehlmoghibamaa
