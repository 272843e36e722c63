/- ViewLines: for every input the law answers true, and its arguments read as before. Conditions: none. -/
import Derived.Test.YtanloclkbdameaaVh
import Derived.Test.YtanloclkbdameaaSz
import Derived.Test.YtanloclkbdameaaInb
namespace Go.Proofs.Ytanloclkbdameaa.viewLines
open Go.ChangeShapes Go.WideShapes Go.ChangeAt Go.RowKit
set_option maxRecDepth 100000 in
set_option maxHeartbeats 1000000 in
theorem walk (a0 : Int) (a1 : Option Addr) (len1 cap1 : Nat) (z1 : List Int) (a2 : Int) (w : World) (w0 : (Lit.int .i64 a0).wf = true) (w1 : IsRow .u8 w a1 len1 cap1 z1) (w2 : (Lit.int .i64 a2).wf = true) :
    Calls Try.prog 8 #[.int .i64 a0, .slice a1 len1 cap1, .int .i64 a2] w fun e w' => e = .returned (.bool true) ∧ Below w.heap.size w w' := by
  obtain ⟨p0, hp0, ep0⟩ := rest_any a0 200 (by decide) (by decide)
  have hback : a2 ≤ 9223372036854775807 := (i64_bounds w2).2
  have hback0 : -9223372036854775808 ≤ a2 := (i64_bounds w2).1
  obtain ⟨l, hl, hmax⟩ := w1.bytes
  have hcap : len1 ≤ cap1 := by rcases w1 with ⟨_, rfl, rfl, _⟩ | ⟨_, _, h, _⟩ <;> omega
  have hlen := hl.1
  subst hlen
  have HL := Lib.hid hl
  have HRoom := Lib.hid (show roomOf ((1 : Int) + (p0 : Int)) = 1 + p0 from by unfold roomOf; omega)
  have HA0 := Lib.hid w0
  clear HA0 w0 w1 w2 hl
  by_cases hlen : 1000 < l.length
  · go_enter Try.func8, Try.ntmps8
    go_wp2_with fail
    refine (vhead_any w).mono ?_
    rintro e w1 ⟨rfl, hb1⟩
    go_wp2
    go_ret
    exact ⟨rfl, hb1⟩
  · have hlen0 : l.length ≤ 1000 := by omega
    clear hlen
    go_enter Try.func8, Try.ntmps8
    go_wp2_with fail
    refine (vhead_any w).mono ?_
    rintro e w1 ⟨rfl, hb1⟩
    have HB1 := Lib.hid hb1
    clear hb1
    go_wp2_with fail
    refine (new_ring _ w1).mono ?_
    rintro e w2 ⟨rfl, hr2, hb2, hs2⟩
    rw [HRoom.out] at hr2
    have HR2 := Lib.hid hr2
    have HB2 := Lib.hid (Below.trans HB1.out (hb2.mono HB1.out.size))
    have hs1 := HB1.out.size
    clear hr2 hb2
    go_wp2_with fail
    refine (append_ring HR2.out a1 l.length cap1 l (HL.out.below HB2.out) ((HL.out.below HB2.out).away (by omega) (by omega)) hcap HB2.out.size (by simp; omega)).mono ?_
    rintro e w3 ⟨rfl, hr3, ho3⟩
    rw [List.nil_append] at hr3
    have HR3 := Lib.hid hr3
    have HB3 := Lib.hid (Below.trans HB2.out (ho3.below HB2.out.size (fun k hk => by omega)))
    clear hr3 ho3 HR2
    go_wp2_with fail
    refine (vnew_no HR3.out a2 hback).mono ?_
    rintro e w4 ⟨rfl, hx4, ho4⟩
    have HX4 := Lib.hid hx4
    have HR4 := Lib.hid (HR3.out.keep ho4 (fun h => h) (fun h => h))
    have HB4 := Lib.hid (Below.trans HB3.out (ho4.below HB3.out.size (fun _ _ h => h)))
    clear hx4 ho4 HR3
    go_wp2_with fail
    refine (vnew_yes HR4.out a2 hback).mono ?_
    rintro e w5 ⟨r, rfl, hli, hx5, ho5⟩
    have HY5 := Lib.hid hx5
    have HX5 := Lib.hid (HX4.out.keep ho5 (fun h => h))
    have HR5 := Lib.hid (HR4.out.keep ho5 (fun h => h) (fun h => h))
    have HB5 := Lib.hid (Below.trans HB4.out (ho5.below HB4.out.size (fun _ _ h => h)))
    have HLI := Lib.hid hli
    clear hx5 ho5 HR4 HX4 hli
    generalize w3.heap.size = ga at *
    generalize w4.heap.size = gb at *
    generalize w1.heap.size = gk at *
    obtain ⟨s, hs⟩ : ∃ s, startOf l.length (1 + p0) a2 = s := ⟨_, rfl⟩
    rw [hs] at HX5 HLI
    have HST := Lib.hid (show s = max (l.length - (max a2 0).toNat) (l.length - (1 + p0)) from by rw [← hs]; rfl)
    clear hs
    obtain ⟨n, hn⟩ : ∃ n, l.length = n := ⟨_, rfl⟩
    obtain ⟨b, hb⟩ : ∃ b, l.length - (1 + p0) = b := ⟨_, rfl⟩
    have HBs := Lib.hid (fun W (hW : Ring W (gk + 1) gk (1 + p0) l) => base_ring hW)
    have HEs := Lib.hid (fun W (hW : Ring W (gk + 1) gk (1 + p0) l) => end_ring hW)
    rw [hb] at HBs HST
    rw [hn] at HEs HST
    go_wp2_with fail
    refine (HBs.out _ HR5.out).mono ?_
    rintro e w6 ⟨rfl, m6, hw6⟩
    have HX6 := Lib.hid (hw6 ▸ HX5.out.drewN m6)
    have HY6 := Lib.hid (hw6 ▸ HY5.out.drewN m6)
    have HR6 := Lib.hid (hw6 ▸ HR5.out.drewN m6)
    have HB6 := Lib.hid (hw6 ▸ below_drewN HB5.out m6)
    clear hw6 HX5 HY5 HR5 HB5
    have hbn : b ≤ n := by omega
    go_upto_if 36 with fail
    go_cut [10] (fun v wx => v = .int .i64 (s : Nat) ∧ ∃ m, wx = w6.drewN m)
    case first =>
      rcases (show a2 < 0 ∨ (0 ≤ a2 ∧ a2 < (n : Int) - b) ∨ (0 ≤ a2 ∧ (n : Int) - b ≤ a2) by omega) with h1 | ⟨h1, h2⟩ | ⟨h1, h2⟩
      · go_wp2_with fail
        refine (HEs.out _ HR6.out).mono ?_
        rintro e w7 ⟨rfl, rfl⟩
        go_wp2
        go_meet
        exact ⟨by have := HST.out; congr 1; omega, 0, rfl⟩
      · go_wp2_with fail
        refine (HEs.out _ HR6.out).mono ?_
        rintro e w7 ⟨rfl, rfl⟩
        go_wp2_with fail
        refine (HBs.out _ HR6.out).mono ?_
        rintro e w7 ⟨rfl, m7, rfl⟩
        go_wp2_with fail
        refine (HEs.out _ (HR6.out.drewN m7)).mono ?_
        rintro e w8 ⟨rfl, rfl⟩
        go_wp2
        go_meet
        exact ⟨by have := HST.out; congr 1; omega, m7, rfl⟩
      · go_wp2_with fail
        refine (HEs.out _ HR6.out).mono ?_
        rintro e w7 ⟨rfl, rfl⟩
        go_wp2_with fail
        refine (HBs.out _ HR6.out).mono ?_
        rintro e w7 ⟨rfl, m7, rfl⟩
        go_wp2
        go_meet
        exact ⟨by have := HST.out; congr 1; omega, m7, rfl⟩
    case rest =>
      obtain ⟨rfl, m7, hw7⟩ := hcut
      have HX7 := Lib.hid (hw7 ▸ HX6.out.drewN m7)
      have HY7 := Lib.hid (hw7 ▸ HY6.out.drewN m7)
      have HR7 := Lib.hid (hw7 ▸ HR6.out.drewN m7)
      have HB7 := Lib.hid (hw7 ▸ below_drewN HB6.out m7)
      clear hw7 HX6 HY6 HR6 HB6
      have hsr : s ≤ r ∧ r ≤ n := by
        obtain ⟨i1, i2, _⟩ := HLI.out
        have := HST.out
        rcases Nat.lt_or_ge r l.length with h | h
        · have := (i2 h).2.1
          omega
        · omega
      have hd1 : decide ((r : Int) < (s : Int)) = false := by simp; omega
      have hd2 : decide ((r : Int) > (n : Int)) = false := by simp; omega
      go_wp2_with fail
      refine (vat_any HY7.out).mono ?_
      rintro e w8 ⟨rfl, rfl⟩
      go_wp2_with fail
      refine (vat_any HX7.out).mono ?_
      rintro e w8 ⟨rfl, rfl⟩
      go_wp2_with fail
      refine (HEs.out _ HR7.out).mono ?_
      rintro e w8 ⟨rfl, rfl⟩
      by_cases hr0 : r = 0
      · have hd3 : ((r : Int) == 0) = true := by simp [hr0]
        go_wp2
        go_ret
        exact ⟨rfl, HB7.out⟩
      · have hd3 : ((r : Int) == 0) = false := by simp [hr0]
        by_cases hrn : r = n
        · have hd4 : ((r : Int) == (n : Int)) = true := by simp [hrn]
          go_wp2_with fail
          refine (HEs.out _ HR7.out).mono ?_
          rintro e w8 ⟨rfl, rfl⟩
          go_wp2
          go_ret
          exact ⟨rfl, HB7.out⟩
        · have hd4 : ((r : Int) == (n : Int)) = false := by simp; omega
          have hbeg : l[r - 1]? = some 10#8 := by
            rcases (HLI.out.2.1 (by omega)).2.2 with h | h
            · exact absurd h hr0
            · exact h.2
          obtain ⟨bb, off, rfl, hbb, hcell⟩ := (HL.out.below HB7.out).2 (by omega)
          have hcr := hcell (r - 1) (by omega)
          rw [hbeg] at hcr
          obtain ⟨q, hq⟩ : ∃ q, r = q + 1 := ⟨r - 1, by omega⟩
          subst hq
          rw [Nat.add_sub_cancel] at hcr
          have hqn : q < n := by omega
          clear hcell
          go_wp2_with fail
          refine (HEs.out _ HR7.out).mono ?_
          rintro e w8 ⟨rfl, rfl⟩
          go_wp2
          go_ret
          exact ⟨rfl, HB7.out⟩

set_option maxRecDepth 100000 in
theorem lifted (os : Os) (started : os.Started) (H : Type) (enc : TypeId × Value → H) :
    ReturnsInHanded {} Try.checked os 8 .any (Rows.viewLinesSpec.pre6 enc Try.prog Try.f8 Rows.viewLinesRow.domain false) (Rows.viewLinesSpec.post enc Try.prog Try.f8 false true false false) := by
  refine returnsInHanded_of_change_sized (C := Try.checked) own started (by kernel_rfl) Try.func8
    (ChangeSpec.witness6 (enc := enc) (C := Try.checked) false ⟨#[], #[.int .i64 0, .slice none 0 0, .int .i64 0], []⟩ 8 (by kernel_rfl) (by kernel_rfl) (by kernel_rfl) (by kernel_rfl)) ?_
  intro W base args ds gs before hval0 hW hcnd hsz0 _
  have hval : ∀ (j : Nat) t v, Try.f8.params[j]? = some t → args[j]? = some v → Value.okWide Try.prog W .any base t v := hval0
  have hW' := hW
  obtain ⟨p, q, hA0, hV, rfl, hfz, hnd⟩ := hW
  have hsz : (DataW.weightsEach Try.prog (Try.f8.params.toList ++ Rows.viewLinesSpec.plain.varTypes Try.prog) (ds ++ gs)).all (· ≤ reachBytes) = true := hsz0
  have hA : DataW.TrodAll enc Try.prog W 0 (fun _ => true) true Try.f8.params.toList args.toList ds p := hA0
  rw [Try.params8] at hA hval hsz
  obtain ⟨v0, vs0, d0, ds0, p0, q0, hargs, rfl, rfl, h0, r0⟩ := trodAll_cons hA
  obtain ⟨v1, vs1, d1, ds1, p1, q1, rfl, rfl, rfl, h1, r1⟩ := trodAll_cons r0
  obtain ⟨v2, vs2, d2, ds2, p2, q2, rfl, rfl, rfl, h2, r2⟩ := trodAll_cons r1
  obtain ⟨rfl, rfl, rfl⟩ := trodAll_nil r2
  obtain rfl : args = #[v0, v1, v2] := by cases args; simp_all
  obtain ⟨rfl, rfl⟩ := trodVars_none hV
  obtain ⟨a0, rfl, rfl, rfl, w0⟩ := open_int Try.underlying3 (hval 0 3 v0 rfl rfl) h0
  obtain ⟨a1, len1, cap1, rfl⟩ := okWide_slice Try.underlying24 (hval 1 24 v1 rfl rfl)
  have k1 := h1
  have lt1 : ∀ x ∈ p1, x.block < W.heap.size := by obtain ⟨m, hm⟩ := k1; exact DataW.trod_lt m _ _ _ hm
  obtain ⟨z1, w1⟩ : ∃ zs, IsRow .u8 W a1 len1 cap1 zs := by
    obtain ⟨fuel, hf⟩ := h1
    exact open_brow hf
  obtain ⟨a2, rfl, rfl, rfl, w2⟩ := open_int Try.underlying2 (hval 2 2 v2 rfl rfl) h2
  clear hA0 hval0 hsz hsz0
  refine (walk a0 a1 len1 cap1 z1 a2 W w0 w1 w2).mono fun e W' ⟨he, bel⟩ => ?_
  subst he
  exact ⟨_, rfl, _, _, _, [], _, [], hW', trodAll_mk1 (shut_bool Try.underlying4 _), (trodAll_cons_mk (shut_int Try.underlying3 w0) (trodAll_cons_mk (Below.trod laidOut (by kernel_rfl) (of_decide_eq_true (by kernel_rfl)) k1 bel lt1) (trodAll_cons_mk (shut_int Try.underlying2 w2) trodAll_mk0))), rfl, bel.frame _, fun h => by cases h⟩

theorem over : Rows.viewLinesRow.holds Try.pinned (OpenSpec.ofChange Rows.viewLinesSpec) :=
  OpenClaim.holds_of_wide 8 Try.f8 rfl rfl rfl rfl rfl rfl rfl ⟨rfl, rfl, rfl, rfl, rfl⟩ rfl rfl rfl rfl rfl (by kernel_rfl) Try.func8 (by kernel_rfl)
    (of_decide_eq_true (by kernel_rfl)) (by unfold Func.isWrapper; first | (rw [if_pos (by decide +kernel)]; kernel_rfl) | (rw [if_neg (by decide +kernel)]; exact ⟨rfl, rfl⟩))
    (fun os started H enc _ => lifted os started H enc)

end Go.Proofs.Ytanloclkbdameaa.viewLines
namespace Go.Proofs.Ytanloclkbdameaa
theorem viewLines_holds : Rows.ViewLinesSaid := viewLines.over
#print axioms viewLines_holds
end Go.Proofs.Ytanloclkbdameaa
