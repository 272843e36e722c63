/- SpotPieces: for every input the law answers true, and its arguments read as before. Conditions: none. -/
import Derived.Test.YtfehlmoghibamaaSph
namespace Go.Proofs.Ytfehlmoghibamaa.spotPieces
open Go.ChangeShapes Go.WideShapes Go.ChangeAt Go.RowKit
open Sp

theorem only_low {B : Nat} {w w' : World} (h : Below B w w') {S : Nat → Prop} (hs : ∀ b, B ≤ b → S b) : Only S w w' :=
  ⟨h.os, h.tape, h.output, h.size, fun k hk hn => h.block k (by rcases Nat.lt_or_ge k B with h1 | h1; exact h1; exact absurd (hs k h1) hn)⟩

theorem own_keep {base n c g : Nat} {w w' : World} {a : Option Addr} {l : Bs} (h : Own base w a n c l) (ho : Only (fun b => b = g) w w') (hg : g < base) : Own base w' a n c l := by
  refine ⟨⟨h.row.1, ?_⟩, h.cap⟩
  rcases h.row.2 with h1 | ⟨b, cap, cur, h1, h2, h3, h4⟩
  · exact .inl h1
  · have hb : b < w.heap.size := by
      rcases Nat.lt_or_ge b w.heap.size with h | h
      · exact h
      · rw [Array.getElem?_eq_none h] at h3; cases h3
    exact .inr ⟨b, cap, cur, h1, h2, (ho.block b hb (by omega)).trans h3, h4⟩

set_option maxRecDepth 100000 in
theorem walk (a0 : Int) (a1 : Option Addr) (len1 cap1 : Nat) (A1 : Nat → Option Addr) (L1 C1 : Nat → Nat) (T1 : Nat → Bs) (w : World) (w0 : (Lit.int .i64 a0).wf = true) (w1 : Pcs w w.heap.size a1 len1 A1 L1 C1 T1) (g1 : len1 ≤ cap1 ∧ cap1 ≤ maxLen) :
    Calls Try.prog 6 #[.int .i64 a0, .slice a1 len1 cap1] w fun e w' => e = .returned (.bool true) ∧ Below w.heap.size w w' := by
  have HW0 := Lib.hid w1
  have HA0 := Lib.hid w0
  have hmax : len1 ≤ 9223372036854775807 := by have := g1.1; have := g1.2; unfold maxLen at this; omega
  clear w0 w1 g1 HA0
  go_enter Try.func6, Try.ntmps6
  go_wp2_with fail
  refine (head_any w).mono ?_
  rintro e w1 ⟨rfl, hb1⟩
  have HB1 := Lib.hid hb1
  clear hb1
  go_wp2_with fail
  refine (few_any a1 len1 cap1 w.heap.size A1 L1 C1 T1 w1 (HW0.out.below HB1.out) hmax).mono ?_
  rintro e w2 ⟨rfl, rfl⟩
  cases hf : fewP L1 len1
  · go_wp2
    go_ret
    exact ⟨rfl, HB1.out⟩
  have hf2 : len1 ≤ 100 ∧ totp L1 len1 ≤ 2000 := by
    unfold fewP at hf
    simpa using hf
  obtain ⟨hn100, ht2000⟩ := hf2
  clear hf
  go_wp2_with fail
  refine (snew_any a0 w1).mono ?_
  rintro e w2 ⟨g, rfl, hg, hs, hb2⟩
  have HB2 := Lib.hid (Below.trans HB1.out (hb2.mono HB1.out.size))
  have HS2 := Lib.hid hs
  have hgw : w.heap.size ≤ g := Nat.le_trans HB1.out.size hg
  clear hs hb2 HB1 hg
  go_wp2_with fail
  refine (snew_any a0 w2).mono ?_
  rintro e w3 ⟨gm, rfl, hgm0, hx3, hb3⟩
  have HS3 := Lib.hid (HS2.out.keep (only_below hb3 (fun _ => False)) (fun h => h))
  have HB3 := Lib.hid (Below.trans HB2.out (hb3.mono HB2.out.size))
  have HX3 := Lib.hid hx3
  have hgm : g < gm := Nat.lt_of_lt_of_le HS2.out.lt hgm0
  have hmz : gm < w3.heap.size := hx3.lt
  clear hb3 hx3 HS2 HB2
  have HO := Lib.hid (cols_ok a0)
  generalize cols a0 = W at *
  have hal : Below w3.heap.size w3 (w3.alloc (.cells #[] 5)) := (Below.refl _ _).alloc (Nat.le_refl _) _
  have HS4 := Lib.hid (HS3.out.keep (only_below hal (fun _ => False)) (fun h => h))
  have HX4 := Lib.hid (HX3.out.keep (only_below hal (fun _ => False)) (fun h => h))
  have HB4 := Lib.hid (Below.trans HB3.out (hal.mono HB3.out.size))
  have HO4 := Lib.hid (own_new w3 w3.heap.size (Nat.le_refl _))
  have hsz4 : w3.heap.size ≤ (w3.alloc (.cells #[] 5)).heap.size := hal.size
  have hwz : w.heap.size ≤ w3.heap.size := HB3.out.size
  clear hal HS3 HX3 HB3
  go_wp2_with fail
  generalize w3.alloc (.cells #[] 5) = w4 at *
  generalize w3.heap.size = z at *
  go_loopw [7, 26] (fun s7 i wr => ∃ (k : Nat) (A : Option Addr) (N c : Nat), k ≤ len1 ∧ i = .int .i64 k ∧ s7 = .slice A N c ∧ N = totp L1 k ∧ Own z wr A N c (catq T1 k) ∧ SpotIs g wr (nxts ⟨W, 0, 0, 0⟩ (catq T1 k)) ∧ SpotIs gm wr ⟨W, 0, 0, 0⟩ ∧ Below w.heap.size w wr ∧ z ≤ wr.heap.size) (fun _ i _ => len1 - (intOf i).toNat)
  case atStart => exact ⟨0, _, 0, 0, by omega, rfl, rfl, rfl, HO4.out, HS4.out, HX4.out, HB4.out, hsz4⟩
  case round =>
    obtain ⟨k, Ak, Nk, ck, hk, rfl, rfl, hN, hown, hs, hx, hb, hzr⟩ := hrel
    have HS := Lib.hid hs
    have HX := Lib.hid hx
    have HB := Lib.hid hb
    have HOW := Lib.hid hown
    have HN := Lib.hid hN
    have hcl : (catq T1 k).length = totp L1 k := catq_len T1 L1 k (fun r hr => (HW0.out.inner r (by omega)).1.1)
    have hNb : Nk ≤ 2000 := by have := totp_mono L1 hk; omega
    have HOK := Lib.hid (show Ok (nxts ⟨W, 0, 0, 0⟩ (catq T1 k)) Nk by have := Ok.nxts HO.out (catq T1 k); rwa [Nat.zero_add, hcl, ← hN] at this)
    clear hs hx hb hown hcl
    by_cases hlt : k < len1
    · obtain ⟨b, off, rfl, hbB, hc⟩ := (HW0.out.below HB.out).outer (by omega)
      have hc0 := hc k hlt
      have HIn := Lib.hid ((HW0.out.below HB.out).inner k hlt)
      have hL : Nk + L1 k ≤ 2000 := by
        have := totp_mono L1 (show k + 1 ≤ len1 by omega)
        rw [totp] at this
        omega
      have HCAT := Lib.hid (show nxts ⟨W, 0, 0, 0⟩ (catq T1 (k + 1)) = nxts (nxts ⟨W, 0, 0, 0⟩ (catq T1 k)) (T1 k) by rw [catq, nxts_app])
      have hsz : w.heap.size ≤ wr.heap.size := HB.out.size
      clear hc hN
      go_wp2_with fail
      refine (sput_any g _ Nk (A1 k) (L1 k) (C1 k) w.heap.size (T1 k) wr HS.out HOK.out (by omega) HIn.out.1 hsz (fun h0 p hp => by obtain ⟨b2, o2, e2, hlt2, _⟩ := HIn.out.1.2 h0; rw [hp] at e2; injection e2 with e2; subst e2; simp; omega)).mono ?_
      rintro e w5 ⟨rfl, ho5, hs5⟩
      have HS5 := Lib.hid hs5
      have HX5 := Lib.hid (HX.out.keep ho5 (by omega))
      have HB5 := Lib.hid (below_only HB.out ho5 hgw)
      have HI5 := Lib.hid (((HW0.out.below HB5.out).inner k hlt).1)
      have HOW5 := Lib.hid (own_keep HOW.out ho5 (by omega))
      have hz5 : z ≤ w5.heap.size := Nat.le_trans hzr ho5.size
      clear hs5 ho5 hc0
      go_wp2_with (first
        | (at_builtin
           refine wpList_put rfl (.tmp 33) (.tmp 34) rfl z Ak Nk ck (catq T1 k) rfl HOW5.out w.heap.size (A1 k) (L1 k) (C1 k) (T1 k) rfl HI5.out (by omega) hz5 ?_
           intro A6 c6 w6 hown6 hbel6
           have HOW6 := Lib.hid hown6
           have HS6 := Lib.hid (HS5.out.keep (only_low hbel6 (S := fun b => z ≤ b) (fun _ h => h)) (by omega))
           have HX6 := Lib.hid (HX5.out.keep (only_low hbel6 (S := fun b => z ≤ b) (fun _ h => h)) (by omega))
           have HB6 := Lib.hid (Below.trans HB5.out (hbel6.mono hwz))
           have hz6 : z ≤ w6.heap.size := Nat.le_trans hz5 hbel6.size
           clear hown6 hbel6))
      go_roundw
      case rel => exact ⟨k + 1, A6, Nk + L1 k, c6, by omega, by go_num, rfl, by rw [totp, ← HN.out], HOW6.out, by rw [HCAT.out]; exact HS6.out, HX6.out, HB6.out, hz6⟩
      case measure => simp [intOf]; omega
    · obtain rfl : k = len1 := by omega
      have hne : 0 < Nk → ∀ p, Ak = some p → ¬ p.block = gm := by
        intro h0 p hp
        obtain ⟨q, e2, hq1, hq2⟩ := HOW.out.form h0
        rw [hp] at e2
        injection e2 with e2
        subst e2
        simp
        omega
      clear hN
      go_wp2_with fail
      refine (sput_any gm ⟨W, 0, 0, 0⟩ 0 Ak Nk ck wr.heap.size (catq T1 k) wr HX.out HO.out (by omega) HOW.out.bytes (Nat.le_refl _) hne).mono ?_
      rintro e w5 ⟨rfl, ho5, hs5⟩
      have HX5 := Lib.hid hs5
      have HS5 := Lib.hid (HS.out.keep ho5 (by omega))
      have HB5 := Lib.hid (below_only HB.out ho5 (by omega))
      clear hs5 ho5
      generalize nxts ⟨W, 0, 0, 0⟩ (catq T1 k) = s at *
      go_wp2_with fail
      refine (sat_any g s Nk _ HS5.out HOK.out (by omega)).mono ?_
      rintro e w7 ⟨rfl, hb7⟩
      have HX7 := Lib.hid (HX5.out.keep (only_below hb7 (fun _ => False)) (fun h => h))
      have HB7 := Lib.hid (Below.trans HB5.out (hb7.mono HB5.out.size))
      clear hb7
      go_wp2_with fail
      refine (sat_any gm s Nk _ HX7.out HOK.out (by omega)).mono ?_
      rintro e w8 ⟨rfl, hb8⟩
      have HB8 := Lib.hid (Below.trans HB7.out (hb8.mono HB7.out.size))
      clear hb8
      go_wp2
      go_ret
      exact ⟨rfl, HB8.out⟩

set_option maxRecDepth 100000 in
theorem lifted (os : Os) (started : os.Started) (H : Type) (enc : TypeId × Value → H) :
    ReturnsInHanded {} Try.checked os 6 .any (Rows.spotPiecesSpec.pre6 enc Try.prog Try.f6 Rows.spotPiecesRow.domain false) (Rows.spotPiecesSpec.post enc Try.prog Try.f6 false true false false) := by
  refine returnsInHanded_of_change_sized (C := Try.checked) own started (by kernel_rfl) Try.func6
    (ChangeSpec.witness6 (enc := enc) (C := Try.checked) false ⟨#[], #[.int .i64 0, .slice none 0 0], []⟩ 8 (by kernel_rfl) (by kernel_rfl) (by kernel_rfl) (by kernel_rfl)) ?_
  intro W base args ds gs before hval0 hW hcnd hsz0 _
  have hval : ∀ (j : Nat) t v, Try.f6.params[j]? = some t → args[j]? = some v → Value.okWide Try.prog W .any base t v := hval0
  have hW' := hW
  obtain ⟨p, q, hA0, hV, rfl, hfz, hnd⟩ := hW
  have hsz : (DataW.weightsEach Try.prog (Try.f6.params.toList ++ Rows.spotPiecesSpec.plain.varTypes Try.prog) (ds ++ gs)).all (· ≤ reachBytes) = true := hsz0
  have hA : DataW.TrodAll enc Try.prog W 0 (fun _ => true) true Try.f6.params.toList args.toList ds p := hA0
  rw [Try.params6] at hA hval hsz
  obtain ⟨v0, vs0, d0, ds0, p0, q0, hargs, rfl, rfl, h0, r0⟩ := trodAll_cons hA
  obtain ⟨v1, vs1, d1, ds1, p1, q1, rfl, rfl, rfl, h1, r1⟩ := trodAll_cons r0
  obtain ⟨rfl, rfl, rfl⟩ := trodAll_nil r1
  obtain rfl : args = #[v0, v1] := by cases args; simp_all
  obtain ⟨rfl, rfl⟩ := trodVars_none hV
  obtain ⟨a0, rfl, rfl, rfl, w0⟩ := open_int Try.underlying3 (hval 0 3 v0 rfl rfl) h0
  obtain ⟨a1, len1, cap1, rfl⟩ := okWide_slice Try.underlying22 (hval 1 22 v1 rfl rfl)
  have k1 := h1
  have lt1 : ∀ x ∈ p1, x.block < W.heap.size := by obtain ⟨m, hm⟩ := k1; exact DataW.trod_lt m _ _ _ hm
  obtain ⟨A1, L1, C1, T1, w1, g1⟩ : ∃ A L C T, Pcs W W.heap.size a1 len1 A L C T ∧ len1 ≤ cap1 ∧ cap1 ≤ maxLen := by
    obtain ⟨fuel, hf⟩ := h1
    exact open_pcs hf (fits_of hsz (j := 1) rfl rfl)
  clear hA0 hval0 hsz hsz0
  refine (walk a0 a1 len1 cap1 A1 L1 C1 T1 W w0 w1 g1).mono fun e W' ⟨he, bel⟩ => ?_
  subst he
  exact ⟨_, rfl, _, _, _, [], _, [], hW', trodAll_mk1 (shut_bool Try.underlying4 _), (trodAll_cons_mk (shut_int Try.underlying3 w0) (trodAll_cons_mk (Below.trod laidOut (by kernel_rfl) (of_decide_eq_true (by kernel_rfl)) k1 bel lt1) trodAll_mk0)), rfl, bel.frame _, fun h => by cases h⟩

theorem over : Rows.spotPiecesRow.holds Try.pinned (OpenSpec.ofChange Rows.spotPiecesSpec) :=
  OpenClaim.holds_of_wide 6 Try.f6 rfl rfl rfl rfl rfl rfl rfl ⟨rfl, rfl, rfl, rfl, rfl⟩ rfl rfl rfl rfl rfl (by kernel_rfl) Try.func6 (by kernel_rfl)
    (of_decide_eq_true (by kernel_rfl)) (by unfold Func.isWrapper; first | (rw [if_pos (by decide +kernel)]; kernel_rfl) | (rw [if_neg (by decide +kernel)]; exact ⟨rfl, rfl⟩))
    (fun os started H enc _ => lifted os started H enc)

end Go.Proofs.Ytfehlmoghibamaa.spotPieces
namespace Go.Proofs.Ytfehlmoghibamaa
theorem spotPieces_holds : Rows.SpotPiecesSaid := spotPieces.over
#print axioms spotPieces_holds
end Go.Proofs.Ytfehlmoghibamaa
