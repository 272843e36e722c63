/- MsgApart: for every input the law answers true, and its arguments read as before. Conditions: none. -/
import Derived.Test.YtbnpamhmippdbaaMsgz
import Derived.Test.YtbnpamhmippdbaaInsm
namespace Go.Proofs.Ytbnpamhmippdbaa.msgApart
open Go.ChangeShapes Go.WideShapes Go.ChangeAt Go.RowKit
open Fr Ms

set_option maxHeartbeats 4000000 in
theorem walk (k_0 x0 y0 : Int) (t0 : Bs) (k_1 x1 y1 : Int) (t1 : Bs) (w : World) (w0 : (Lit.int .i64 k_0).wf = true ∧ (Lit.int .i64 x0).wf = true ∧ (Lit.int .i64 y0).wf = true ∧ t0.length ≤ maxLen) (w1 : (Lit.int .i64 k_1).wf = true ∧ (Lit.int .i64 x1).wf = true ∧ (Lit.int .i64 y1).wf = true ∧ t1.length ≤ maxLen) :
    Calls Try.prog 5 #[.agg #[.int .i64 k_0, .int .i64 x0, .int .i64 y0, .string (str t0)], .agg #[.int .i64 k_1, .int .i64 x1, .int .i64 y1, .string (str t1)]] w fun e w' => e = .returned (.bool true) ∧ Below w.heap.size w w' := by
  have hl0 := w0.2.2.2
  have hl1 := w1.2.2.2
  clear hl0 hl1 w0 w1
  have HHD := Lib.hid (head_any (((w.alloc (.cells #[.int .i64 k_0, .int .i64 x0, .int .i64 y0, .string (str t0)] 24)).alloc (.cells #[.int .i64 k_1, .int .i64 x1, .int .i64 y1, .string (str t1)] 24))))
  go_enter Try.func5, Try.ntmps5
  go_wp2_with fail
  have hx := (Bx.new w _ rfl #[.int .i64 k_0, .int .i64 x0, .int .i64 y0, .string (str t0)] 24).go ((Below.refl _ _).alloc (Nat.le_refl _) (.cells #[.int .i64 k_1, .int .i64 x1, .int .i64 y1, .string (str t1)] 24)) (by simp)
  have hs1 : (w.alloc (.cells #[.int .i64 k_0, .int .i64 x0, .int .i64 y0, .string (str t0)] 24)).heap.size = w.heap.size + 1 := by simp
  have hy := Bx.new _ _ hs1 #[.int .i64 k_1, .int .i64 x1, .int .i64 y1, .string (str t1)] 24
  have hb : Below w.heap.size w ((w.alloc (.cells #[.int .i64 k_0, .int .i64 x0, .int .i64 y0, .string (str t0)] 24)).alloc (.cells #[.int .i64 k_1, .int .i64 x1, .int .i64 y1, .string (str t1)] 24)) := ((Below.refl _ _).alloc (Nat.le_refl _) _).alloc (by simp) _
  generalize (w.alloc (.cells #[.int .i64 k_0, .int .i64 x0, .int .i64 y0, .string (str t0)] 24)).alloc (.cells #[.int .i64 k_1, .int .i64 x1, .int .i64 y1, .string (str t1)] 24) = W at *
  generalize hg : w.heap.size = g at *
  have HG := Lib.hid hg
  clear hg hs1
  refine HHD.out.mono ?_
  rintro e w1 ⟨rfl, hb1⟩
  have hz0 := hy.room
  have HX1 := Lib.hid (hx.go hb1 (by omega))
  have HY1 := Lib.hid (hy.go hb1 (by omega))
  have HB1 := Lib.hid (Below.trans hb (hb1.mono (by omega)))
  clear hx hy hb hb1 hz0 HHD
  have hz1 := HY1.out.room
  have c0 : w1.cell? ⟨g, 0, none⟩ = some (.int .i64 k_0) := HX1.out.cell 0 _ rfl
  have c1 : w1.cell? ⟨g, 1, none⟩ = some (.int .i64 x0) := HX1.out.cell 1 _ rfl
  have c2 : w1.cell? ⟨g, 2, none⟩ = some (.int .i64 y0) := HX1.out.cell 2 _ rfl
  have c3 : w1.cell? ⟨g, 3, none⟩ = some (.string (str t0)) := HX1.out.cell 3 _ rfl
  go_wp2_with fail
  refine (lright_any k_0 x0 y0 (str t0) _).mono ?_
  rintro e w2 ⟨rfl, hb2⟩
  rw [str_size]
  have HX2 := Lib.hid (HX1.out.go hb2 (by omega))
  have HY2 := Lib.hid (HY1.out.go hb2 (by omega))
  have HB2 := Lib.hid (Below.trans HB1.out (hb2.mono (by omega)))
  clear HX1 HY1 HB1 hb2 hz1 c0 c1 c2 c3
  have hz2 := HY2.out.room
  cases hr0 : rt k_0 x0 y0 t0.length
  · clear hr0
    go_wp2
    go_ret
    have hg := HG.out
    subst hg
    exact ⟨rfl, HB2.out⟩
  have HR0 := Lib.hid hr0
  clear hr0
  have c0 : w2.cell? ⟨g + 1, 0, none⟩ = some (.int .i64 k_1) := HY2.out.cell 0 _ rfl
  have c1 : w2.cell? ⟨g + 1, 1, none⟩ = some (.int .i64 x1) := HY2.out.cell 1 _ rfl
  have c2 : w2.cell? ⟨g + 1, 2, none⟩ = some (.int .i64 y1) := HY2.out.cell 2 _ rfl
  have c3 : w2.cell? ⟨g + 1, 3, none⟩ = some (.string (str t1)) := HY2.out.cell 3 _ rfl
  go_wp2_with fail
  refine (lright_any k_1 x1 y1 (str t1) _).mono ?_
  rintro e w3 ⟨rfl, hb3⟩
  rw [str_size]
  have HX3 := Lib.hid (HX2.out.go hb3 (by omega))
  have HY3 := Lib.hid (HY2.out.go hb3 (by omega))
  have HB3 := Lib.hid (Below.trans HB2.out (hb3.mono (by omega)))
  clear HX2 HY2 HB2 hb3 hz2 c0 c1 c2 c3
  have hz3 := HY3.out.room
  cases hr1 : rt k_1 x1 y1 t1.length
  · clear hr1
    go_wp2
    go_ret
    have hg := HG.out
    subst hg
    exact ⟨rfl, HB3.out⟩
  have HR1 := Lib.hid hr1
  clear hr1
  have c0 : w3.cell? ⟨g, 3, none⟩ = some (.string (str t0)) := HX3.out.cell 3 _ rfl
  have c1 : w3.cell? ⟨g + 1, 3, none⟩ = some (.string (str t1)) := HY3.out.cell 3 _ rfl
  have hs0 := str_size t0
  have hs1 := str_size t1
  by_cases h0 : 300 < t0.length
  · go_wp2
    go_ret
    have hg := HG.out
    subst hg
    exact ⟨rfl, HB3.out⟩
  by_cases h1 : 300 < t1.length
  · go_wp2
    go_ret
    have hg := HG.out
    subst hg
    exact ⟨rfl, HB3.out⟩
  have d0 : w3.cell? ⟨g, 0, none⟩ = some (.int .i64 k_0) := HX3.out.cell 0 _ rfl
  have d1 : w3.cell? ⟨g, 1, none⟩ = some (.int .i64 x0) := HX3.out.cell 1 _ rfl
  have d2 : w3.cell? ⟨g, 2, none⟩ = some (.int .i64 y0) := HX3.out.cell 2 _ rfl
  go_wp2_with fail
  have hm0 : 6 * nu k_0 + t0.length ≤ 2048 := by have h := body_le HR0.out; rwa [body_len] at h
  have hm1 : 6 * nu k_1 + t1.length ≤ 2048 := by have h := body_le HR1.out; rwa [body_len] at h
  obtain ⟨N0, hN0⟩ : ∃ N, 0 + (6 * nu k_0 + t0.length) + 5 = N := ⟨_, rfl⟩
  obtain ⟨N1, hN1⟩ : ∃ N, 0 + (6 * nu k_1 + t1.length) + 5 = N := ⟨_, rfl⟩
  refine (mput_yes none 0 0 0 [] k_0 x0 y0 t0 N0 _ hN0 rfl w3 HR0.out (Bytes.nil _) (Nat.zero_le _) (by omega)).mono ?_
  rintro e w4 ⟨A4, C4, rfl, ho4, hb4⟩
  rw [List.nil_append] at ho4
  have HO4 := Lib.hid ho4.bytes
  have hcap4 := ho4.cap
  have HX4 := Lib.hid (HX3.out.go hb4 (by omega))
  have HY4 := Lib.hid (HY3.out.go hb4 (by omega))
  have HB4 := Lib.hid (Below.trans HB3.out (hb4.mono (by omega)))
  clear HX3 HY3 HB3 hb4 hz3 c0 c1 d0 d1 d2 ho4
  have hz4 := HY4.out.room
  have d0 : w4.cell? ⟨g + 1, 0, none⟩ = some (.int .i64 k_1) := HY4.out.cell 0 _ rfl
  have d1 : w4.cell? ⟨g + 1, 1, none⟩ = some (.int .i64 x1) := HY4.out.cell 1 _ rfl
  have d2 : w4.cell? ⟨g + 1, 2, none⟩ = some (.int .i64 y1) := HY4.out.cell 2 _ rfl
  have d3 : w4.cell? ⟨g + 1, 3, none⟩ = some (.string (str t1)) := HY4.out.cell 3 _ rfl
  go_wp2_with fail
  refine (mput_yes none 0 0 0 [] k_1 x1 y1 t1 N1 _ hN1 rfl w4 HR1.out (Bytes.nil _) (Nat.zero_le _) (by omega)).mono ?_
  rintro e w5 ⟨A5, C5, rfl, ho5, hb5⟩
  rw [List.nil_append] at ho5
  have HO5 := Lib.hid ho5.bytes
  have hcap5 := ho5.cap
  have HX5 := Lib.hid (HX4.out.go hb5 (by omega))
  have HY5 := Lib.hid (HY4.out.go hb5 (by omega))
  have HB5 := Lib.hid (Below.trans HB4.out (hb5.mono (by omega)))
  have HO45 := Lib.hid (HO4.out.below hb5)
  have hz45 := hb5.size
  clear HX4 HY4 HB4 hb5 hz4 d0 d1 d2 d3 ho5 HO4 hs0 hs1
  have hz5 := HY5.out.room
  have c0 : w5.cell? ⟨g, 0, none⟩ = some (.int .i64 k_0) := HX5.out.cell 0 _ rfl
  have c1 : w5.cell? ⟨g, 1, none⟩ = some (.int .i64 x0) := HX5.out.cell 1 _ rfl
  have c2 : w5.cell? ⟨g, 2, none⟩ = some (.int .i64 y0) := HX5.out.cell 2 _ rfl
  have c3 : w5.cell? ⟨g, 3, none⟩ = some (.string (str t0)) := HX5.out.cell 3 _ rfl
  have d0 : w5.cell? ⟨g + 1, 0, none⟩ = some (.int .i64 k_1) := HY5.out.cell 0 _ rfl
  have d1 : w5.cell? ⟨g + 1, 1, none⟩ = some (.int .i64 x1) := HY5.out.cell 1 _ rfl
  have d2 : w5.cell? ⟨g + 1, 2, none⟩ = some (.int .i64 y1) := HY5.out.cell 2 _ rfl
  have d3 : w5.cell? ⟨g + 1, 3, none⟩ = some (.string (str t1)) := HY5.out.cell 3 _ rfl
  have e0 := fun N => conv_str (cap := C4) (HO45.out.drewN N)
  have e1 := fun N => conv_str (cap := C5) (HO5.out.drewN N)
  have hbl0 : (body k_0 x0 y0 t0).length = 6 * nu k_0 + t0.length := body_len _ _ _ _
  have hbl1 : (body k_1 x1 y1 t1).length = 6 * nu k_1 + t1.length := body_len _ _ _ _
  have HAP := Lib.hid (fun n => apart HR0.out HR1.out n)
  obtain ⟨M, hM, hM'⟩ : ∃ M : Nat, M = min N0 N1 ∧ ((N1 < N0 ∧ M = N1) ∨ (¬ N1 < N0 ∧ M = N0)) := ⟨_, rfl, by omega⟩
  have hM0 : M ≤ N0 := by omega
  have hM1 : M ≤ N1 := by omega
  have HE2 := Lib.hid (fun N => conv_str (cap := C4) ((HO45.out.take hM0).drewN N))
  have HE3 := Lib.hid (fun N => conv_str (cap := C5) ((HO5.out.take hM1).drewN N))
  have hC0 : M ≤ C4 := by omega
  have hC1 : M ≤ C5 := by omega
  have hC0' : (M : Int) ≤ (C4 : Int) := by omega
  have hC1' : (M : Int) ≤ (C5 : Int) := by omega
  have HM : Hid (M = min ((body k_0 x0 y0 t0).length + 5) ((body k_1 x1 y1 t1).length + 5)) := Lib.hid (by rw [hbl0, hbl1]; omega)
  clear hbl0 hbl1 hN0 hN1 hm0 hm1
  have hne : ¬ (k_0 = k_1 ∧ x0 = x1 ∧ y0 = y1 ∧ t0 = t1) → fr (BitVec.ofInt 8 k_0) (body k_0 x0 y0 t0) ≠ fr (BitVec.ofInt 8 k_1) (body k_1 x1 y1 t1) ∧ (fr (BitVec.ofInt 8 k_0) (body k_0 x0 y0 t0)).take M ≠ (fr (BitVec.ofInt 8 k_1) (body k_1 x1 y1 t1)).take M :=
    fun hd => ⟨fun h => hd (HAP.out M HM.out (by rw [h])), fun h => hd (HAP.out M HM.out h)⟩
  have HNE := Lib.hid hne
  clear hne HAP
  generalize hF0 : fr (BitVec.ofInt 8 k_0) (body k_0 x0 y0 t0) = F0 at *
  generalize hF1 : fr (BitVec.ofInt 8 k_1) (body k_1 x1 y1 t1) = F1 at *
  have HF0 := Lib.hid hF0
  have HF1 := Lib.hid hF1
  clear hF0 hF1
  by_cases hsame : k_0 = k_1 ∧ x0 = x1 ∧ y0 = y1 ∧ t0 = t1
  · obtain ⟨rfl, rfl, rfl, rfl⟩ := hsame
    have h01 := HF0.out.symm.trans HF1.out
    subst h01
    clear HNE HE2 HE3
    go_wp2
    go_quiet (fail)
    clear hM' hM
    go_wp2
    all_goals
      go_quiet (fail)
      go_wp2
      go_ret
      have hg := HG.out
      subst hg
      exact ⟨rfl, below_drewN (below_drewN HB5.out _) _⟩
  · obtain ⟨hn1, hn2⟩ := HNE.out hsame
    have hq1 := str_ne hn1
    have hq2 := str_ne hn2
    clear HNE hn1 hn2
    by_cases hk : k_0 = k_1
    · subst hk
      by_cases hxx : x0 = x1
      · subst hxx
        by_cases hyy : y0 = y1
        · subst hyy
          have htt : t0 ≠ t1 := fun h => hsame ⟨rfl, rfl, rfl, h⟩
          have hqt := str_ne htt
          clear hsame htt
          go_wp2
          go_quiet (fail)
          clear e0 e1
          rcases hM' with ⟨hlt, rfl⟩ | ⟨hlt, rfl⟩
          all_goals
            have e2 := HE2.out
            have e3 := HE3.out
            clear hM
            go_wp2
            go_quiet (fail)
            go_wp2
            go_ret
            have hg := HG.out
            subst hg
            exact ⟨rfl, below_drewN (below_drewN HB5.out _) _⟩
        · have hqt : (y0 == y1) = false := by simpa using hyy
          clear hsame hyy
          go_wp2
          go_quiet (fail)
          clear e0 e1
          rcases hM' with ⟨hlt, rfl⟩ | ⟨hlt, rfl⟩
          all_goals
            have e2 := HE2.out
            have e3 := HE3.out
            clear hM
            go_wp2
            go_quiet (fail)
            go_wp2
            go_ret
            have hg := HG.out
            subst hg
            exact ⟨rfl, below_drewN (below_drewN HB5.out _) _⟩
      · have hqt : (x0 == x1) = false := by simpa using hxx
        clear hsame hxx
        go_wp2
        go_quiet (fail)
        clear e0 e1
        rcases hM' with ⟨hlt, rfl⟩ | ⟨hlt, rfl⟩
        all_goals
          have e2 := HE2.out
          have e3 := HE3.out
          clear hM
          go_wp2
          go_quiet (fail)
          go_wp2
          go_ret
          have hg := HG.out
          subst hg
          exact ⟨rfl, below_drewN (below_drewN HB5.out _) _⟩
    · have hqt : (k_0 == k_1) = false := by simpa using hk
      clear hsame hk
      go_wp2
      go_quiet (fail)
      clear e0 e1
      rcases hM' with ⟨hlt, rfl⟩ | ⟨hlt, rfl⟩
      all_goals
        have e2 := HE2.out
        have e3 := HE3.out
        clear hM
        go_wp2
        go_quiet (fail)
        go_wp2
        go_ret
        have hg := HG.out
        subst hg
        exact ⟨rfl, below_drewN (below_drewN HB5.out _) _⟩

set_option maxRecDepth 100000 in
theorem lifted (os : Os) (started : os.Started) (H : Type) (enc : TypeId × Value → H) :
    ReturnsInHanded {} Try.checked os 5 .any (Rows.msgApartSpec.pre6 enc Try.prog Try.f5 Rows.msgApartRow.domain false) (Rows.msgApartSpec.post enc Try.prog Try.f5 false true false false) := by
  refine returnsInHanded_of_change_sized (C := Try.checked) own started (by kernel_rfl) Try.func5
    (ChangeSpec.witness6 (enc := enc) (C := Try.checked) false ⟨#[], #[.agg #[.int .i64 0, .int .i64 0, .int .i64 0, .string ⟨#[]⟩], .agg #[.int .i64 0, .int .i64 0, .int .i64 0, .string ⟨#[]⟩]], []⟩ 8 (by kernel_rfl) (by kernel_rfl) (by kernel_rfl) (by kernel_rfl)) ?_
  intro W base args ds gs before hval0 hW hcnd hsz0 _
  have hval : ∀ (j : Nat) t v, Try.f5.params[j]? = some t → args[j]? = some v → Value.okWide Try.prog W .any base t v := hval0
  have hW' := hW
  obtain ⟨p, q, hA0, hV, rfl, hfz, hnd⟩ := hW
  have hsz : (DataW.weightsEach Try.prog (Try.f5.params.toList ++ Rows.msgApartSpec.plain.varTypes Try.prog) (ds ++ gs)).all (· ≤ reachBytes) = true := hsz0
  have hA : DataW.TrodAll enc Try.prog W 0 (fun _ => true) true Try.f5.params.toList args.toList ds p := hA0
  rw [Try.params5] at hA hval hsz
  obtain ⟨v0, vs0, d0, ds0, p0, q0, hargs, rfl, rfl, h0, r0⟩ := trodAll_cons hA
  obtain ⟨v1, vs1, d1, ds1, p1, q1, rfl, rfl, rfl, h1, r1⟩ := trodAll_cons r0
  obtain ⟨rfl, rfl, rfl⟩ := trodAll_nil r1
  obtain rfl : args = #[v0, v1] := by cases args; simp_all
  obtain ⟨rfl, rfl⟩ := trodVars_none hV
  have k0 := h0
  have lt0 : ∀ x ∈ p0, x.block < W.heap.size := by obtain ⟨m, hm⟩ := k0; exact DataW.trod_lt m _ _ _ hm
  obtain ⟨k_0, x0, y0, t0, rfl, w0⟩ := open_msg (hval 0 24 v0 rfl rfl) h0
  have k1 := h1
  have lt1 : ∀ x ∈ p1, x.block < W.heap.size := by obtain ⟨m, hm⟩ := k1; exact DataW.trod_lt m _ _ _ hm
  obtain ⟨k_1, x1, y1, t1, rfl, w1⟩ := open_msg (hval 1 24 v1 rfl rfl) h1
  clear hA0 hval0 hsz hsz0
  refine (walk k_0 x0 y0 t0 k_1 x1 y1 t1 W w0 w1).mono fun e W' ⟨he, bel⟩ => ?_
  subst he
  exact ⟨_, rfl, _, _, _, [], _, [], hW', trodAll_mk1 (shut_bool Try.underlying4 _), (trodAll_cons_mk (Below.trod laidOut (by kernel_rfl) (of_decide_eq_true (by kernel_rfl)) k0 bel lt0) (trodAll_cons_mk (Below.trod laidOut (by kernel_rfl) (of_decide_eq_true (by kernel_rfl)) k1 bel lt1) trodAll_mk0)), rfl, bel.frame _, fun h => by cases h⟩

theorem over : Rows.msgApartRow.holds Try.pinned (OpenSpec.ofChange Rows.msgApartSpec) :=
  OpenClaim.holds_of_wide 5 Try.f5 rfl rfl rfl rfl rfl rfl rfl ⟨rfl, rfl, rfl, rfl, rfl⟩ rfl rfl rfl rfl rfl (by kernel_rfl) Try.func5 (by kernel_rfl)
    (of_decide_eq_true (by kernel_rfl)) (by unfold Func.isWrapper; first | (rw [if_pos (by decide +kernel)]; kernel_rfl) | (rw [if_neg (by decide +kernel)]; exact ⟨rfl, rfl⟩))
    (fun os started H enc _ => lifted os started H enc)

end Go.Proofs.Ytbnpamhmippdbaa.msgApart
namespace Go.Proofs.Ytbnpamhmippdbaa
theorem msgApart_holds : Rows.MsgApartSaid := msgApart.over
#print axioms msgApart_holds
end Go.Proofs.Ytbnpamhmippdbaa
