
/- Law 10's own model of a table: what its calls leave. -/
import Derived.Test.YtanloclkbdameaaFom
namespace Go.Proofs.Ytanloclkbdameaa
open Go.RowKit

section
variable {M : Nat → Prop} {g bm n c N : Nat} {a : Option Addr} {w w' : World} {s : Fl}

set_option maxRecDepth 100000 in
theorem mjoin_any (h : MdAt M g bm a n c w s) (hk : FOk N s) (hN : N ≤ 1000000) (id r : Int) (hid : wf64 id) (hr : wf64 r) :
    Calls Try.prog 15 #[.pointer (some ⟨g, 0, none⟩), .int .i64 id, .int .i64 r] w fun e w' => MdGives M g w (fjoin s id r) (.bool (joins s id r)) e w' := by
  have hc2 := h.bx.cell 2 (.map (some bm)) rfl
  have hlk := h.rm.look_ok hid
  have HH := Lib.hid h
  have hNo : joins s id r = false → MdGives M g w (fjoin s id r) (.bool (joins s id r)) (.returned (.bool false)) w := fun e => by
    have := h.gives (.bool false) (fun _ h => .inl h) (Only.refl M w)
    unfold fjoin
    rw [e, if_neg (by simp)]
    exact this
  have hYes : joins s id r = true → ∀ w2, Rm bm w2 (rput s.roles id r) → Only (fun k => k = bm) w w2 → MdGives M g w (fjoin s id r) (.bool (joins s id r)) (.returned (.bool true)) w2 := fun e w2 h2 h3 => by
    obtain ⟨z1, z2⟩ := h.reroles h2 h3
    have := z1.gives (.bool true) (fun _ h => .inl h) z2
    unfold fjoin
    rw [e, if_pos rfl]
    exact this
  obtain ⟨w2, hst, hR2, hO2⟩ := h.rm.store hid hr (by have := hk.rn; omega)
  have HN := Lib.hid hNo
  have HY := Lib.hid hYes
  have HR := Lib.hid hR2
  have HO := Lib.hid hO2
  clear hNo hYes hR2 hO2 h
  rcases hb : rhas s.roles id with _ | _
  all_goals rw [hb] at hlk
  · rcases (show id ≤ 0 ∨ (0 < id ∧ r < 0) ∨ (0 < id ∧ 0 ≤ r ∧ 2 < r) ∨ (0 < id ∧ 0 ≤ r ∧ r ≤ 2) by omega) with h1 | ⟨h1, h2⟩ | ⟨h1, h2, h3⟩ | ⟨h1, h2, h3⟩
    case inr.inr.inr =>
      have HZ := Lib.hid (HY.out (by unfold joins isRole; simp [hb]; omega) w2 HR.out HO.out)
      clear hb
      go_enter Try.func15, Try.ntmps15
      go_wp2
      go_ret
      exact HZ.out
    all_goals
      have HZ := Lib.hid (HN.out (by unfold joins isRole; simp [hb]; omega))
      clear hb
      go_enter Try.func15, Try.ntmps15
      go_wp2
      go_ret
      exact HZ.out
  · have HZ := Lib.hid (HN.out (by unfold joins; simp [hb]))
    clear hb
    go_enter Try.func15, Try.ntmps15
    go_wp2
    go_ret
    exact HZ.out

theorem fleave_eq (hk : FOk N s) (id : Int) : ({ fout s id with roles := rdel (fout s id).roles id } : Fl) = fleave s id := by
  unfold fleave
  rw [fout_roles]
  rcases hb : rhas s.roles id with _ | _
  · have hn : id ∉ s.line := fun hm => by have := (hk.mem id hm).1; rw [hb] at this; cases this
    have h0 : fout s id = s := by unfold fout; rw [if_neg hn]
    have h1 : rdel s.roles id = s.roles := rdel_none (by unfold rhas at hb; simpa using hb)
    rw [h0, h1, if_neg (by simp)]
  · rw [if_pos rfl]

theorem MdGives.then {M0 : Nat → Prop} {s3 : Fl} {v2 : Value} {e : Ending} {w0 : World} {M2 : Nat → Prop} (hM : ∀ b, M2 b → M0 b ∨ w0.heap.size ≤ b) (hO : Only M0 w0 w) (h : MdGives M2 g w s3 v2 e w') : MdGives M0 g w0 s3 v2 e w' := by
  obtain ⟨M3, rfl, h1, h2, h3⟩ := h
  refine ⟨M3, rfl, h1, fun b hb => ?_, hO.trans' h3 hM⟩
  rcases h2 b hb with h4 | h4
  · exact hM b h4
  · exact .inr (Nat.le_trans hO.size h4)

set_option maxRecDepth 100000 in
theorem mset_any (h : MdAt M g bm a n c w s) (hk : FOk N s) (hN : N ≤ 1000000) (id r : Int) (hid : wf64 id) (hr : wf64 r) :
    Calls Try.prog 17 #[.pointer (some ⟨g, 0, none⟩), .int .i64 id, .int .i64 r] w fun e w' => MdGives M g w (fset s id r) (.bool (sets s id r)) e w' := by
  have hc2 := h.bx.cell 2 (.map (some bm)) rfl
  have hlk := h.rm.look_ok hid
  have hn : n ≤ 1000000 := by have := hk.ln; rw [h.len] at this; omega
  have hNo : sets s id r = false → MdGives M g w (fset s id r) (.bool (sets s id r)) (.returned (.bool false)) w := fun e => by
    have := h.gives (.bool false) (fun _ h => .inl h) (Only.refl M w)
    unfold fset
    rw [e, if_neg (by simp)]
    exact this
  obtain ⟨w2, hst, hR2, hO2⟩ := h.rm.store hid hr (by have := hk.rn; omega)
  obtain ⟨z1, z2⟩ := h.reroles hR2 hO2
  have HN := Lib.hid hNo
  have HZ1 := Lib.hid (show MdAt M g bm a n c w2 (frole s id r) from z1)
  have HZ2 := Lib.hid z2
  clear hNo hR2 hO2 h z1 z2
  rcases hb : rhas s.roles id with _ | _
  all_goals rw [hb] at hlk
  · have HZ := Lib.hid (HN.out (by unfold sets; simp [hb]))
    clear hb
    go_enter Try.func17, Try.ntmps17
    go_wp2
    go_ret
    exact HZ.out
  · rcases (show r < 0 ∨ (0 ≤ r ∧ 2 < r) ∨ r = 0 ∨ (0 < r ∧ r ≤ 2) by omega) with h1 | ⟨h1, h2⟩ | h1 | ⟨h1, h2⟩
    · have HZ := Lib.hid (HN.out (by unfold sets isRole; simp [hb]; omega))
      clear hb
      go_enter Try.func17, Try.ntmps17
      go_wp2
      go_ret
      exact HZ.out
    · have HZ := Lib.hid (HN.out (by unfold sets isRole; simp [hb]; omega))
      clear hb
      go_enter Try.func17, Try.ntmps17
      go_wp2
      go_ret
      exact HZ.out
    · have hs : sets s id r = true := by unfold sets isRole; simp [hb]; omega
      have HE := Lib.hid (show fout (frole s id r) id = fset s id r from by unfold fset; rw [if_pos hs, if_pos h1])
      rw [hs]
      clear hs hb
      subst h1
      go_enter Try.func17, Try.ntmps17
      go_wp2_with fail
      refine (place_any HZ1.out hn id).mono ?_
      rintro e w1 ⟨rfl, rfl⟩
      go_wp2_with fail
      refine (out_any HZ1.out hn id).mono ?_
      intro e w3 hg
      rw [HE.out] at hg
      have hg2 := MdGives.then (fun _ h => .inl h) HZ2.out hg
      obtain ⟨M2, rfl, h2, hM, hO⟩ := hg2
      have HZ := Lib.hid (show MdGives M g w (fset s id 0) (.bool true) (.returned (.bool true)) w3 from ⟨M2, rfl, h2, hM, hO⟩)
      clear hg h2 hM hO
      go_wp2
      go_ret
      exact HZ.out
    · have hs : sets s id r = true := by unfold sets isRole; simp [hb]; omega
      have HZ := Lib.hid (show MdGives M g w (fset s id r) (.bool (sets s id r)) (.returned (.bool true)) w2 from by
        have := HZ1.out.gives (.bool true) (fun _ h => .inl h) HZ2.out
        unfold fset
        rw [if_pos hs, if_neg (by omega), hs]
        exact this)
      clear hs hb
      go_enter Try.func17, Try.ntmps17
      go_wp2
      go_ret
      exact HZ.out

theorem fplace_neg (s : Fl) (id : Int) : (id ∈ s.line → ∃ k : Nat, fplace s id = (k : Nat) ∧ k < s.line.length ∧ (k = 0 ↔ s.line.head? = some id)) ∧ (id ∉ s.line → fplace s id = -1) := by
  unfold fplace
  refine ⟨fun hm => ⟨_, if_pos hm, List.idxOf_lt_length_of_mem hm, ?_⟩, fun hm => if_neg hm⟩
  rcases hl : s.line with _ | ⟨x, t⟩
  · rw [hl] at hm; cases hm
  · rw [List.idxOf_cons, List.head?_cons]
    by_cases e : x = id
    · subst e; simp
    · have : (x == id) = false := by simpa using e
      simp [this, e]

set_option maxRecDepth 100000 in
theorem mask_any (h : MdAt M g bm a n c w s) (hk : FOk N s) (hN : N ≤ 1000000) (id : Int) (hid : wf64 id) :
    Calls Try.prog 19 #[.pointer (some ⟨g, 0, none⟩), .int .i64 id] w fun e w' => MdGives M g w (fask s id) (.int .i64 (askE s id)) e w' := by
  have hc2 := h.bx.cell 2 (.map (some bm)) rfl
  have hlk := h.rm.look_ok hid
  have hln := h.len
  have hn : n ≤ 1000000 := by have := hk.ln; rw [h.len] at this; omega
  have HH := Lib.hid h
  have hrl := hk.role_lt id
  have HNo := Lib.hid (show ∀ k : Int, askE s id = k → k ≠ 0 → MdGives M g w (fask s id) (.int .i64 k) (.returned (.int .i64 k)) w from fun k e hne => by
    have := h.gives (.int .i64 k) (fun _ h => .inl h) (Only.refl M w)
    unfold fask
    rw [e, if_neg hne]
    exact this)
  have h4 := h.bx.cell 4 (.slice a n c) rfl
  have hf4 := h.bx.free 4
  clear h hk
  rcases hb : rhas s.roles id with _ | _
  · have hE : askE s id = 2 := by unfold askE; rw [hb]; rfl
    have HZ := Lib.hid (HNo.out 2 hE (by decide))
    rw [hb] at hlk
    rw [hE]
    clear hb hE hrl
    generalize rrole s.roles id = r0 at hlk
    go_enter Try.func19, Try.ntmps19
    go_wp2
    go_ret
    exact HZ.out
  · rw [hb] at hlk
    by_cases h0 : rrole s.roles id = 0
    · have hE : askE s id = 4 := by unfold askE; rw [hb, if_pos rfl, if_pos h0]
      have HZ := Lib.hid (HNo.out 4 hE (by decide))
      rw [h0] at hlk
      rw [hE]
      clear hb hE hrl h0
      go_enter Try.func19, Try.ntmps19
      go_wp2
      go_ret
      exact HZ.out
    · by_cases hm : id ∈ s.line
      · have hE : askE s id = 3 := by unfold askE; rw [hb, if_pos rfl, if_neg h0, if_pos hm]
        have HZ := Lib.hid (HNo.out 3 hE (by decide))
        obtain ⟨k, hkp, hkl, _⟩ := (fplace_neg s id).1 hm
        have HP := Lib.hid hkp
        rw [hE]
        clear hb hE hm hkp hkl
        generalize rrole s.roles id = r0 at *
        have hd : (r0 == 0) = false := by simpa using h0
        go_enter Try.func19, Try.ntmps19
        go_wp2_with fail
        refine (place_any HH.out hn id).mono ?_
        rw [HP.out]
        rintro e w1 ⟨rfl, rfl⟩
        go_wp2
        go_ret
        exact HZ.out
      · have hE : askE s id = 0 := by unfold askE; rw [hb, if_pos rfl, if_neg h0, if_neg hm]
        have HP := Lib.hid ((fplace_neg s id).2 hm)
        have HF := Lib.hid (show ({ s with line := s.line ++ [id], left := if s.line.length = 0 then s.lease else s.left } : Fl) = fask s id from by unfold fask; rw [if_pos hE])
        rw [hE]
        clear hb hE hm
        generalize rrole s.roles id = r0 at *
        have hd : (r0 == 0) = false := by simpa using h0
        go_enter Try.func19, Try.ntmps19
        go_wp2_with fail
        refine (place_any HH.out hn id).mono ?_
        rw [HP.out]
        rintro e w1 ⟨rfl, rfl⟩
        go_upto_region 8 with fail
        have HV := Lib.hid (show Vals (w1.alloc (.cells #[.int .i64 id] 3)) (w1.heap.size + 1) (some ⟨w1.heap.size, 0, none⟩) 1 (ints [id]) from Vals.lit w1 (ints [id]) 3 (ints_one _) (0, 0) _ rfl)
        have HO := Lib.hid (show Only (fun _ => False) w1 (w1.alloc (.cells #[.int .i64 id] 3)) from (Only.refl _ _).alloc _)
        have HM := Lib.hid (HH.out.rw.only HO.out (fun _ _ h => h))
        have hgw : g < w1.heap.size := HH.out.lt _ HH.out.m1
        go_upto_region 9 with (first
          | (at_builtin
             (refine wpList_rw elem_int rfl (.tmp 31) (.tmp 33) rfl 0 rfl HM.out rfl HV.out (by omega) (Nat.zero_le _) ?_)
             intro A2 c3 w2 hm hO2 hp2
             have hO3 : Only (In a) w1 w2 := (HO.out.mono (fun _ _ h => h.elim)).trans hO2
             have h4 : w2.cell? ⟨g, 4, none⟩ = some (.slice a n c) := (hO3.cell (p := ⟨g, 4, none⟩) hgw HH.out.d2).trans h4
             have hf4 : w2.frozen? ⟨g, 4, none⟩ = false := (hO3.frozen (p := ⟨g, 4, none⟩) hgw HH.out.d2).trans hf4
             have HZ := Lib.hid (HH.out.relay (l2 := s.line ++ [id]) hO3 (by rw [ints_app]; exact hm) (fun b hb => (hp2 b hb).imp (fun h => h) (fun h => by simp at h; omega)))
             clear hm hO2 hp2 hO3)
          | fail)
        obtain ⟨z1, z2, z3⟩ := HZ.out
        clear HZ HM HO HV h4 hf4 hc2 hlk HNo hgw HP
        generalize w2.setCell ⟨g, 4, none⟩ (.slice A2 (n + 1) c3) = w3 at *
        have k0 := z1.bx.cell 0 (.int .i64 s.lease) rfl
        have k1 := z1.bx.cell 1 (.int .i64 s.left) rfl
        have k4 := z1.bx.cell 4 (.slice A2 (n + 1) c3) rfl
        have f1 := z1.bx.free 1
        rcases Nat.eq_zero_or_pos n with e0 | hp0
        · obtain ⟨y1, y2⟩ := z1.setl s.lease
          have e : ({ ({ s with line := s.line ++ [id] } : Fl) with left := s.lease } : Fl) = fask s id := by
            rw [← HF.out, if_pos (by omega)]
          have HZ := Lib.hid ((e ▸ y1).gives (.int .i64 0) z2 (z3.trans' y2 z2))
          clear z1 z2 z3 y1 y2 e HF
          subst e0
          go_wp2
          go_ret
          exact HZ.out
        · have e : ({ s with line := s.line ++ [id] } : Fl) = fask s id := by
            rw [← HF.out, if_neg (by omega)]
          have HZ := Lib.hid ((e ▸ z1).gives (.int .i64 0) z2 z3)
          clear z1 z2 z3 e HF
          go_wp2
          go_ret
          exact HZ.out

set_option maxRecDepth 100000 in
theorem mdrop_any (h : MdAt M g bm a n c w s) (hk : FOk N s) (hN : N ≤ 1000000) (id : Int) (hid : wf64 id) :
    Calls Try.prog 21 #[.pointer (some ⟨g, 0, none⟩), .int .i64 id] w fun e w' => MdGives M g w (fdrop s id) (.int .i64 (dropE s id)) e w' := by
  have hc2 := h.bx.cell 2 (.map (some bm)) rfl
  have hlk := h.rm.look_ok hid
  have hn : n ≤ 1000000 := by have := hk.ln; rw [h.len] at this; omega
  have HH := Lib.hid h
  have HNo := Lib.hid (show ∀ k : Int, dropE s id = k → k ≠ 0 → MdGives M g w (fdrop s id) (.int .i64 k) (.returned (.int .i64 k)) w from fun k e hne => by
    have := h.gives (.int .i64 k) (fun _ h => .inl h) (Only.refl M w)
    unfold fdrop
    rw [e, if_neg hne]
    exact this)
  clear h hk
  rcases hb : rhas s.roles id with _ | _
  · have hE : dropE s id = 2 := by unfold dropE; rw [hb]; rfl
    have HZ := Lib.hid (HNo.out 2 hE (by decide))
    rw [hb] at hlk
    rw [hE]
    clear hb hE
    generalize rrole s.roles id = r0 at hlk
    go_enter Try.func21, Try.ntmps21
    go_wp2
    go_ret
    exact HZ.out
  · rw [hb] at hlk
    by_cases hm : id ∈ s.line
    · have hE : dropE s id = 0 := by unfold dropE; rw [hb, if_pos rfl, if_pos hm]
      have HF := Lib.hid (show fout s id = fdrop s id from by unfold fdrop; rw [if_pos hE])
      obtain ⟨k, hkp, hkl, _⟩ := (fplace_neg s id).1 hm
      have HP := Lib.hid hkp
      rw [hE]
      clear hb hE hm hkl hkp
      generalize rrole s.roles id = r0 at hlk
      go_enter Try.func21, Try.ntmps21
      go_wp2_with fail
      refine (place_any HH.out hn id).mono ?_
      rw [HP.out]
      rintro e w1 ⟨rfl, rfl⟩
      go_wp2_with fail
      refine (place_any HH.out hn id).mono ?_
      rintro e w1 ⟨rfl, rfl⟩
      go_wp2_with fail
      refine (out_any HH.out hn id).mono ?_
      intro e w3 hg
      rw [HF.out] at hg
      obtain ⟨M2, rfl, h2, hM, hO⟩ := hg
      have HZ := Lib.hid (show MdGives M g w1 (fdrop s id) (.int .i64 0) (.returned (.int .i64 0)) w3 from ⟨M2, rfl, h2, hM, hO⟩)
      clear h2 hM hO
      go_wp2
      go_ret
      exact HZ.out
    · have hE : dropE s id = 3 := by unfold dropE; rw [hb, if_pos rfl, if_neg hm]
      have HZ := Lib.hid (HNo.out 3 hE (by decide))
      have HP := Lib.hid ((fplace_neg s id).2 hm)
      rw [hE]
      clear hb hE hm
      generalize rrole s.roles id = r0 at hlk
      go_enter Try.func21, Try.ntmps21
      go_wp2_with fail
      refine (place_any HH.out hn id).mono ?_
      rw [HP.out]
      rintro e w1 ⟨rfl, rfl⟩
      go_wp2
      go_ret
      exact HZ.out

theorem mhold_any (h : MdAt M g bm a n c w s) :
    Calls Try.prog 23 #[.pointer (some ⟨g, 0, none⟩)] w fun e w' => e = .returned (.int .i64 (fhold s)) ∧ w' = w := by
  have h4 := h.bx.cell 4 (.slice a n c) rfl
  have hln := h.len
  have HV := Lib.hid h.rw.vals
  clear h
  rcases Nat.eq_zero_or_pos n with e0 | hp0
  · have hF : fhold s = 0 := by unfold fhold; rw [List.eq_nil_of_length_eq_zero (hln.trans e0)]; rfl
    rw [hF]
    clear hln hF HV
    subst e0
    go_enter Try.func23, Try.ntmps23
    go_wp2
    go_ret
    exact ⟨rfl, rfl⟩
  · obtain ⟨b, off, rfl, _, hc⟩ := ints_at HV.out hp0
    have hc0 := hc 0 hp0
    have hF : fhold s = s.line.getD 0 0 := by
      unfold fhold
      rcases hl : s.line with _ | ⟨x, t⟩
      · rw [hl] at hln; simp at hln; omega
      · rfl
    rw [hF]
    clear hc hF hln HV
    generalize s.line.getD 0 0 = x at *
    rw [Nat.add_zero] at hc0
    go_enter Try.func23, Try.ntmps23
    go_wp2
    go_ret
    exact ⟨rfl, rfl⟩

/-- the line behind the first that aren't one, as the model builds it -/
def giveL (l : List Int) (id : Int) (k : Nat) : List Int := id :: ((l.take k).drop 1).filter fun x => decide (x ≠ id)

theorem giveL_step (l : List Int) (id : Int) (k : Nat) (hk : k < l.length) : giveL l id (k + 1) = giveL l id k ++ (if 0 < k ∧ l.getD k 0 ≠ id then [l.getD k 0] else []) := by
  unfold giveL
  have e : (l.take (k + 1)).drop 1 = (l.take k).drop 1 ++ (if 0 < k then [l.getD k 0] else []) := by
    rw [List.take_add_one, List.getElem?_eq_getElem hk, List.getD_eq_getElem?_getD, List.getElem?_eq_getElem hk]
    rcases Nat.eq_zero_or_pos k with rfl | hp
    · simp
    · rw [List.drop_append_of_le_length (by rw [List.length_take]; omega), if_pos hp]
      rfl
  rw [e, List.filter_append, List.cons_append]
  congr 2
  clear e
  generalize l.getD k 0 = x
  by_cases h1 : 0 < k
  · by_cases h2 : x = id
    · simp [h1, h2]
    · simp [h1, h2]
  · simp [h1]

theorem giveL_all (l : List Int) (id : Int) : giveL l id l.length = id :: (l.tail.filter fun x => decide (x ≠ id)) := by
  unfold giveL
  rw [List.take_length, List.drop_one]

theorem giveL_len (l : List Int) (id : Int) (k : Nat) : (giveL l id k).length ≤ k + 1 := by
  unfold giveL
  have := List.length_filter_le (fun x => decide (x ≠ id)) ((l.take k).drop 1)
  have h2 : ((l.take k).drop 1).length ≤ k := by rw [List.length_drop, List.length_take]; omega
  simp only [List.length_cons]
  omega

theorem new_md (lease : Int) (w : World) (L : Int) (hL : ((fnew lease).lease : Int) = L) :
    Md (fun b => b = w.heap.size + 1 ∨ b = w.heap.size) (w.heap.size + 1) ((w.alloc (.map #[] 0)).alloc (.cells #[.int .i64 L, .int .i64 0, .map (some w.heap.size), .bool false, .slice none 0 0] 47)) (fnew lease) := by
  subst hL
  have hO : Only (fun _ => False) (w.alloc (.map #[] 0)) ((w.alloc (.map #[] 0)).alloc (.cells #[.int .i64 (fnew lease).lease, .int .i64 0, .map (some w.heap.size), .bool false, .slice none 0 0] 47)) := (Only.refl _ _).alloc _
  refine ⟨w.heap.size, none, 0, 0, Bx.new _ _ (by simp) _ _, (Rm.made w _ rfl).keep hO (fun h => h), Rw.nil 0 _, by omega, ?_, ?_, .inl rfl, .inr rfl, ?_, ?_⟩
  · rintro ⟨p, hp, _⟩; cases hp
  · rintro ⟨p, hp, _⟩; cases hp
  · rintro b ⟨p, hp, _⟩; cases hp
  · rintro b (rfl | rfl) <;> simp <;> omega

theorem mnew_any (lease : Int) (w : World) :
    Calls Try.prog 11 #[.int .i64 lease] w fun e w' => ∃ M g, e = .returned (.pointer (some ⟨g, 0, none⟩)) ∧ Md M g w' (fnew lease) ∧ (∀ b, M b → w.heap.size ≤ b) ∧ Below w.heap.size w w' := by
  have hmm := @run_makeMap Try.prog
  have HX := Lib.hid (show ((fnew lease).lease : Int) = min (max lease 1) 1000 from by show ((min (max lease 1) 1000).toNat : Int) = _; omega)
  have HB := Lib.hid (show ∀ o1 o2, Below w.heap.size w ((w.alloc o1).alloc o2) from fun o1 o2 => ((Below.refl _ _).alloc (Nat.le_refl _) _).alloc (by simp) _)
  have HN := Lib.hid (new_md lease w)
  rcases (show lease < 1 ∨ (1 ≤ lease ∧ 1000 < lease) ∨ (1 ≤ lease ∧ lease ≤ 1000) by omega) with h | ⟨h, h'⟩ | ⟨h, h'⟩
  · go_enter Try.func11, Try.ntmps11
    go_wp2
    go_ret
    exact ⟨_, _, rfl, HN.out 1 (by rw [HX.out]; omega), by rintro b (rfl | rfl) <;> omega, HB.out _ _⟩
  · go_enter Try.func11, Try.ntmps11
    go_wp2
    go_ret
    exact ⟨_, _, rfl, HN.out 1000 (by rw [HX.out]; omega), by rintro b (rfl | rfl) <;> omega, HB.out _ _⟩
  · go_enter Try.func11, Try.ntmps11
    go_wp2
    go_ret
    exact ⟨_, _, rfl, HN.out lease (by rw [HX.out]; omega), by rintro b (rfl | rfl) <;> omega, HB.out _ _⟩
end

end Go.Proofs.Ytanloclkbdameaa
