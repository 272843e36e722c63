/- Law 10's Shows: a table that has what the model has is told to show it. -/
import Derived.Test.YtoohlingoklaaaaFoh
namespace Go.Proofs.Ytoohlingoklaaaa
open Go.RowKit

theorem tail_getD (l : List Int) (j : Nat) : l.tail.getD j 0 = l.getD (j + 1) 0 := by
  rcases l with _ | ⟨x, t⟩ <;> simp

theorem users_has {l : List (Int × Int)} (h : Rising l) (j : Nat) (hj : j < l.length) : rhas l ((l.map (·.1)).getD j 0) = true := by
  have hm : l[j] ∈ l := List.getElem_mem hj
  have e : (l.map (·.1)).getD j 0 = l[j].1 := by simp [List.getD_eq_getElem?_getD, List.getElem?_eq_getElem hj]
  rw [e]
  unfold rhas
  rw [rget_of_mem h (k := l[j].1) (v := l[j].2) hm]
  rfl

theorem users_lt {l : List (Int × Int)} (h : Rising l) (j : Nat) (hj : j + 1 < l.length) : (l.map (·.1)).getD j 0 < (l.map (·.1)).getD (j + 1) 0 := by
  have e : ∀ i, (hi : i < l.length) → (l.map (·.1)).getD i 0 = l[i].1 := fun i hi => by simp [List.getD_eq_getElem?_getD, List.getElem?_eq_getElem hi]
  rw [e j (by omega), e (j + 1) hj]
  exact List.pairwise_iff_getElem.1 h j (j + 1) (by omega) hj (by omega)

theorem users_wf {N : Nat} {s : Fl} (h : FOk N s) (j : Nat) (hj : j < s.roles.length) : wf64 ((s.roles.map (·.1)).getD j 0) := by
  have := h.ids _ (rhas_of_mem (users_has h.rising j hj))
  exact WalkArith.wf_i64 (by have h1 := this.1; have h2 := this.2.1; simp only at h1 h2; omega)

section
variable {base g gm N : Nat} {w0 w : World} {F M : Nat → Prop} {s : Fl}

set_option maxRecDepth 100000 in
set_option maxHeartbeats 1000000 in
theorem mshows_any (h : TM base w0 w F g s M gm s) (hk : FOk N s) (hN : N ≤ 100000) :
    Calls Try.prog 26 #[.pointer (some ⟨gm, 0, none⟩), .pointer (some ⟨g, 0, none⟩)] w fun e w' => e = .returned (.bool true) ∧ ∃ F2, TM base w0 w' F2 g s M gm s := by
  have H := Lib.hid h
  clear h
  go_enter Try.func26, Try.ntmps26
  go_wp2_with fail
  refine (tqueue_any H.out.tb.tab hk hN).mono ?_
  intro e w1 hg
  obtain ⟨F1, qa, qn, qc, rfl, h1, hO1, hf1, hq, hqc, hqf⟩ := H.out.lstep hg
  have H1 := Lib.hid h1
  clear hg h1 hO1 hf1 H
  go_wp2_with fail
  refine (tusers_any H1.out.tb.tab hk hN).mono ?_
  intro e w2 hg
  obtain ⟨F2, ua, un, uc, rfl, h2, hO2, hf2, hu, huc, huf⟩ := H1.out.lstep hg
  have HQ := Lib.hid (show Vals w2 w2.heap.size qa qn (ints s.line.tail) from (hq.only hO2 (Nat.le_refl _) (fun hn p hp hF => (hqf p.block hn ⟨p, hp, rfl⟩).2.1 hF)).more hO2.size)
  have HU := Lib.hid hu
  have hql : qn = s.line.tail.length := by rw [← hq.1, ints_len]
  have hul : un = s.roles.length := by rw [← hu.1, ints_len, List.length_map]
  have H2 := Lib.hid h2
  have HN := Lib.hid (And.intro hql hul)
  clear hg h2 hO2 hf2 hu huf hq hqf H1 hql hul
  obtain ⟨bm, la, n, c, hm⟩ := H2.out.md
  have c1 := hm.bx.cell 1 (.int .i64 s.left) rfl
  have c2 := hm.bx.cell 2 (.map (some bm)) rfl
  have c4 := hm.bx.cell 4 (.slice la n c) rfl
  have hln := hm.len
  have hnn : n ≤ 100000 := by have := hk.ln; omega
  have hqn : qn = n - 1 := by rw [HN.out.1, List.length_tail, hln]
  have hqn2 : qn ≤ 100000 := by omega
  have hun2 : un ≤ 100000 := by rw [HN.out.2]; exact Nat.le_trans hk.rn hN
  have hlu : un = s.roles.length := HN.out.2
  have HLN := Lib.hid hln
  have hlen : ∀ k ty, (Builtin.len_ #[47] ty #[.map (some bm)]).run Try.prog (w2.drewN k) = .ok (.int .i64 un) (w2.drewN k) := fun k ty => by rw [hlu]; exact (hm.rm.keep ((Only.refl (fun _ => False) w2).drewN k) (fun h => h)).len ty
  have HM := Lib.hid hm
  have HQN := Lib.hid hqn
  clear hm hlu hqn hln
  go_upto_region 3 with fail
  go_cut [54] (fun v wx => v = .bool false ∧ ∃ m, wx = w2.drewN m)
  case first =>
    rcases n with _ | k
    · obtain rfl : qn = 0 := HQN.out
      go_quiet (first
        | (go_at_call 28; exact Calls.quiet_of (thold_any (H2.out.drewN _).tb.tab hk))
        | (go_at_call 30; exact Calls.quiet_of (tleft_any (H2.out.drewN _).tb.tab hk))
        | (go_at_call 42; exact Calls.quiet_of_same (mhold_any (HM.out.drewN _))))
      go_wp2
      go_meet
      exact ⟨rfl, _, rfl⟩
    · obtain rfl : qn = k := HQN.out
      go_quiet (first
        | (go_at_call 28; exact Calls.quiet_of (thold_any (H2.out.drewN _).tb.tab hk))
        | (go_at_call 30; exact Calls.quiet_of (tleft_any (H2.out.drewN _).tb.tab hk))
        | (go_at_call 42; exact Calls.quiet_of_same (mhold_any (HM.out.drewN _))))
      go_wp2
      go_meet
      exact ⟨rfl, _, rfl⟩
  case rest =>
    obtain ⟨rfl, m, hw⟩ := hcut
    have HT := Lib.hid (hw ▸ H2.out.drewN m)
    have HQ3 := Lib.hid (show Vals wc w2.heap.size qa qn (ints s.line.tail) from hw ▸ HQ.out.below (below_drewN (Below.refl _ _) m))
    have HU3 := Lib.hid (show Vals wc w2.heap.size ua un (ints (s.roles.map (·.1))) from hw ▸ HU.out.below (below_drewN (Below.refl _ _) m))
    have c4 : wc.cell? ⟨gm, 4, none⟩ = some (.slice la n c) := by rw [hw]; exact c4
    have HL3 := Lib.hid (show Vals wc w2.heap.size la n (ints s.line) from hw ▸ HM.out.rw.vals.below (below_drewN (Below.refl _ _) m))
    clear hw H2 HQ HU HM hlen c1 c2
    go_wp2_with fail
    go_loopw [57] (fun i wx => ∃ k : Nat, k ≤ qn ∧ i = .int .i64 (k : Nat) ∧ wx = wc) (fun i _ => qn - (intOf i).toNat)
    case atStart => exact ⟨0, by omega, rfl, rfl⟩
    case round =>
      obtain ⟨k, hkq, rfl, rfl⟩ := hrel
      by_cases hlt : k < qn
      · obtain ⟨b, off, rfl, hbB, hc⟩ := ints_at HQ3.out (by omega)
        have hck := hc k hlt
        rw [tail_getD] at hck
        obtain ⟨b2, off2, rfl, hbB2, hc2⟩ := ints_at HL3.out (by have := HQN.out; omega)
        have hck2 := hc2 (k + 1) (by have := HQN.out; omega)
        have hkn : k + 1 < n := by have := HQN.out; omega
        clear hc hc2
        generalize s.line.getD (k + 1) 0 = x at *
        go_wp2
        go_roundw
        case rel => exact ⟨k + 1, by omega, by go_num, by first | rfl | trivial⟩
        case measure => simp [intOf]; omega
      · obtain rfl : k = qn := by omega
        clear HL3 HQ3 c4 HLN hqc hqn2 HQN hkq hlt
        have HUN := Lib.hid HN.out.2
        clear HN
        go_wp2_with fail
        go_loopw [75] (fun i wx => ∃ k : Nat, k ≤ un ∧ i = .int .i64 (k : Nat) ∧ TM base w0 wx F2 g s M gm s ∧ Vals wx w2.heap.size ua un (ints (s.roles.map (·.1)))) (fun i _ => un - (intOf i).toNat)
        case atStart => exact ⟨0, by omega, rfl, HT.out, HU3.out⟩
        case round =>
          obtain ⟨j, hju, rfl, ht, hu⟩ := hrel
          clear HT HU3
          have HT := Lib.hid ht
          have HU := Lib.hid hu
          clear ht hu
          by_cases hlt : j < un
          · obtain ⟨b, off, rfl, hbB, hc⟩ := ints_at HU.out (by omega)
            have hcj := hc j hlt
            have HW := Lib.hid (users_wf hk j (by have := HUN.out; omega))
            have HS := Lib.hid (users_has hk.rising j (by have := HUN.out; omega))
            rcases j with _ | i
            · rw [Nat.add_zero] at hcj
              clear hc
              obtain ⟨x, hx⟩ : ∃ x, (s.roles.map (·.1)).getD 0 0 = x := ⟨_, rfl⟩
              rw [hx] at hcj HW HS
              clear hx
              go_wp2_with fail
              refine (trole_any HT.out.tb.tab hk x HW.out).mono ?_
              rw [HS.out]
              rintro e w4 ⟨rfl, m4, hw4⟩
              have HT4 := Lib.hid (hw4 ▸ HT.out.drewN m4)
              have HU4 := Lib.hid (show Vals w4 w2.heap.size (some ⟨b, off, none⟩) un (ints (s.roles.map (·.1))) from hw4 ▸ HU.out.below (below_drewN (Below.refl _ _) m4))
              clear hw4 HT HU hcj
              obtain ⟨bm2, la2, n2, c2', hm2⟩ := HT4.out.md
              have c2 := hm2.bx.cell 2 (.map (some bm2)) rfl
              have hlk := hm2.rm.look_ok HW.out
              rw [HS.out] at hlk
              clear hm2
              generalize rrole s.roles x = r0 at *
              go_wp2
              go_roundw
              case rel => exact ⟨1, by omega, by go_num, HT4.out, HU4.out⟩
              case measure => simp [intOf]; omega
            · have hci := hc i (by omega)
              clear hc
              have HLT := Lib.hid (users_lt hk.rising i (by have := HUN.out; omega))
              obtain ⟨x, hx⟩ : ∃ x, (s.roles.map (·.1)).getD (i + 1) 0 = x := ⟨_, rfl⟩
              obtain ⟨y, hy⟩ : ∃ y, (s.roles.map (·.1)).getD i 0 = y := ⟨_, rfl⟩
              rw [hx] at hcj HW HS HLT
              rw [hy] at hci HLT
              clear hx hy
              have hyx : y < x := HLT.out
              clear HLT
              go_wp2_with fail
              refine (trole_any HT.out.tb.tab hk x HW.out).mono ?_
              rw [HS.out]
              rintro e w4 ⟨rfl, m4, hw4⟩
              have HT4 := Lib.hid (hw4 ▸ HT.out.drewN m4)
              have HU4 := Lib.hid (show Vals w4 w2.heap.size (some ⟨b, off, none⟩) un (ints (s.roles.map (·.1))) from hw4 ▸ HU.out.below (below_drewN (Below.refl _ _) m4))
              have hci : w4.cell? ⟨b, off + i, none⟩ = some (.int .i64 y) := by rw [hw4]; exact hci
              clear hw4 HT HU hcj
              obtain ⟨bm2, la2, n2, c2', hm2⟩ := HT4.out.md
              have c2 := hm2.bx.cell 2 (.map (some bm2)) rfl
              have hlk := hm2.rm.look_ok HW.out
              rw [HS.out] at hlk
              clear hm2
              generalize rrole s.roles x = r0 at *
              have hd : decide (x ≤ y) = false := by simp; omega
              go_wp2
              go_roundw
              case rel => exact ⟨i + 1 + 1, by omega, by go_num, HT4.out, HU4.out⟩
              case measure => simp [intOf]; omega
          · obtain rfl : j = un := by omega
            go_wp2
            go_ret
            exact ⟨rfl, _, HT.out⟩
end

end Go.Proofs.Ytoohlingoklaaaa
