
/- The program's own table: the floor is granted, passes, is lost. -/
import Derived.Test.YtanloclkbdameaaFox
namespace Go.Proofs.Ytanloclkbdameaa
open Go.RowKit

section
variable {F : Nat → Prop} {g n c N : Nat} {om : Option Nat} {a : Option Addr} {w w' : World} {t : Ta}

theorem without_len (l : List Int) (id : Int) : (without l id).length ≤ l.length := List.length_filter_le _ _

theorem grant_any (h : TaAt F g om a n c w t) (hn : n ≤ 1000000) (id : Int) :
    Calls Try.prog 46 #[.pointer (some ⟨g, 0, none⟩), .int .i64 id] w fun e w' => TaGives F g w (tgrant t id) (.tuple #[]) e w' := by
  have hS := stop_any h hn id
  clear h
  go_enter Try.func46, Try.ntmps46
  go_wp2_with fail
  refine hS.mono ?_
  rintro e w2 ⟨F2, rfl, ⟨om2, a2, n2, c2, h2⟩, hF2, hO2⟩
  obtain ⟨y1, y2⟩ := h2.sethold id
  obtain ⟨x1, x2⟩ := y1.setleft t.lease
  have HZ := Lib.hid (show TaGives F g w (tgrant t id) (.tuple #[]) (.returned (.tuple #[])) ((w2.setCell ⟨g, 1, none⟩ (.int .i64 id)).setCell ⟨g, 2, none⟩ (.int .i64 t.lease)) from x1.gives _ hF2 (hO2.trans' (y2.trans x2) hF2))
  have hL := lease_any h2
  have HD := Lib.hid (show ∀ m, TaAt F2 g om2 a2 n2 c2 (w2.drewN m) (tstop t id) from fun m => h2.drewN m)
  have c1 := h2.bx.cell 1 (.int .i64 t.hold) rfl
  have c2' := h2.bx.cell 2 (.int .i64 t.left) rfl
  have f1 := h2.bx.free 1
  have f2 := h2.bx.free 2
  clear h2 hF2 hO2 y1 y2 x1 x2 hS
  go_wp2_with fail
  refine hL.mono ?_
  rintro e w3 ⟨rfl, rfl⟩
  go_wp2
  exact bodyPost_ret (v := .tuple #[]) (by simp [results, Try.results46, go_sem]) rfl HZ.out

theorem pass_any (h : TaAt F g om a n c w t) (hn : n ≤ 1000000) :
    Calls Try.prog 59 #[.pointer (some ⟨g, 0, none⟩)] w fun e w' => TaGives F g w (tpass t) (.tuple #[]) e w' := by
  have hc3 := h.bx.cell 3 (.slice a n c) rfl
  have hl := h.len
  rcases Nat.eq_zero_or_pos n with rfl | hp
  · have e : t.waits = [] := List.eq_nil_of_length_eq_zero hl
    have hT : tpass t = { ({ t with hold := 0 } : Ta) with left := 0 } := by unfold tpass; rw [e]
    obtain ⟨y1, y2⟩ := h.sethold 0
    obtain ⟨x1, x2⟩ := y1.setleft 0
    have HZ := Lib.hid (show TaGives F g w (tpass t) (.tuple #[]) (.returned (.tuple #[])) ((w.setCell ⟨g, 1, none⟩ (.int .i64 0)).setCell ⟨g, 2, none⟩ (.int .i64 0)) from by
      rw [hT]
      exact x1.gives _ (fun _ h => .inl h) (y2.trans x2))
    have c1 := h.bx.cell 1 (.int .i64 t.hold) rfl
    have c2' := h.bx.cell 2 (.int .i64 t.left) rfl
    have f1 := h.bx.free 1
    have f2 := h.bx.free 2
    clear h y1 y2 x1 x2 hT e hl
    go_enter Try.func59, Try.ntmps59
    go_wp2
    exact bodyPost_ret (v := .tuple #[]) (by simp [results, Try.results59, go_sem]) rfl HZ.out
  · obtain ⟨b, off, rfl, _, hcell⟩ := ints_at h.rw.vals hp
    have hc0 := hcell 0 hp
    rw [Nat.add_zero] at hc0
    obtain ⟨x, r, e⟩ : ∃ x r, t.waits = x :: r := by
      rcases e : t.waits with _ | ⟨x, r⟩
      · rw [e] at hl; simp at hl; omega
      · exact ⟨x, r, rfl⟩
    have hT : tpass t = tgrant t x := by unfold tpass; rw [e]
    rw [e] at hc0
    simp only [List.getD_cons_zero] at hc0
    have hG := grant_any h hn x
    rw [← hT] at hG
    clear h hl hT e hcell
    go_enter Try.func59, Try.ntmps59
    go_wp2_with fail
    refine hG.mono ?_
    rintro e w2 ⟨F2, rfl, h2⟩
    have HZ := Lib.hid (show TaGives F g w (tpass t) (.tuple #[]) (.returned (.tuple #[])) w2 from ⟨F2, rfl, h2⟩)
    clear h2 hG
    go_wp2
    exact bodyPost_ret (v := .tuple #[]) (by simp [results, Try.results59, go_sem]) rfl HZ.out

theorem lose_any (h : TaAt F g om a n c w t) (hn : n ≤ 1000000) (id : Int) :
    Calls Try.prog 41 #[.pointer (some ⟨g, 0, none⟩), .int .i64 id] w fun e w' => TaGives F g w (tlose t id) (.tuple #[]) e w' := by
  have hS := stop_any h hn id
  have hl := h.len
  clear h
  go_enter Try.func41, Try.ntmps41
  go_wp2_with fail
  refine hS.mono ?_
  rintro e w2 ⟨F2, rfl, ⟨om2, a2, n2, c2, h2⟩, hF2, hO2⟩
  have hn2 : n2 ≤ 1000000 := by
    have h3 : (without t.waits id).length = n2 := h2.len
    have := without_len t.waits id
    omega
  have c1 := h2.bx.cell 1 (.int .i64 t.hold) rfl
  by_cases e : t.hold = id
  · have hT : tlose t id = tpass (tstop t id) := by unfold tlose; rw [if_pos e]
    have hP := pass_any h2 hn2
    have HK := Lib.hid (show ∀ e w', TaGives F2 g w2 (tpass (tstop t id)) (.tuple #[]) e w' → TaGives F g w (tlose t id) (.tuple #[]) e w' from fun e w' hg => by rw [hT]; exact hg.then hF2 hO2)
    clear h2 hF2 hO2 hT hS hl
    rw [e] at c1
    go_wp2_with fail
    refine hP.mono ?_
    intro e w3 hg
    obtain ⟨F3, rfl, h3⟩ := HK.out _ _ hg
    have HZ := Lib.hid (show TaGives F g w (tlose t id) (.tuple #[]) (.returned (.tuple #[])) w3 from ⟨F3, rfl, h3⟩)
    clear hg h3 hP HK
    go_wp2
    exact bodyPost_ret (v := .tuple #[]) (by simp [results, Try.results41, go_sem]) rfl HZ.out
  · have hT : tlose t id = tstop t id := by unfold tlose; rw [if_neg e]
    have HZ := Lib.hid (show TaGives F g w (tlose t id) (.tuple #[]) (.returned (.tuple #[])) w2 from by rw [hT]; exact h2.gives _ hF2 hO2)
    have e2 : (t.hold == id) = false := by simpa using e
    clear h2 hF2 hO2 hT hS hl
    go_wp2
    exact bodyPost_ret (v := .tuple #[]) (by simp [results, Try.results41, go_sem]) rfl HZ.out

/-- what a call leaves that answers a list -/
def LaGives (F : Nat → Prop) (g : Nat) (w : World) (t : Ta) (l : List Int) (e : Ending) (w' : World) : Prop :=
  ∃ F2 a n c, e = .returned (.slice a n c) ∧ Ta.Is F2 g w' t ∧ (∀ b, F2 b → F b ∨ w.heap.size ≤ b) ∧ Only F w w' ∧
    Vals w' w'.heap.size a n (ints l) ∧ n ≤ c ∧ ∀ b, 0 < n → In a b → w.heap.size ≤ b ∧ ¬ F2 b

end

end Go.Proofs.Ytanloclkbdameaa
