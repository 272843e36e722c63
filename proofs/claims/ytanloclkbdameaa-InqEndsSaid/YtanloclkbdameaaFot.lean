
/- The program's own table in mathematics: the holder and those who wait stand apart. No program is named here. -/
import Derived.Test.YtanloclkbdameaaFo
namespace Go.Proofs.Ytanloclkbdameaa

structure Ta where
  lease : Nat
  left : Nat
  roles : List (Int × Int)
  hold : Int
  waits : List Int

def ofFl (s : Fl) : Ta := ⟨s.lease, s.left, s.roles, fhold s, s.line.tail⟩
def without (l : List Int) (id : Int) : List Int := l.filter fun x => !decide (x = id)
def tstop (t : Ta) (id : Int) : Ta := { t with waits := without t.waits id }
def tgrant (t : Ta) (id : Int) : Ta := { t with waits := without t.waits id, hold := id, left := t.lease }
def tpass (t : Ta) : Ta := match t.waits with
  | [] => { t with hold := 0, left := 0 }
  | x :: _ => tgrant t x
def tlose (t : Ta) (id : Int) : Ta := if t.hold = id then tpass (tstop t id) else tstop t id

theorem without_none {l : List Int} {id : Int} (h : id ∉ l) : without l id = l := by
  unfold without
  rw [List.filter_eq_self]
  intro x hx
  have : x ≠ id := fun e => h (e ▸ hx)
  simpa using this

theorem without_head {x : Int} {r : List Int} (h : (x :: r).Nodup) : without (x :: r) x = r := by
  have e : without (x :: r) x = without r x := by unfold without; simp
  rw [e]
  exact without_none (List.nodup_cons.1 h).1

theorem without_erase {l : List Int} (h : l.Nodup) (id : Int) : without l id = l.erase id := by
  unfold without
  rw [h.erase_eq_filter]
  congr 1

theorem without_filter (l : List Int) (id : Int) : without l id = l.filter fun x => decide (x ≠ id) := by
  unfold without
  congr 1
  funext x
  by_cases e : x = id <;> simp [e]

section
variable {N : Nat} {s : Fl}

theorem FOk.hold0 (h : FOk N s) : fhold s = 0 ↔ s.line = [] := by
  unfold fhold
  rcases hl : s.line with _ | ⟨x, r⟩
  · simp
  · have := (h.id_lt (i := x) (by rw [hl]; exact List.mem_cons_self)).1
    simp; omega

theorem FOk.wnodup (h : FOk N s) : s.line.tail.Nodup := h.nodup.sublist (List.tail_sublist _)

theorem tout_eq (h : FOk N s) (id : Int) : ofFl (fout s id) = tlose (ofFl s) id := by
  have hnd := h.nodup
  have hz := h.zero
  have h0 := h.hold0
  unfold fout tlose
  rcases hl : s.line with _ | ⟨x, r⟩
  · rw [hl] at hz h0
    have hl0 : s.left = 0 := hz.2 rfl
    have hh : fhold s = 0 := h0.2 rfl
    rw [if_neg (by simp)]
    have e : (ofFl s).waits = [] := by show s.line.tail = []; rw [hl]; rfl
    have e2 : tstop (ofFl s) id = ofFl s := by unfold tstop without; rw [e]; simp only [List.filter_nil]; rw [← e]
    rw [e2]
    split
    · unfold tpass
      rw [e]
      simp only [ofFl, hl, hh, hl0, List.tail_nil]
    · rfl
  · rw [hl] at hnd
    have hh : fhold s = x := by unfold fhold; rw [hl]; rfl
    have hw : (ofFl s).waits = r := by show s.line.tail = r; rw [hl]; rfl
    have hho : (ofFl s).hold = x := hh
    obtain ⟨hx1, hx2⟩ := List.nodup_cons.1 hnd
    rw [hho]
    by_cases e : x = id
    · subst e
      rw [if_pos List.mem_cons_self, if_pos rfl]
      have e1 : tstop (ofFl s) x = ofFl s := by
        unfold tstop
        rw [hw, without_none hx1, ← hw]
      rw [e1]
      have ei : (x :: r).idxOf x = 0 := by simp
      rw [ei]
      unfold outAt tpass
      rw [hw, hl]
      simp only [List.eraseIdx_zero, List.tail_cons, if_true]
      rcases r with _ | ⟨y, q⟩
      · simp [ofFl, fhold]
      · simp only [tgrant, ofFl, fhold, hl, List.headD_cons, List.tail_cons, List.length_cons]
        rw [without_head hx2, if_neg (by omega)]
    · rw [if_neg e]
      by_cases hm : id ∈ r
      · rw [if_pos (List.mem_cons_of_mem _ hm)]
        have ei : (x :: r).idxOf id = r.idxOf id + 1 := by
          rw [List.idxOf_cons]
          have : (x == id) = false := by simpa using e
          rw [this]; rfl
        rw [ei]
        unfold outAt tstop
        rw [hw, hl, without_erase hx2, if_neg (by omega)]
        simp only [List.eraseIdx_cons_succ, ofFl, fhold, List.headD_cons, List.tail_cons, hl, eraseIdx_idxOf]
      · rw [if_neg (by simp [hm, Ne.symm e])]
        unfold tstop
        rw [hw, without_none hm, ← hw]

theorem tpass_eq (h : FOk N s) (hne : s.line ≠ []) : ofFl (outAt s 0) = tpass (ofFl s) := by
  have hnd := h.nodup
  rcases hl : s.line with _ | ⟨x, r⟩
  · exact absurd hl hne
  · rw [hl] at hnd
    have hw : (ofFl s).waits = r := by show s.line.tail = r; rw [hl]; rfl
    obtain ⟨hx1, hx2⟩ := List.nodup_cons.1 hnd
    unfold outAt tpass
    rw [hw, hl]
    simp only [List.eraseIdx_zero, List.tail_cons, if_true]
    rcases r with _ | ⟨y, q⟩
    · simp [ofFl, fhold]
    · simp only [tgrant, ofFl, fhold, hl, List.headD_cons, List.tail_cons, List.length_cons]
      rw [without_head hx2, if_neg (by omega)]

theorem tgive_eq (id : Int) (hE : giveE s id = 0) : ofFl (fgive s id) = tgrant (ofFl s) id := by
  unfold fgive
  rw [if_pos hE]
  simp only [ofFl, tgrant, fhold, List.headD_cons, List.tail_cons, without_filter]

theorem task_first (id : Int) (hl : s.line = []) (hE : askE s id = 0) : ofFl (fask s id) = tgrant (ofFl s) id := by
  unfold fask
  rw [if_pos hE, hl]
  simp [ofFl, tgrant, fhold, hl, without]

theorem task_more (id : Int) (hl : s.line ≠ []) (hE : askE s id = 0) : ofFl (fask s id) = { ofFl s with waits := s.line.tail ++ [id] } := by
  unfold fask
  rw [if_pos hE]
  rcases hl2 : s.line with _ | ⟨x, r⟩
  · exact absurd hl2 hl
  · simp [ofFl, fhold, hl2]

theorem line_mem {id : Int} (hid : id ≠ 0) : id ∈ s.line ↔ (fhold s = id ∨ id ∈ s.line.tail) := by
  unfold fhold
  rcases hl : s.line with _ | ⟨x, r⟩
  · simp; exact fun e => hid e.symm
  · simp [eq_comm]

theorem line_head {id : Int} (hid : id ≠ 0) : s.line.head? = some id ↔ fhold s = id := by
  unfold fhold
  rcases hl : s.line with _ | ⟨x, r⟩
  · simp; exact fun e => hid e.symm
  · simp

theorem rhas_pos (h : FOk N s) {id : Int} (hh : rhas s.roles id = true) : 0 < id := (h.ids _ (rhas_of_mem hh)).1
end

end Go.Proofs.Ytanloclkbdameaa
