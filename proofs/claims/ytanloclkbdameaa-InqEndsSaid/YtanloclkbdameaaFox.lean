
/- The program's own table: who waits, and no more; the library's calls on slices of numbers. -/
import Derived.Test.YtanloclkbdameaaFow
import Derived.Test.YtanloclkbdameaaShelf
namespace Go.Proofs.Ytanloclkbdameaa
open Go.RowKit

theorem holds_of_rw {w : World} {b off n c : Nat} {l : List Int} (h : Rw 0 w (some ⟨b, off, none⟩) n c (ints l)) : Go.Sort.Holds (Value.int .i64) w b off l.toArray := by
  rcases h.lies with ⟨e, _⟩ | ⟨g, o, e, _, _, h3, h4⟩
  · cases e
  · injection e with e
    injection e with e1 e2
    subst e1 e2
    intro j hj
    have hj' : j < l.length := by simpa using hj
    have hl := h.len
    rw [ints_len] at hl
    refine ⟨?_, (h4 j (by have := h.cap; omega)).2⟩
    rw [h3 j _ (ints_get l j hj')]
    simp [List.getD_eq_getElem?_getD, List.getElem?_eq_getElem hj']

theorem only_putRow (w : World) (q b off : Nat) (d : Array Int) : Only (fun k => k = b) w (Go.Sort.putRow (Value.int .i64) (Go.Sort.ahead w q) b off d) := by
  refine ⟨rfl, rfl, rfl, by simp, fun k hk hne => ?_⟩
  have : b ≠ k := fun e => hne e.symm
  simp [Go.Sort.putRow, Go.Sort.mapBlock, Go.Sort.ahead, Array.getElem?_modify, this]

theorem rw_putRow {w : World} {b off n c q : Nat} {l : List Int} (h : Rw 0 w (some ⟨b, off, none⟩) n c (ints l)) (d : List Int) (hd : d.length = n) (k : Nat) (hk : k ≤ n) :
    Rw 0 (Go.Sort.putRow (Value.int .i64) (Go.Sort.ahead w q) b off d.toArray) (some ⟨b, off, none⟩) k c (ints (d.take k)) := by
  have hH := holds_of_rw h
  have hl := h.len
  rw [ints_len] at hl
  have hc : ∀ j, j < n → World.cell? (Go.Sort.putRow (Value.int .i64) (Go.Sort.ahead w q) b off d.toArray) ⟨b, off + j, none⟩ = some (.int .i64 (d.getD j 0)) := fun j hj => by
    rw [Go.Sort.cell?_putRow (Value.int .i64) (Go.Sort.ahead w q) b off l.toArray d.toArray hH (by simp; omega) j (by simp; omega)]
    simp [List.getD_eq_getElem?_getD, List.getElem?_eq_getElem (show j < d.length by omega)]
  have hlt := h.lt rfl
  have h4 : ∀ j, j < c → (w.cell? ⟨b, off + j, none⟩).isSome = true ∧ w.frozen? ⟨b, off + j, none⟩ = false := by
    rcases h.lies with ⟨e, _⟩ | ⟨g, o, e, _, _, _, h4⟩
    · cases e
    · injection e with e
      injection e with e1 e2
      subst e1 e2
      exact h4
  refine ⟨by rw [ints_len, List.length_take]; omega, Nat.le_trans hk h.cap, h.max, ints_one _, .inr ⟨b, off, rfl, Nat.zero_le _, by simpa using hlt.2, fun j v hj => ?_, fun j hj => ?_⟩⟩
  · have hjk : j < (d.take k).length := by
      rcases Nat.lt_or_ge j (d.take k).length with h' | h'
      · exact h'
      · rw [List.getElem?_eq_none (by rw [ints_len]; exact h')] at hj; cases hj
    rw [ints_get _ j hjk] at hj
    rw [List.length_take] at hjk
    rw [hc j (by omega), ← hj]
    simp [List.getD_eq_getElem?_getD, show j < k by omega]
  · rw [Go.Sort.frozen?_putRow]
    refine ⟨?_, (h4 j hj).2⟩
    rcases Nat.lt_or_ge j n with h' | h'
    · rw [hc j h']; rfl
    · rw [Go.Sort.cell?_putRow_other _ _ _ _ _ _ (Or.inr (Or.inr (by show off + d.toArray.size ≤ off + j; simp; omega)))]
      exact (h4 j hj).1

/-- the closure that is handed to the library -/
theorem clos_gives (id x : Int) (B : Nat) (W : World) (hc : W.cell? ⟨B, 0, none⟩ = some (.int .i64 id)) :
    FnGives Try.prog 69 #[.pointer (some ⟨B, 0, none⟩)] #[.int .i64 x] (.bool (decide (x = id))) W := by
  show Calls Try.prog 69 #[.int .i64 x, .pointer (some ⟨B, 0, none⟩)] W _
  have e : (x == id) = decide (x = id) := by by_cases h : x = id <;> simp [h]
  rw [← e]
  clear e
  go_enter Try.func69, Try.ntmps69
  go_wp2
  go_ret
  exact ⟨rfl, 0, rfl⟩

theorem del_none (a : Option Addr) (c : Nat) (fv : Value) (w : World) :
    Calls Try.prog 68 #[.slice a 0 c, fv] w fun e w' => e = .returned (.slice a 0 c) ∧ w' = w := by
  go_enter Try.func68, Try.ntmps68
  go_wp2_with (go_at_call 71; refine (Try.slices_IndexFunc_empty (α := Int) a c fv _).mono ?_; rintro e w' ⟨rfl, rfl⟩)
  go_ret
  exact ⟨rfl, rfl⟩

theorem del_any {W : World} {a : Option Addr} {n c B : Nat} {l : List Int} (h : Rw 0 W a n c (ints l)) (id : Int) (hB : B < W.heap.size) (hc : W.cell? ⟨B, 0, none⟩ = some (.int .i64 id)) (hne : ¬ In a B) (hn : n ≤ 1000000) :
    Calls Try.prog 68 #[.slice a n c, .func (.func 69) #[] #[.pointer (some ⟨B, 0, none⟩)]] W fun e w' =>
      ∃ k, e = .returned (.slice a k c) ∧ k ≤ n ∧ Rw 0 w' a k c (ints (without l id)) ∧ Only (In a) W w' := by
  have hl := h.len
  rw [ints_len] at hl
  rcases Nat.eq_zero_or_pos n with rfl | hp
  · obtain rfl : l = [] := List.eq_nil_of_length_eq_zero hl
    refine (del_none a c _ W).mono ?_
    rintro e w' ⟨rfl, rfl⟩
    exact ⟨0, rfl, Nat.le_refl _, h, Only.refl _ _⟩
  · obtain ⟨b, off, rfl, hbB, _⟩ := ints_at h.vals hp
    have hbne : B ≠ b := fun e => hne ⟨_, rfl, e.symm⟩
    have eg : ∀ args w, (callFunc 69 args).run Try.prog w = .ok (.enter 69 args) w := enters_of Try.func69 (by kernel_rfl) rfl
    have hcon := Try.slices_DeleteFunc (Value.int .i64) (fun _ => rfl) (fun x : Int => decide (x = id)) 69 #[.pointer (some ⟨B, 0, none⟩)] eg 0 Try.zeroValue3 b off c l.toArray W
      (fun W' x hb => clos_gives id x B W' ((hb.cell (p := ⟨B, 0, none⟩) hB).trans hc))
      (fun m os dk x _ => clos_gives id x B _ (by
        unfold sortWorld
        rw [Go.Sort.cell?_grow _ _ _ (by show B < (Go.Sort.putRow _ _ _ _ _).heap.size; rw [Go.Sort.size_putRow]; exact hB), Go.Sort.cell?_putRow_other _ _ b off _ _ (Or.inl hbne)]
        exact hc))
      (holds_of_rw h) (by simp; omega) (by simp; have := h.cap; omega)
    rw [show l.toArray.size = n from by simpa using hl] at hcon
    refine hcon.mono ?_
    rintro e w' ⟨rfl, q, rfl⟩
    have hwl : (without l id).length ≤ n := by have := List.length_filter_le (fun x => !decide (x = id)) l; unfold without; omega
    refine ⟨(without l id).length, rfl, hwl, ?_, (only_putRow W q b off _).mono (fun k _ hk => ⟨_, rfl, hk.symm⟩)⟩
    have := rw_putRow (q := q) h (without l id ++ List.replicate (n - (without l id).length) 0) (by simp; omega) (without l id).length hwl
    rw [List.take_left] at this
    exact this

section
variable {F : Nat → Prop} {g n c N : Nat} {om : Option Nat} {a : Option Addr} {w w' : World} {t : Ta}

theorem waits_any (h : TaAt F g om a n c w t) (hn : n ≤ 1000000) (id : Int) :
    Calls Try.prog 45 #[.pointer (some ⟨g, 0, none⟩), .int .i64 id] w fun e w' => e = .returned (.bool (decide (id ∈ t.waits))) ∧ w' = w := by
  have hc := h.bx.cell 3 (.slice a n c) rfl
  have hl := h.len
  have hcon : Calls Try.prog 60 #[.slice a n c, .int .i64 id] w fun e w' => e = .returned (.bool (decide (id ∈ t.waits))) ∧ w' = w := by
    rcases Nat.eq_zero_or_pos n with rfl | hp
    · have e : t.waits = [] := List.eq_nil_of_length_eq_zero hl
      rw [e]
      exact (Try.slices_Contains_int_empty a c id w).mono (by rintro e w' ⟨rfl, rfl⟩; exact ⟨by simp, rfl⟩)
    · obtain ⟨b, off, rfl, _, hcell⟩ := ints_at h.rw.vals hp
      refine (Try.slices_Contains_int b off n c t.waits id w (by omega) (by omega) (fun j hj => hcell j (by omega))).mono ?_
      rintro e w' ⟨rfl, rfl⟩
      refine ⟨ret_bool ?_, rfl⟩
      rw [← hl, List.take_length, List.contains_eq_mem]
  clear h hl
  generalize decide (id ∈ t.waits) = B at *
  go_enter Try.func45, Try.ntmps45
  go_wp2_with (go_at_call 60; refine hcon.mono ?_; rintro e w' ⟨rfl, rfl⟩)
  go_ret
  exact ⟨rfl, rfl⟩

theorem stop_any (h : TaAt F g om a n c w t) (hn : n ≤ 1000000) (id : Int) :
    Calls Try.prog 58 #[.pointer (some ⟨g, 0, none⟩), .int .i64 id] w fun e w' => TaGives F g w (tstop t id) (.tuple #[]) e w' := by
  have hO1 : Only (fun _ => False) w (w.alloc (.cells #[.int .i64 id] 3)) := (Only.refl _ _).alloc _
  have h1 := h.keep hO1 (fun _ _ h => h)
  have hB : w.heap.size < (w.alloc (.cells #[.int .i64 id] 3)).heap.size := by simp
  have hcB : (w.alloc (.cells #[.int .i64 id] 3)).cell? ⟨w.heap.size, 0, none⟩ = some (.int .i64 id) := by simp
  have hne : ¬ In a w.heap.size := fun hi => by have := h.lt _ (h.m3 _ hi); omega
  have hc := h1.bx.cell 3 (.slice a n c) rfl
  have hf := h1.bx.free 3
  have hD := del_any h1.rw id hB hcB hne hn
  have HK := Lib.hid (show ∀ (k : Nat) (w2 : World), Rw 0 w2 a k c (ints (without t.waits id)) → Only (In a) (w.alloc (.cells #[.int .i64 id] 3)) w2 → TaGives F g w (tstop t id) (.tuple #[]) (.returned (.tuple #[])) (w2.setCell ⟨g, 3, none⟩ (.slice a k c)) from by
    intro k w2 hr hO2
    obtain ⟨z1, z2, z3⟩ := h1.relay hO2 hr (fun b hb => .inl hb)
    exact z1.gives _ (fun b hb => (z2 b hb).imp (fun h => h) (fun h => Nat.le_trans hO1.size h)) ((hO1.mono (fun _ _ h => h.elim)).trans z3))
  have HG := Lib.hid (And.intro h1.d2 (Nat.lt_of_lt_of_le (h.lt _ h.m1) hO1.size))
  clear h h1 hO1 hB hcB hne
  go_enter Try.func58, Try.ntmps58
  go_wp2_with (first
    | (go_at_call 68
       refine hD.mono ?_
       rintro e w2 ⟨k, rfl, hk, hr, hO2⟩
       have hc2 := (hO2.cell (p := ⟨g, 3, none⟩) HG.out.2 HG.out.1).trans hc
       have hf2 := (hO2.frozen (p := ⟨g, 3, none⟩) HG.out.2 HG.out.1).trans hf
       have HZ := Lib.hid (HK.out k w2 hr hO2)
       clear hr hO2)
    | fail)
  exact bodyPost_ret (v := .tuple #[]) (by simp [results, Try.results58, go_sem]) rfl HZ.out
end

end Go.Proofs.Ytanloclkbdameaa
