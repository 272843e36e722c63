/- What a queue of bytes answers and leaves that lies at the begin of a block (a queue of its own, or within another struct): contracts of New, Len, Room, Put, Take. -/
import Derived.Test.YtanloclkbdameaaMid
import Derived.Test.YtanloclkbdameaaBx
import Derived.Deep.RegionHeld3
import Derived.Deep.RegionLaw
import Derived.IntWalk
namespace Go.Proofs.Ytanloclkbdameaa
open Go.RowKit

theorem heap_lt {w : World} {g : Nat} {o : Obj} (h : w.heap[g]? = some o) : g < w.heap.size := by
  rcases Nat.lt_or_ge g w.heap.size with h' | h'
  · exact h'
  · rw [Array.getElem?_eq_none h'] at h; cases h

/-- at block g lies a queue for so many bytes; l wait, in the slice (a, n, c); R lies behind it -/
structure Que (R : List Value) (base : Nat) (w : World) (g size : Nat) (a : Option Addr) (n c : Nat) (l : Bs) : Prop where
  bx : Bx g w (.int .i64 size :: .slice a n c :: R).toArray
  low : base ≤ g
  small : size ≤ 65536
  few : n ≤ size
  mid : Mid base w a n c l
  apart : ¬ In a g

section
variable {R : List Value} {base g size n c m : Nat} {w w' : World} {a : Option Addr} {l : Bs}
theorem Que.c0 (h : Que R base w g size a n c l) : w.cell? ⟨g, 0, none⟩ = some (.int .i64 size) := h.bx.cell 0 _ rfl
theorem Que.c1 (h : Que R base w g size a n c l) : w.cell? ⟨g, 1, none⟩ = some (.slice a n c) := h.bx.cell 1 _ rfl
theorem Que.free (h : Que R base w g size a n c l) (i : Nat) : w.frozen? ⟨g, i, none⟩ = false := h.bx.free i
theorem Que.only {S : Nat → Prop} (h : Que R base w g size a n c l) (hO : Only S w w') (h1 : ¬ S g) (h2 : ∀ p, a = some p → ¬ S p.block) : Que R base w' g size a n c l :=
  ⟨h.bx.keep hO h1, h.low, h.small, h.few, h.mid.only hO h2, h.apart⟩
theorem Que.below (h : Que R base w g size a n c l) (hb : Below w.heap.size w w') : Que R base w' g size a n c l := h.only (only_of_below hb) (fun h => h) fun _ _ h => h
theorem Que.drewN (h : Que R base w g size a n c l) (k : Nat) : Que R base (w.drewN k) g size a n c l := h.below (below_drewN (Below.refl _ _) k)
theorem Que.set (h : Que R base w g size a n c l) {A : Option Addr} {m d : Nat} {k : Bs} {w2 : World} (hh : w2.heap[g]? = w.heap[g]?) (hm : Mid base w2 A m d k) (hA : ¬ In A g) (hf : m ≤ size) :
    Que R base (w2.setCell ⟨g, 1, none⟩ (.slice A m d)) g size A m d k := by
  have hb : Bx g w2 (.int .i64 size :: .slice a n c :: R).toArray := by
    obtain ⟨t, ht⟩ := h.bx.head
    exact ⟨t, hh.trans ht⟩
  have hb2 := hb.set 1 (.slice A m d)
  rw [show (Value.int .i64 size :: .slice a n c :: R).toArray.setIfInBounds 1 (.slice A m d) = (Value.int .i64 size :: .slice A m d :: R).toArray by simp] at hb2
  refine ⟨hb2, h.low, h.small, hf, hm.only ((Only.refl (fun k => k = g) w2).setCell rfl _) (fun p hp e => hA ⟨p, hp, e⟩), hA⟩
end

/-- how many bytes a queue is for -/
def sizeOf' (s : Int) : Nat := (min (max s 0) 65536).toNat

theorem outq_new_at (s l : Int) (r : Nat) (hl : l = r) (hr : r ≤ 65536) (hc : (s < 0 ∧ l = 0) ∨ (65536 < s ∧ l = 65536) ∨ (0 ≤ s ∧ s ≤ 65536 ∧ l = s)) (w : World) :
    Calls Try.prog 38 #[.int .i64 s] w fun e w' => e = .returned (.pointer (some ⟨w.heap.size, 0, none⟩)) ∧ Que [] w.heap.size w' w.heap.size r none 0 0 [] ∧ Below w.heap.size w w' := by
  have H : ∀ W : World, W = w.alloc (.cells #[.int .i64 r, .slice none 0 0] 35) → Que [] w.heap.size W w.heap.size r none 0 0 [] ∧ Below w.heap.size w W := by
    rintro W rfl
    exact ⟨⟨Bx.new _ _ rfl _ _, Nat.le_refl _, hr, Nat.zero_le _, Mid.nil _ _, fun ⟨_, h, _⟩ => by cases h⟩, (Below.refl _ _).alloc (Nat.le_refl _) _⟩
  rcases hc with ⟨h1, rfl⟩ | ⟨h1, rfl⟩ | ⟨h1, h2, rfl⟩
  all_goals
    have HM := Lib.hid hl
    clear hl
    go_enter Try.func38, Try.ntmps38
    go_wp2
    go_ret
    exact ⟨rfl, H _ (by rw [← HM.out])⟩

theorem outq_new (s : Int) (w : World) :
    Calls Try.prog 38 #[.int .i64 s] w fun e w' => e = .returned (.pointer (some ⟨w.heap.size, 0, none⟩)) ∧ Que [] w.heap.size w' w.heap.size (sizeOf' s) none 0 0 [] ∧ Below w.heap.size w w' := by
  unfold sizeOf'
  exact outq_new_at s (min (max s 0) 65536) _ (by omega) (by omega) (by omega) w

section
variable {R : List Value} {base g size n c : Nat} {a : Option Addr} {l : Bs}

theorem outq_len (w : World) (h : Que R base w g size a n c l) : Calls Try.prog 25 #[.pointer (some ⟨g, 0, none⟩)] w fun e w' => e = .returned (.int .i64 n) ∧ w = w' := by
  have hk := h.c1
  go_enter Try.func25, Try.ntmps25
  go_wp2
  go_ret
  exact ⟨rfl, rfl⟩

theorem outq_room (w : World) (h : Que R base w g size a n c l) : Calls Try.prog 64 #[.pointer (some ⟨g, 0, none⟩)] w fun e w' => e = .returned (.int .i64 ((size : Int) - n)) ∧ ∃ m, w' = w.drewN m := by
  have hk := h.c1
  have hs := h.c0
  have h1 := h.small
  have h2 := h.few
  clear h
  go_enter Try.func64, Try.ntmps64
  go_wp2
  go_quiet (fail)
  go_wp2
  go_ret
  exact ⟨rfl, nq, rfl⟩

theorem outq_put_no (w : World) (h : Que R base w g size a n c l) (A : Option Addr) (m c2 : Nat) (hm : size < n + m) :
    Calls Try.prog 48 #[.pointer (some ⟨g, 0, none⟩), .slice A m c2] w fun e w' => e = .returned (.bool false) ∧ ∃ k, w' = w.drewN k := by
  have hd : decide ((size : Int) - (n : Int) < (m : Int)) = true := by simp; omega
  have h1 := h.small
  have h2 := h.few
  have HQ := Lib.hid h
  clear h
  go_enter Try.func48, Try.ntmps48
  go_wp2_with fail
  refine (outq_room w HQ.out).mono ?_
  rintro e w' ⟨rfl, k, rfl⟩
  go_wp2
  go_ret
  exact ⟨rfl, k, rfl⟩

theorem outq_put_yes (w : World) (h : Que R base w g size a n c l) (B : Nat) (A : Option Addr) (m c2 : Nat) (t : Bs) (ht : Bytes w B A m t) (hbase : base ≤ w.heap.size) (hm : n + m ≤ size) :
    Calls Try.prog 48 #[.pointer (some ⟨g, 0, none⟩), .slice A m c2] w fun e w' => e = .returned (.bool true) ∧ ∃ a2 c3, Que R base w' g size a2 (n + m) c3 (l ++ t) ∧ Only (fun b => b = g ∨ In a b) w w' ∧ ∀ b, In a2 b → In a b ∨ w.heap.size ≤ b := by
  have hd : decide ((size : Int) - (n : Int) < (m : Int)) = false := by simp; omega
  have h1 := h.small
  have h2 := h.few
  have HQ := Lib.hid h
  have HT := Lib.hid ht
  clear h ht
  go_enter Try.func48, Try.ntmps48
  go_wp2_with fail
  refine (outq_room w HQ.out).mono ?_
  rintro e w' ⟨rfl, k, rfl⟩
  have HQ2 := Lib.hid (HQ.out.drewN k)
  have HT2 := Lib.hid (HT.out.drewN k)
  have HB := Lib.hid ((Only.refl (fun b => b = g ∨ In a b) w).drewN k)
  have hB2 : base ≤ (w.drewN k).heap.size := hbase
  clear HQ HT
  generalize w.drewN k = W at *
  have hk := HQ2.out.c1
  have hf := HQ2.out.free 1
  go_wp2_with (first
    | (at_builtin
       (with_reducible refine wpList_mid rfl (.tmp 14) (.tmp 15) rfl base rfl HQ2.out.mid rfl HT2.out (by omega) hB2 ?_)
       intro A2 c3 w2 hm2 ho2 hp2
       have HM := Lib.hid hm2
       have HO := Lib.hid ho2
       have HP := Lib.hid hp2
       have hf2 : w2.frozen? ⟨g, 1, none⟩ = false := (ho2.frozen (p := ⟨g, 1, none⟩) (HQ2.out.bx.room) HQ2.out.apart).trans hf
       have hk2 : w2.cell? ⟨g, 1, none⟩ = some (.slice a n c) := (ho2.cell (p := ⟨g, 1, none⟩) (HQ2.out.bx.room) HQ2.out.apart).trans hk
       clear hm2 ho2 hp2 hf hk))
  go_ret
  have hsz := HO.out.size
  have hg := HQ2.out.bx.room
  have hA : ¬ In A2 g := by
    rintro ⟨p, hp, hpg⟩
    rcases HP.out p hp with h | h
    · rw [hpg] at h
      exact HQ2.out.apart h
    · omega
  exact ⟨rfl, A2, c3, HQ2.out.set (HO.out.block g hg HQ2.out.apart) HM.out hA hm, (HB.out.trans (HO.out.mono fun _ _ h => .inr h)).setCell (.inl rfl) _, fun b hb => by
    obtain ⟨p, hp, rfl⟩ := hb
    exact (HP.out p hp).imp (fun h => h) (fun h => Nat.le_trans HB.out.size h)⟩

theorem byte_sz : (Try.prog.info? 5).map (·.size) = some 1 := by kernel_rfl

theorem fill_own {w' : World} {g k : Nat} {l : Bs} (hk : l.length = k) (hk2 : k ≤ 1000000000) (hg : w'.heap[g]? = some (.cells (splice ((List.replicate k 0#8).map by8) 0 (l.map by8)).toArray 5 (0, 0))) :
    Own g w' (some ⟨g, 0, none⟩) k k l := by
  refine ⟨⟨by simp [hk], .inr ⟨g, k, _, rfl, Nat.le_refl _, hg, Nat.le_refl _, by unfold maxLen; omega, ?_, ?_⟩⟩, Nat.le_refl _⟩
  · simp [splice, hk]
  · simp only [splice, List.take_zero, List.nil_append, Nat.mul_one, Nat.zero_add]
    rw [List.drop_eq_nil_of_le (by simp [hk]), List.append_nil]
    exact List.take_of_length_le (by simp [hk])

theorem only_of_below' {B : Nat} {w w' : World} (h : Below B w w') : Only (fun k => B ≤ k) w w' := ⟨h.os, h.tape, h.output, h.size, fun k _ hn => h.block k (by omega)⟩

theorem Own.only {base n c : Nat} {S : Nat → Prop} {w w' : World} {a : Option Addr} {l : Bs} (h : Own base w a n c l) (hO : Only S w w') (hS : ∀ b, base ≤ b → ¬ S b) : Own base w' a n c l := by
  refine ⟨⟨h.row.1, ?_⟩, h.cap⟩
  rcases h.row.2 with h0 | ⟨g, cap, cur, e, hb, hg, hrest⟩
  · exact .inl h0
  · exact .inr ⟨g, cap, cur, e, hb, (hO.block g (heap_lt hg) (hS g hb)).trans hg, hrest⟩

/-- what Take leaves -/
theorem take_left {R : List Value} {base G g size n c k : Nat} {a x : Option Addr} {l : Bs} {w w1 w2 : World} (hG : w.heap.size = G) (hlt : ∀ p, a = some p → p.block < G) (h : Que R base w1 g size a n c l) (hg : g < G) (h1 : Below w.heap.size w w1) (h2 : Below G w1 w2)
    (ho : Own G w2 (some ⟨G, 0, none⟩) k k (l.take k)) (hx : cutA a c k = x) (hk : k ≤ n) :
    Own G (w2.setCell ⟨g, 1, none⟩ (.slice x (n - k) (c - k))) (some ⟨G, 0, none⟩) k k (l.take k) ∧
      Que R base (w2.setCell ⟨g, 1, none⟩ (.slice x (n - k) (c - k))) g size (cutA a c k) (n - k) (c - k) (l.drop k) ∧ Only (fun b => b = g) w (w2.setCell ⟨g, 1, none⟩ (.slice x (n - k) (c - k))) := by
  subst hx hG
  have hO := only_of_below' h2
  have hf := h.few
  have hq : Que R base w2 g size a n c l := h.only hO (by omega) (fun p hp => by have := hlt p hp; omega)
  refine ⟨ho.only ((Only.refl (fun k => k = g) w2).setCell rfl _) (fun b hb => by omega), hq.set rfl (hq.mid.cut hk) ?_ (by omega), Only.setCell (S := fun b => b = g) ((only_of_below (Below.trans h1 h2)).mono fun _ _ h => h.elim) rfl _⟩
  rintro ⟨p, hp, hpg⟩
  obtain ⟨q, hq1, hq2⟩ := cutA_block hp
  exact hq.apart ⟨q, hq1, by omega⟩

/-- a copy of a slice's first bytes into a row that was just made -/
theorem step_fill {ops : Array Oper} {o : Oper} {act : Act} {w : World} {K : Act → World → Prop} {Q : Exit → Act → World → Prop} {E : Prop} (hgd : o.guard = none) (d s : Operand)
    (ho : o.op = .call { callee := .builtin .copy, args := #[d, s], argTypes := #[24, 24] })
    (G k : Nat) (hd : act.eval d = .slice (some ⟨G, 0, none⟩) k k) (hG : w.heap[G]? = some (.cells (zb k) 5 (0, 0))) (hk2 : k ≤ 1000000000)
    (A : Option Addr) (n c : Nat) (hs : act.eval s = .slice A n c) (hk : k ≤ n) (B : Nat) (l : Bs) (hl : Bytes w B A n l)
    (h : ∀ w', Own G w' (some ⟨G, 0, none⟩) k k (l.take k) → Below G w w' → K (act.put o.dst (.int .i64 k)) w') :
    if Region.wanted o (yielded ops act.tmps) = true then Oper.wp Try.prog o act w K Q else E := by
  have hlen : (l.take k).length = k := by rw [List.length_take, hl.1]; omega
  have hl2 := hl.take hk
  generalize l.take k = m at *
  have hcs : (m.map by8).length = k := by rw [List.length_map]; exact hlen
  refine step_copy_splice hgd d s 24 24 ho 5 Try.underlying24 byte_sz (some ⟨G, 0, none⟩) A k k n c hd hs G 0 ((List.replicate k 0#8).map by8) 5 hG (m.map by8) (by rw [hcs]; exact (Nat.min_eq_right hk).symm) ?_ (by rw [hcs]; simp)
    (by intro u hu; rw [List.mem_map] at hu; obtain ⟨c, _, rfl⟩ := hu; rfl) G w (Below.refl _ _) (Nat.le_refl _) ?_
  · intro hpos
    refine ⟨rfl, ?_⟩
    obtain ⟨b, off, rfl, _, hc⟩ := hl2.2 (by omega)
    refine ⟨_, rfl, fun j v hj => ?_⟩
    have hj2 : j < m.length := by
      rcases Nat.lt_or_ge j m.length with h | h
      · exact h
      · rw [List.getElem?_eq_none (by simpa using h)] at hj; cases hj
    rw [add_none, hc j (by omega), ← hj]
    simp [List.getElem?_eq_getElem hj2, by8]
  · intro w' hw hb
    rw [show (goInt ((m.map by8).length : Int)) = Value.int .i64 (k : Int) by rw [hcs]; rfl]
    exact h w' (fill_own hlen hk2 hw) hb

theorem outq_take_at (w : World) (h : Que R base w g size a n c l) (t L : Int) (k : Nat) (hL : L = k) (hk : k ≤ n) (hc : (t < 0 ∧ L = 0) ∨ (0 ≤ t ∧ t ≤ n ∧ L = t) ∨ ((n : Int) < t ∧ L = n)) :
    Calls Try.prog 13 #[.pointer (some ⟨g, 0, none⟩), .int .i64 t] w fun e w' => e = .returned (.slice (some ⟨w.heap.size, 0, none⟩) k k) ∧ Own w.heap.size w' (some ⟨w.heap.size, 0, none⟩) k k (l.take k) ∧
      Que R base w' g size (cutA a c k) (n - k) (c - k) (l.drop k) ∧ Only (fun b => b = g) w w' := by
  have h1 := h.small
  have h2 := h.few
  have hk1 := h.c1
  have HQ := Lib.hid h
  have hcap := h.mid.cap
  have hmk := fun W => make_full W L k hL (by omega)
  have HL := Lib.hid hL
  have hg := h.bx.room
  clear h hL
  have hlt : ∀ p, a = some p → p.block < w.heap.size := fun p hp => (HQ.out.mid.lt hp).2
  rcases hc with ⟨h3, rfl⟩ | ⟨h3, h4, rfl⟩ | ⟨h3, rfl⟩
  all_goals
    go_enter Try.func13, Try.ntmps13
    go_wp2
    have hb0 : Below w.heap.size w (w.alloc (.cells (zb k) 5)) := (Below.refl _ _).alloc (Nat.le_refl _) _
    have HQ1 := Lib.hid (HQ.out.below hb0)
    have HG := Lib.hid (heap_alloc_new w (.cells (zb k) 5))
    have HB0 := Lib.hid hb0
    clear hb0 HQ hmk
    generalize w.alloc (.cells (zb k) 5) = W at *
    generalize hwG : w.heap.size = G at *
    have HwG := Lib.hid hwG
    clear hwG hk1
    have hk1 : W.cell? ⟨g, 1, none⟩ = some (.slice a n c) := HQ1.out.c1
    have hf1 : W.frozen? ⟨g, 1, none⟩ = false := HQ1.out.free 1
    have hmid : Bytes W.drew W.heap.size a n l := HQ1.out.mid.bytes
    have hG : W.drew.heap[G]? = some (.cells (zb k) 5 (0, 0)) := HG.out
    have hk9 : k ≤ 1000000000 := by omega
    have HH := Lib.hid (show Que R base W.drew g size a n c l from HQ1.out.below (below_drew (Below.refl _ _)))
    have HB1 := Lib.hid (below_drew HB0.out)
    clear HQ1 HB0
    go_region_law (first | ((with_reducible refine step_fill (o := ⟨some 25, _, _, _, _, _⟩) rfl (.tmp 20) (.tmp 24) rfl G k rfl hG hk9 a n c rfl hk _ l hmid ?_); intro w2 hG2 hb2; have hf1 := (hb2.frozen (p := ⟨g, 1, none⟩) hg).trans hf1; have hk1 := (hb2.cell (p := ⟨g, 1, none⟩) hg).trans hk1) | fail)
    all_goals
      generalize hx : (if c = k then a else Option.map (fun x => x.add k) a) = x at *
      have HX : Hid (cutA a c k = x) := Lib.hid hx
      have HO := Lib.hid hG2
      have HB2 := Lib.hid hb2
      clear hx hG2 hb2 hmid hG
      go_wp2
      go_ret
      have hwG := HwG.out
      subst hwG
      exact ⟨rfl, take_left rfl hlt HH.out hg HB1.out HB2.out HO.out HX.out hk⟩

/-- how many bytes a Take of t gets of n -/
def takes (t : Int) (n : Nat) : Nat := (min (max t 0) n).toNat

theorem outq_take (w : World) (h : Que R base w g size a n c l) (t : Int) :
    Calls Try.prog 13 #[.pointer (some ⟨g, 0, none⟩), .int .i64 t] w fun e w' => e = .returned (.slice (some ⟨w.heap.size, 0, none⟩) (takes t n) (takes t n)) ∧ Own w.heap.size w' (some ⟨w.heap.size, 0, none⟩) (takes t n) (takes t n) (l.take (takes t n)) ∧
      (∃ a2 c2, Que R base w' g size a2 (n - takes t n) c2 (l.drop (takes t n)) ∧ ∀ b, In a2 b → In a b) ∧ Only (fun b => b = g) w w' := by
  unfold takes
  exact (outq_take_at w h t (min (max t 0) n) _ (by omega) (by omega) (by omega)).mono fun e w' ⟨h1, h2, h3, h4⟩ => ⟨h1, h2, ⟨_, _, h3, fun b hb => by
    obtain ⟨p, hp, rfl⟩ := hb
    obtain ⟨q, hq1, hq2⟩ := cutA_block hp
    exact ⟨q, hq1, hq2⟩⟩, h4⟩
end

end Go.Proofs.Ytanloclkbdameaa
