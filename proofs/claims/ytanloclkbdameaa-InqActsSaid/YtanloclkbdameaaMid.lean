
/- Slices of bytes of a call's own that may begin anywhere in their block: cuts, and appends onto them. -/
import Derived.Test.YtanloclkbdameaaBase
import Derived.ArgAppend
import Derived.Deep.Upon
namespace Go.Proofs.Ytanloclkbdameaa
open Go.RowKit

/-- a slice in a block at or above base: what it reads as; its cells up to its capacity are there, and may be written -/
structure Mid (base : Nat) (w : World) (a : Option Addr) (n c : Nat) (l : Bs) : Prop where
  len : l.length = n
  cap : n ≤ c
  max : c ≤ maxLen
  lies : (a = none ∧ c = 0) ∨ ∃ g off, a = some ⟨g, off, none⟩ ∧ base ≤ g ∧ g < w.heap.size ∧
    (∀ j, j < n → w.cell? ⟨g, off + j, none⟩ = some (.int .u8 (l[j]?.getD 0#8).toNat)) ∧
    ∀ j, j < c → (w.cell? ⟨g, off + j, none⟩).isSome = true ∧ w.frozen? ⟨g, off + j, none⟩ = false

section
variable {base B n c m k : Nat} {w w' : World} {a : Option Addr} {l : Bs}

theorem Mid.lt (h : Mid base w a n c l) {p : Addr} (hp : a = some p) : base ≤ p.block ∧ p.block < w.heap.size := by
  rcases h.lies with ⟨e, _⟩ | ⟨g, off, e, h1, h2, _⟩
  · rw [e] at hp; cases hp
  · rw [e] at hp; injection hp with hp; subst hp; exact ⟨h1, h2⟩

theorem Mid.bytes (h : Mid base w a n c l) : Bytes w w.heap.size a n l := by
  refine ⟨h.len, fun hn => ?_⟩
  rcases h.lies with ⟨_, hc⟩ | ⟨g, off, e, h1, h2, h3, _⟩
  · have := h.cap; omega
  · exact ⟨g, off, e, h2, h3⟩

theorem Mid.only {S : Nat → Prop} (h : Mid base w a n c l) (hO : Only S w w') (hS : ∀ p, a = some p → ¬ S p.block) : Mid base w' a n c l := by
  refine ⟨h.len, h.cap, h.max, ?_⟩
  rcases h.lies with h0 | ⟨g, off, e, h1, h2, h3, h4⟩
  · exact .inl h0
  · have hg := hS _ e
    refine .inr ⟨g, off, e, h1, Nat.lt_of_lt_of_le h2 hO.size, fun j hj => ?_, fun j hj => ?_⟩
    · rw [hO.cell (p := ⟨g, off + j, none⟩) h2 hg]; exact h3 j hj
    · rw [hO.cell (p := ⟨g, off + j, none⟩) h2 hg, hO.frozen (p := ⟨g, off + j, none⟩) h2 hg]; exact h4 j hj

theorem Mid.below (h : Mid base w a n c l) (hb : Below w.heap.size w w') : Mid base w' a n c l := h.only (only_of_below hb) fun _ _ h => h

theorem Mid.mono (h : Mid base w a n c l) (hb : B ≤ base) : Mid B w a n c l := by
  refine ⟨h.len, h.cap, h.max, ?_⟩
  rcases h.lies with h0 | ⟨g, off, e, h1, h2⟩
  · exact .inl h0
  · exact .inr ⟨g, off, e, Nat.le_trans hb h1, h2⟩

theorem Mid.nil (base : Nat) (w : World) : Mid base w none 0 0 [] := ⟨rfl, Nat.le_refl _, by unfold maxLen; omega, .inl ⟨rfl, rfl⟩⟩

theorem Own.mid (h : Own base w a n c l) : Mid base w a n c l := by
  rcases h.row.2 with ⟨e, hn⟩ | ⟨g, cap, cur, e, h1, h2, h3, h4, h5, h6⟩
  · injection e with e1 e2 e3
    subst e1 e2 e3
    exact ⟨h.len, Nat.le_refl _, by unfold maxLen; omega, .inl ⟨rfl, rfl⟩⟩
  · injection e with e1 _ e3
    subst e1 e3
    have hlt : g < w.heap.size := by
      rcases Nat.lt_or_ge g w.heap.size with h' | h'
      · exact h'
      · rw [Array.getElem?_eq_none h'] at h2; cases h2
    refine ⟨h.len, h3, h4, .inr ⟨g, 0, rfl, h1, hlt, fun j hj => ?_, fun j hj => ?_⟩⟩
    · rw [Nat.zero_add]
      exact own_cell h.row j (by rw [h.len]; exact hj)
    · rw [Nat.zero_add, cell_of_row _ _ _ _ _ _ h2, frozen_of_row _ _ _ _ _ h2]
      exact ⟨by rw [Array.getElem?_eq_getElem (by omega)]; rfl, rfl⟩

/-- behind 'x[k:]' -/
theorem Mid.cut (h : Mid base w a n c l) (hk : k ≤ n) : Mid base w (cutA a c k) (n - k) (c - k) (l.drop k) := by
  have hc := h.cap
  have hm := h.max
  refine ⟨by simp [h.len], by omega, by omega, ?_⟩
  unfold cutA
  rcases h.lies with ⟨rfl, rfl⟩ | ⟨g, off, rfl, h1, h2, h3, h4⟩
  · exact .inl ⟨by simp, by omega⟩
  · right
    by_cases e : c = k
    · rw [if_pos e]
      exact ⟨g, off, rfl, h1, h2, fun j hj => absurd hj (by omega), fun j hj => absurd hj (by omega)⟩
    · rw [if_neg e]
      refine ⟨g, off + k, by simp [add_none], h1, h2, fun j hj => ?_, fun j hj => ?_⟩
      · rw [Nat.add_assoc, h3 _ (by omega), List.getElem?_drop]
      · rw [Nat.add_assoc]; exact h4 _ (by omega)
end

theorem src_bytes {w : World} {B : Nat} {A : Option Addr} {m c : Nat} {l : Bs} (hr : Bytes w B A m l) : Src Try.prog 1 24 (.slice A m c) m (l.map by8) w := by
  rcases A with _ | ad
  · have hm : m = 0 := by
      rcases Nat.eq_zero_or_pos m with h | h
      · exact h
      · obtain ⟨_, _, h', _⟩ := hr.2 h
        cases h'
    subst hm
    have hl : l = [] := List.eq_nil_of_length_eq_zero hr.1
    subst hl
    exact Src.ofNil w Try.underlying24 c
  · refine Src.ofSlice w Try.underlying24 ad m c (l.map by8) (by simp [hr.1]) ?_ (by intro u hu; simp at hu; obtain ⟨c, _, rfl⟩ := hu; rfl)
    intro j u hu
    have hj : j < l.length := by
      rcases Nat.lt_or_ge j l.length with h | h
      · exact h
      · rw [List.getElem?_eq_none (by simpa using h)] at hu; cases hu
    obtain ⟨b, off, h, _, hc⟩ := hr.2 (by have := hr.1; omega)
    injection h with h
    subst h
    rw [add_none, hc j (by have := hr.1; omega), ← hu]
    simp [List.getElem?_eq_getElem hj, by8]

/-- an append of bytes onto such a slice -/
theorem run_mid (ty : TypeId) (base : Nat) {w : World} {a : Option Addr} {n c : Nat} {k : Bs} (h : Mid base w a n c k) {B : Nat} {A : Option Addr} {m c2 : Nat} {l : Bs} (hr : Bytes w B A m l)
    (hroom : n + m ≤ 140737488355328) (hbase : base ≤ w.heap.size) :
    ∃ A2 c3 w', (Builtin.append_ #[24, 24] ty #[.slice a n c, .slice A m c2]).run Try.prog w = .ok (.slice A2 (n + m) c3) w' ∧ Mid base w' A2 (n + m) c3 (k ++ l) ∧ Only (In a) w w' ∧
      ∀ p, A2 = some p → In a p.block ∨ w.heap.size ≤ p.block := by
  obtain ⟨i0, hi0, hi1, hi2, hi3⟩ := byte_info
  have hs := src_bytes (c := c2) hr
  have hs' : Src Try.prog i0.size 24 (.slice A m c2) m (l.map by8) w := by rw [hi2]; exact hs
  have hkl := h.len
  have hlm := hr.1
  have hcap := h.cap
  have hmax := h.max
  by_cases hfit : n + m ≤ c
  · rcases h.lies with ⟨rfl, rfl⟩ | ⟨g, off, rfl, h1, h2, h3, h4⟩
    · obtain rfl : n = 0 := by omega
      obtain rfl : m = 0 := by omega
      obtain rfl : l = [] := List.eq_nil_of_length_eq_zero hlm
      refine ⟨none, 0, w, run_append_nothing w 24 24 ty 5 i0 Try.underlying24 hi0 none 0 0 (Nat.le_refl _) _ hs', by simpa using h, Only.refl _ w, fun p hp => by cases hp⟩
    · have hc := fun j (hj : j < (l.map by8).length) => h4 (n + j) (by simp at hj; omega)
      have hrun := run_append_room_src (P := Try.prog) w 24 24 ty 5 i0 Try.underlying24 hi0 g off n c _ m _ hs' hfit
        (fun j hj => by rw [hi2, Nat.mul_one, Nat.add_assoc]; exact (hc j hj).1) (fun j hj => by rw [hi2, Nat.mul_one, Nat.add_assoc]; exact (hc j hj).2)
      rw [hi2, Nat.mul_one] at hrun
      have hO := only_setCells g (l.map by8) w (off + n)
      refine ⟨_, _, _, hrun, ⟨by simp [hkl, hlm], hfit, hmax, .inr ⟨g, off, rfl, h1, Nat.lt_of_lt_of_le h2 hO.size, fun j hj => ?_, fun j hj => ?_⟩⟩, hO.mono (fun k _ hk => ⟨_, rfl, hk.symm⟩), fun p hp => .inl ⟨_, rfl, by injection hp with hp; rw [← hp]⟩⟩
      · by_cases hjn : j < n
        · rw [World.cell?_setCells_out g _ _ w ⟨g, off + j, none⟩ (fun _ _ => .inl (by show off + j < off + n; omega)), h3 j hjn, List.getElem?_append_left (by omega)]
        · obtain ⟨i, rfl⟩ : ∃ i, j = n + i := ⟨j - n, by omega⟩
          have hi : i < (l.map by8).length := by simp; omega
          rw [← Nat.add_assoc, World.cell?_setCells_in g _ _ w (fun j hj => by rw [Nat.add_assoc]; exact (hc j hj).1) i hi, List.getElem?_append_right (by omega), hkl, Nat.add_sub_cancel_left]
          simp [by8, List.getElem?_eq_getElem (show i < l.length by simpa using hi)]
      · rw [World.frozen?_setCells]
        refine ⟨?_, (h4 j hj).2⟩
        by_cases hjn : j < n ∨ n + m ≤ j
        · rw [World.cell?_setCells_out g _ _ w ⟨g, off + j, none⟩ (fun _ _ => by
            rcases hjn with h' | h'
            · left; show off + j < off + n; omega
            · right; show off + n + (l.map by8).length ≤ off + j; simp; omega)]
          exact (h4 j hj).1
        · obtain ⟨i, rfl⟩ : ∃ i, j = n + i := ⟨j - n, by omega⟩
          have hi : i < (l.map by8).length := by simp; omega
          rw [← Nat.add_assoc, World.cell?_setCells_in g _ _ w (fun j hj => by rw [Nat.add_assoc]; exact (hc j hj).1) i hi]
          rfl
  · have hold : (Builtin.firstCells i0.size n (.slice a n c)).run Try.prog w.drew = .ok (k.map by8).toArray w.drew := by
      rw [hi2]
      exact (src_bytes (c := c) h.bytes).cellsD
    have hrun := run_append_grow_src (P := Try.prog) w 24 24 ty 5 i0 _ Try.underlying24 hi0 hi1 a n c (k.map by8) hold _ m _ hs' (by omega) (by omega) (growslice_fits (by omega) (by rw [hi3]; omega))
    have hge := grownCap_ge w (n + m) c 5
    have hle := grownCap_le_maxLen w (n + m) c 5 (by unfold maxLen; omega)
    refine ⟨_, _, _, hrun, ?_, ?_, fun p hp => .inr (by injection hp with hp; subst hp; exact Nat.le_refl _)⟩
    · have hown : Own base (w.drew.alloc (.cells ((k.map by8 ++ l.map by8).toArray ++ Builtin.zeroCells (Value.int .u8 0).cells (grownCap w (n + m) c 5 - (n + m))) 5)) (some ⟨w.heap.size, 0, none⟩) (n + m) (grownCap w (n + m) c 5) (k ++ l) := by
        refine ⟨⟨by simp [hkl, hlm], .inr ⟨w.heap.size, _, _, rfl, hbase, heap_alloc_new w.drew _, hge, hle, ?_, ?_⟩⟩, hge⟩
        · simp only [Array.size_append, List.size_toArray, size_zeroCells, List.length_append, List.length_map, hkl, hlm]
          simp [Value.cells]
          omega
        · simp only [Array.toList_append, List.map_append, Nat.mul_one]
          rw [List.take_left' (by simp [hkl, hlm])]
      exact hown.mid
    · exact ⟨rfl, rfl, rfl, by simp, fun i hi _ => heap_alloc_old w.drew _ hi⟩

/-- .. in the walk -/
theorem wpList_mid {w : World} {ops : Array Oper} {rest : List Oper} {o : Oper} {act : Act} {Q : Exit → Act → World → Prop} (hgd : o.guard = none) (s x : Operand)
    (ho : o.op = .call { callee := .builtin .append, args := #[s, x], argTypes := #[24, 24] })
    (base : Nat) {a : Option Addr} {n c : Nat} {k : Bs} (hs : act.eval s = .slice a n c) (hm : Mid base w a n c k)
    {B : Nat} {A : Option Addr} {m c2 : Nat} {l : Bs} (hx : act.eval x = .slice A m c2) (hr : Bytes w B A m l)
    (hroom : n + m ≤ 140737488355328) (hbase : base ≤ w.heap.size)
    (h : ∀ A2 c3 w', Mid base w' A2 (n + m) c3 (k ++ l) → Only (In a) w w' → (∀ p, A2 = some p → In a p.block ∨ w.heap.size ≤ p.block) → wpList Try.prog ops Q rest (act.put o.dst (.slice A2 (n + m) c3)) w') :
    wpList Try.prog ops Q (o :: rest) act w := by
  obtain ⟨A2, c3, w', hrun, h1, h2, h3⟩ := run_mid o.type base hm (c2 := c2) hr hroom hbase
  refine wpList_plain hgd fun K hK => ?_
  unfold Oper.wp execOp
  simp only [ho, resolve, invoke, builtin, Sem.run_bind, Sem.run_pure, Result.andThen_ok, List.map_toArray, List.map_cons, List.map_nil, hs, hx, hrun]
  exact hK _ _ (h A2 c3 w' h1 h2 h3)

end Go.Proofs.Ytanloclkbdameaa
