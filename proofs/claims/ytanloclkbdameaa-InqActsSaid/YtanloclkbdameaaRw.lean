
/- Slices of one-cell values (strings, numbers) of a call's own, that may begin anywhere in their block: appends onto them. -/
import Derived.Test.YtanloclkbdameaaWor
namespace Go.Proofs.Ytanloclkbdameaa
open Go.RowKit

/-- what a slice's type must be -/
structure Elem (st e : TypeId) (z : Value) (wd : Nat) : Prop where
  und : Try.prog.underlying st = some (.slice e)
  info : ∃ i, Try.prog.info? e = some i ∧ i.zero = some z ∧ i.size = 1 ∧ i.bytes = wd
  zc : z.cells = #[z]
  pos : 1 ≤ wd

/-- the slice (a, n) reads as the values vs, below block B -/
def Vals (w : World) (B : Nat) (a : Option Addr) (n : Nat) (vs : List Value) : Prop :=
  vs.length = n ∧ (∀ v ∈ vs, v.oneCell' = true) ∧ (0 < n → ∃ b off, a = some ⟨b, off, none⟩ ∧ b < B ∧ ∀ i v, vs[i]? = some v → w.cell? ⟨b, off + i, none⟩ = some v)

/-- a slice in a block at or above base: what it reads as; its cells up to its capacity are there, and may be written -/
structure Rw (base : Nat) (w : World) (a : Option Addr) (n c : Nat) (vs : List Value) : Prop where
  len : vs.length = n
  cap : n ≤ c
  max : c ≤ maxLen
  one : ∀ v ∈ vs, v.oneCell' = true
  lies : (a = none ∧ c = 0) ∨ ∃ g off, a = some ⟨g, off, none⟩ ∧ base ≤ g ∧ g < w.heap.size ∧
    (∀ j v, vs[j]? = some v → w.cell? ⟨g, off + j, none⟩ = some v) ∧
    ∀ j, j < c → (w.cell? ⟨g, off + j, none⟩).isSome = true ∧ w.frozen? ⟨g, off + j, none⟩ = false

section
variable {base B n c m k : Nat} {w w' : World} {a : Option Addr} {vs : List Value}

theorem Vals.keep (h : Vals w B a n vs) (hk : ∀ p : Addr, p.block < B → w'.cell? p = w.cell? p) : Vals w' B a n vs :=
  ⟨h.1, h.2.1, fun hn => by
    obtain ⟨b, off, e, hlt, hc⟩ := h.2.2 hn
    exact ⟨b, off, e, hlt, fun i v hi => (hk ⟨b, off + i, none⟩ hlt).trans (hc i v hi)⟩⟩

theorem Vals.below (h : Vals w B a n vs) (hb : Below B w w') : Vals w' B a n vs := h.keep fun _ hp => hb.cell hp

theorem Vals.only {S : Nat → Prop} (h : Vals w B a n vs) (hO : Only S w w') (hB : B ≤ w.heap.size) (hs : 0 < n → ∀ p, a = some p → ¬ S p.block) : Vals w' B a n vs :=
  ⟨h.1, h.2.1, fun hn => by
    obtain ⟨b, off, e, hlt, hc⟩ := h.2.2 hn
    exact ⟨b, off, e, hlt, fun i v hi => (hO.cell (p := ⟨b, off + i, none⟩) (Nat.lt_of_lt_of_le hlt hB) (fun hS => hs hn _ e hS)).trans (hc i v hi)⟩⟩

theorem Vals.more (h : Vals w B a n vs) (hB : B ≤ k) : Vals w k a n vs :=
  ⟨h.1, h.2.1, fun hn => by
    obtain ⟨b, off, e, hlt, hc⟩ := h.2.2 hn
    exact ⟨b, off, e, by omega, hc⟩⟩

theorem Rw.lt (h : Rw base w a n c vs) {p : Addr} (hp : a = some p) : base ≤ p.block ∧ p.block < w.heap.size := by
  rcases h.lies with ⟨e, _⟩ | ⟨g, off, e, h1, h2, _⟩
  · rw [e] at hp; cases hp
  · rw [e] at hp; injection hp with hp; subst hp; exact ⟨h1, h2⟩

theorem Rw.inlt (h : Rw base w a n c vs) {b : Nat} (hb : In a b) : base ≤ b ∧ b < w.heap.size := by
  obtain ⟨p, hp, rfl⟩ := hb
  exact h.lt hp

theorem Rw.vals (h : Rw base w a n c vs) : Vals w w.heap.size a n vs := by
  refine ⟨h.len, h.one, fun hn => ?_⟩
  rcases h.lies with ⟨_, hc⟩ | ⟨g, off, e, h1, h2, h3, _⟩
  · have := h.cap; omega
  · exact ⟨g, off, e, h2, h3⟩

theorem Rw.only {S : Nat → Prop} (h : Rw base w a n c vs) (hO : Only S w w') (hS : ∀ b, In a b → ¬ S b) : Rw base w' a n c vs := by
  refine ⟨h.len, h.cap, h.max, h.one, ?_⟩
  rcases h.lies with h0 | ⟨g, off, e, h1, h2, h3, h4⟩
  · exact .inl h0
  · have hg := hS g ⟨_, e, rfl⟩
    refine .inr ⟨g, off, e, h1, Nat.lt_of_lt_of_le h2 hO.size, fun j v hj => ?_, fun j hj => ?_⟩
    · rw [hO.cell (p := ⟨g, off + j, none⟩) h2 hg]; exact h3 j v hj
    · rw [hO.cell (p := ⟨g, off + j, none⟩) h2 hg, hO.frozen (p := ⟨g, off + j, none⟩) h2 hg]; exact h4 j hj

theorem Rw.below (h : Rw base w a n c vs) (hb : Below w.heap.size w w') : Rw base w' a n c vs := h.only (only_of_below hb) fun _ _ h => h

theorem Rw.drewN (h : Rw base w a n c vs) (k : Nat) : Rw base (w.drewN k) a n c vs := h.below (below_drewN (Below.refl _ _) k)

theorem Rw.mono (h : Rw base w a n c vs) (hb : B ≤ base) : Rw B w a n c vs := by
  refine ⟨h.len, h.cap, h.max, h.one, ?_⟩
  rcases h.lies with h0 | ⟨g, off, e, h1, h2⟩
  · exact .inl h0
  · exact .inr ⟨g, off, e, Nat.le_trans hb h1, h2⟩

theorem Rw.nil (base : Nat) (w : World) : Rw base w none 0 0 [] := ⟨rfl, Nat.le_refl _, by unfold maxLen; omega, by simp, .inl ⟨rfl, rfl⟩⟩

theorem Rw.fresh (w : World) (base : Nat) (vs : List Value) (t : TypeId) (hb : base ≤ w.heap.size) (h1 : ∀ v ∈ vs, v.oneCell' = true) (hl : vs.length ≤ maxLen) (fr : Nat × Nat) (hfr : fr = (0, 0)) :
    Rw base (w.alloc (.cells vs.toArray t fr)) (some ⟨w.heap.size, 0, none⟩) vs.length vs.length vs := by
  subst hfr
  have hh := heap_alloc_new w (.cells vs.toArray t)
  refine ⟨rfl, Nat.le_refl _, hl, h1, .inr ⟨_, 0, rfl, hb, by simp, fun j v hj => ?_, fun j hj => ?_⟩⟩
  · rw [cell_of_row _ _ _ _ _ _ hh, Nat.zero_add]; simpa using hj
  · rw [cell_of_row _ _ _ _ _ _ hh, frozen_of_row _ _ _ _ _ hh, Nat.zero_add]
    exact ⟨by simp [hj], rfl⟩

theorem Vals.nil (w : World) (B : Nat) (a : Option Addr) : Vals w B a 0 [] := ⟨rfl, by simp, fun h => absurd h (by omega)⟩

/-- a literal of one value -/
theorem Vals.lit (w : World) (vs : List Value) (t : TypeId) (h1 : ∀ v ∈ vs, v.oneCell' = true) (fr : Nat × Nat) (C : Array Value) (hC : C = vs.toArray) : Vals (w.alloc (.cells C t fr)) (w.heap.size + 1) (some ⟨w.heap.size, 0, none⟩) vs.length vs := by
  subst hC
  have hh := heap_alloc_new w (.cells vs.toArray t fr)
  refine ⟨rfl, h1, fun _ => ⟨_, 0, rfl, by omega, fun j v hj => ?_⟩⟩
  rw [cell_of_row _ _ _ _ _ _ hh, Nat.zero_add]; simpa using hj

end

theorem src_vals {st e : TypeId} {z : Value} {wd : Nat} (he : Elem st e z wd) {w : World} {B : Nat} {A : Option Addr} {m c : Nat} {vs : List Value} (hr : Vals w B A m vs) : Src Try.prog 1 st (.slice A m c) m vs w := by
  rcases A with _ | ad
  · have hm : m = 0 := by
      rcases Nat.eq_zero_or_pos m with h | h
      · exact h
      · obtain ⟨_, _, h', _⟩ := hr.2.2 h
        cases h'
    subst hm
    have hl : vs = [] := List.eq_nil_of_length_eq_zero hr.1
    subst hl
    exact Src.ofNil w he.und c
  · refine Src.ofSlice w he.und ad m c vs (by simp [hr.1]) ?_ hr.2.1
    intro j u hu
    have hj : j < vs.length := by
      rcases Nat.lt_or_ge j vs.length with h | h
      · exact h
      · rw [List.getElem?_eq_none h] at hu; cases hu
    obtain ⟨b, off, h, _, hc⟩ := hr.2.2 (by have := hr.1; omega)
    injection h with h
    subst h
    rw [add_none]
    exact hc j u hu

/-- an append of values onto such a slice -/
theorem run_rw {st e : TypeId} {z : Value} {wd : Nat} (he : Elem st e z wd) (ty : TypeId) (base : Nat) {w : World} {a : Option Addr} {n c : Nat} {k : List Value} (h : Rw base w a n c k) {B : Nat} {A : Option Addr} {m c2 : Nat} {l : List Value} (hr : Vals w B A m l)
    (hroom : (n + m) * wd ≤ 140737488355328) (hbase : base ≤ w.heap.size) :
    ∃ A2 c3 w', (Builtin.append_ #[st, st] ty #[.slice a n c, .slice A m c2]).run Try.prog w = .ok (.slice A2 (n + m) c3) w' ∧ Rw base w' A2 (n + m) c3 (k ++ l) ∧ Only (In a) w w' ∧
      ∀ b, In A2 b → In a b ∨ w.heap.size ≤ b := by
  obtain ⟨i0, hi0, hi1, hi2, hi3⟩ := he.info
  have hs := src_vals he (c := c2) hr
  have hs' : Src Try.prog i0.size st (.slice A m c2) m l w := by rw [hi2]; exact hs
  have hkl := h.len
  have hlm := hr.1
  have hcap := h.cap
  have hmax := h.max
  have hwd := he.pos
  have hone : ∀ v ∈ k ++ l, v.oneCell' = true := by
    intro v hv
    rcases List.mem_append.1 hv with hv | hv
    · exact h.one v hv
    · exact hr.2.1 v hv
  have hle2 : n + m ≤ 140737488355328 := Nat.le_trans (Nat.le_mul_of_pos_right _ hwd) hroom
  by_cases hfit : n + m ≤ c
  · rcases h.lies with ⟨rfl, rfl⟩ | ⟨g, off, rfl, h1, h2, h3, h4⟩
    · obtain rfl : n = 0 := by omega
      obtain rfl : m = 0 := by omega
      obtain rfl : l = [] := List.eq_nil_of_length_eq_zero hlm
      refine ⟨none, 0, w, run_append_nothing w st st ty e i0 he.und hi0 none 0 0 (Nat.le_refl _) _ hs', by simpa using h, Only.refl _ w, fun b hb => .inl hb⟩
    · have hc := fun j (hj : j < l.length) => h4 (n + j) (by omega)
      have hrun := run_append_room_src (P := Try.prog) w st st ty e i0 he.und hi0 g off n c _ m _ hs' hfit
        (fun j hj => by rw [hi2, Nat.mul_one, Nat.add_assoc]; exact (hc j hj).1) (fun j hj => by rw [hi2, Nat.mul_one, Nat.add_assoc]; exact (hc j hj).2)
      rw [hi2, Nat.mul_one] at hrun
      have hO := only_setCells g l w (off + n)
      refine ⟨_, _, _, hrun, ⟨by simp [hkl, hlm], hfit, hmax, hone, .inr ⟨g, off, rfl, h1, Nat.lt_of_lt_of_le h2 hO.size, fun j v hj => ?_, fun j hj => ?_⟩⟩, hO.mono (fun k _ hk => ⟨_, rfl, hk.symm⟩), fun b hb => .inl hb⟩
      · by_cases hjn : j < n
        · rw [World.cell?_setCells_out g _ _ w ⟨g, off + j, none⟩ (fun _ _ => .inl (by show off + j < off + n; omega))]
          rw [List.getElem?_append_left (by omega)] at hj
          exact h3 j v hj
        · obtain ⟨i, rfl⟩ : ∃ i, j = n + i := ⟨j - n, by omega⟩
          have hi : i < l.length := by
            rcases Nat.lt_or_ge i l.length with h' | h'
            · exact h'
            · rw [List.getElem?_eq_none (by simp; omega)] at hj; cases hj
          rw [← Nat.add_assoc, World.cell?_setCells_in g _ _ w (fun j hj => by rw [Nat.add_assoc]; exact (hc j hj).1) i hi]
          rw [List.getElem?_append_right (by omega), hkl, Nat.add_sub_cancel_left, List.getElem?_eq_getElem hi] at hj
          exact hj
      · rw [World.frozen?_setCells]
        refine ⟨?_, (h4 j hj).2⟩
        by_cases hjn : j < n ∨ n + m ≤ j
        · rw [World.cell?_setCells_out g _ _ w ⟨g, off + j, none⟩ (fun _ _ => by
            rcases hjn with h' | h'
            · left; show off + j < off + n; omega
            · right; show off + n + l.length ≤ off + j; omega)]
          exact (h4 j hj).1
        · obtain ⟨i, rfl⟩ : ∃ i, j = n + i := ⟨j - n, by omega⟩
          have hi : i < l.length := by omega
          rw [← Nat.add_assoc, World.cell?_setCells_in g _ _ w (fun j hj => by rw [Nat.add_assoc]; exact (hc j hj).1) i hi]
          rfl
  · have hold : (Builtin.firstCells i0.size n (.slice a n c)).run Try.prog w.drew = .ok k.toArray w.drew := by
      rw [hi2]
      exact (src_vals he (c := c) h.vals).cellsD
    have hrun := run_append_grow_src (P := Try.prog) w st st ty e i0 _ he.und hi0 hi1 a n c k hold _ m _ hs' (by omega) (by omega) (growslice_fits (by omega) (by rw [hi3]; exact hroom))
    have hge := grownCap_ge w (n + m) c e
    have hle := grownCap_le_maxLen w (n + m) c e (by unfold maxLen; omega)
    refine ⟨_, _, _, hrun, ?_, ?_, fun b hb => .inr (by obtain ⟨p, hp, rfl⟩ := hb; injection hp with hp; subst hp; exact Nat.le_refl _)⟩
    · have hh := heap_alloc_new w.drew (.cells ((k ++ l).toArray ++ Builtin.zeroCells z.cells (grownCap w (n + m) c e - (n + m))) e)
      have hsz : ((k ++ l).toArray ++ Builtin.zeroCells z.cells (grownCap w (n + m) c e - (n + m))).size = grownCap w (n + m) c e := by
        simp only [Array.size_append, List.size_toArray, size_zeroCells, List.length_append, hkl, hlm]
        simp [he.zc]
        omega
      refine ⟨by simp [hkl, hlm], hge, hle, hone, .inr ⟨_, 0, rfl, hbase, by simp, fun j v hj => ?_, fun j hj => ?_⟩⟩
      · have hjl : j < (k ++ l).length := by
          rcases Nat.lt_or_ge j (k ++ l).length with h' | h'
          · exact h'
          · rw [List.getElem?_eq_none h'] at hj; cases hj
        show World.cell? _ ⟨w.drew.heap.size, 0 + j, none⟩ = _
        rw [cell_of_row _ _ _ _ _ _ hh, Nat.zero_add, Array.getElem?_append_left (by simpa using hjl)]
        simpa using hj
      · show (World.cell? _ ⟨w.drew.heap.size, 0 + j, none⟩).isSome = true ∧ World.frozen? _ ⟨w.drew.heap.size, 0 + j, none⟩ = false
        rw [cell_of_row _ _ _ _ _ _ hh, frozen_of_row _ _ _ _ _ hh, Nat.zero_add]
        exact ⟨by rw [Array.getElem?_eq_getElem (by rw [hsz]; exact hj)]; rfl, rfl⟩
    · exact ⟨rfl, rfl, rfl, by simp, fun i hi _ => heap_alloc_old w.drew _ hi⟩

/-- .. in the walk -/
theorem wpList_rw {st e : TypeId} {z : Value} {wd : Nat} (he : Elem st e z wd) {w : World} {ops : Array Oper} {rest : List Oper} {o : Oper} {act : Act} {Q : Exit → Act → World → Prop} (hgd : o.guard = none) (s x : Operand)
    (ho : o.op = .call { callee := .builtin .append, args := #[s, x], argTypes := #[st, st] })
    (base : Nat) {a : Option Addr} {n c : Nat} {k : List Value} (hs : act.eval s = .slice a n c) (hm : Rw base w a n c k)
    {B : Nat} {A : Option Addr} {m c2 : Nat} {l : List Value} (hx : act.eval x = .slice A m c2) (hr : Vals w B A m l)
    (hroom : (n + m) * wd ≤ 140737488355328) (hbase : base ≤ w.heap.size)
    (h : ∀ A2 c3 w', Rw base w' A2 (n + m) c3 (k ++ l) → Only (In a) w w' → (∀ b, In A2 b → In a b ∨ w.heap.size ≤ b) → wpList Try.prog ops Q rest (act.put o.dst (.slice A2 (n + m) c3)) w') :
    wpList Try.prog ops Q (o :: rest) act w := by
  obtain ⟨A2, c3, w', hrun, h1, h2, h3⟩ := run_rw he o.type base hm (c2 := c2) hr hroom hbase
  refine wpList_plain hgd fun K hK => ?_
  unfold Oper.wp execOp
  simp only [ho, resolve, invoke, builtin, Sem.run_bind, Sem.run_pure, Result.andThen_ok, List.map_toArray, List.map_cons, List.map_nil, hs, hx, hrun]
  exact hK _ _ (h A2 c3 w' h1 h2 h3)

/-- .. where the operation is guarded, and wanted -/
theorem wpList_rwg {st e : TypeId} {z : Value} {wd : Nat} (he : Elem st e z wd) {w : World} {ops : Array Oper} {rest : List Oper} {o : Oper} {act : Act} {Q : Exit → Act → World → Prop} (hw : Region.wanted o (yielded ops act.tmps) = true) (s x : Operand)
    (ho : o.op = .call { callee := .builtin .append, args := #[s, x], argTypes := #[st, st] })
    (base : Nat) {a : Option Addr} {n c : Nat} {k : List Value} (hs : act.eval s = .slice a n c) (hm : Rw base w a n c k)
    {B : Nat} {A : Option Addr} {m c2 : Nat} {l : List Value} (hx : act.eval x = .slice A m c2) (hr : Vals w B A m l)
    (hroom : (n + m) * wd ≤ 140737488355328) (hbase : base ≤ w.heap.size)
    (h : ∀ A2 c3 w', Rw base w' A2 (n + m) c3 (k ++ l) → Only (In a) w w' → (∀ b, In A2 b → In a b ∨ w.heap.size ≤ b) → wpList Try.prog ops Q rest (act.put o.dst (.slice A2 (n + m) c3)) w') :
    wpList Try.prog ops Q (o :: rest) act w := by
  obtain ⟨A2, c3, w', hrun, h1, h2, h3⟩ := run_rw he o.type base hm (c2 := c2) hr hroom hbase
  refine BigFrame.wpList_want hw fun K hK => ?_
  unfold Oper.wp execOp
  simp only [ho, resolve, invoke, builtin, Sem.run_bind, Sem.run_pure, Result.andThen_ok, List.map_toArray, List.map_cons, List.map_nil, hs, hx, hrun]
  exact hK _ _ (h A2 c3 w' h1 h2 h3)

/-- .. in a region that draws its order -/
theorem step_rw {st e : TypeId} {z : Value} {wd : Nat} (he : Elem st e z wd) {ops : Array Oper} {o : Oper} {act : Act} {w : World} {K : Act → World → Prop} {Q : Exit → Act → World → Prop} {E : Prop} (hgd : o.guard = none) (s x : Operand)
    (ho : o.op = .call { callee := .builtin .append, args := #[s, x], argTypes := #[st, st] })
    (base : Nat) {a : Option Addr} {n c : Nat} {k : List Value} (hs : act.eval s = .slice a n c) (hm : Rw base w a n c k)
    {B : Nat} {A : Option Addr} {m c2 : Nat} {l : List Value} (hx : act.eval x = .slice A m c2) (hr : Vals w B A m l)
    (hroom : (n + m) * wd ≤ 140737488355328) (hbase : base ≤ w.heap.size)
    (h : ∀ A2 c3 w', Rw base w' A2 (n + m) c3 (k ++ l) → Only (In a) w w' → (∀ b, In A2 b → In a b ∨ w.heap.size ≤ b) → K (act.put o.dst (.slice A2 (n + m) c3)) w') :
    if Region.wanted o (yielded ops act.tmps) = true then Oper.wp Try.prog o act w K Q else E := by
  have hw : Region.wanted o (yielded ops act.tmps) = true := by simp [Region.wanted, hgd]
  rw [if_pos hw]
  obtain ⟨A2, c3, w', hrun, h1, h2, h3⟩ := run_rw he o.type base hm (c2 := c2) hr hroom hbase
  unfold Oper.wp execOp
  simp only [ho, resolve, invoke, builtin, Sem.run_bind, Sem.run_pure, Result.andThen_ok, List.map_toArray, List.map_cons, List.map_nil, hs, hx, hrun]
  exact h A2 c3 w' h1 h2 h3

/-- numbers as cells -/
def ints (l : List Int) : List Value := l.map (Value.int .i64)
theorem ints_len (l : List Int) : (ints l).length = l.length := by simp [ints]
theorem ints_app (l m : List Int) : ints (l ++ m) = ints l ++ ints m := by simp [ints]
theorem ints_one (l : List Int) : ∀ v ∈ ints l, v.oneCell' = true := by
  intro v hv
  simp only [ints, List.mem_map] at hv
  obtain ⟨x, _, rfl⟩ := hv
  rfl
theorem ints_get (l : List Int) (j : Nat) (hj : j < l.length) : (ints l)[j]? = some (.int .i64 (l.getD j 0)) := by
  simp [ints, List.getElem?_eq_getElem hj, List.getD_eq_getElem?_getD]

theorem ints_at {w : World} {B n : Nat} {a : Option Addr} {l : List Int} (h : Vals w B a n (ints l)) (hn : 0 < n) :
    ∃ b off, a = some ⟨b, off, none⟩ ∧ b < B ∧ ∀ j, j < n → w.cell? ⟨b, off + j, none⟩ = some (.int .i64 (l.getD j 0)) := by
  obtain ⟨b, off, e, hlt, hc⟩ := h.2.2 hn
  have hl := h.1
  rw [ints_len] at hl
  exact ⟨b, off, e, hlt, fun j hj => hc j _ (ints_get l j (by omega))⟩

/-- a cut of such a slice: '[:k]', '[k:]' -/
theorem Vals.take {w : World} {B n : Nat} {a : Option Addr} {l : List Int} (h : Vals w B a n (ints l)) {k : Nat} (hk : k ≤ n) : Vals w B a k (ints (l.take k)) := by
  have hl := h.1
  rw [ints_len] at hl
  refine ⟨by rw [ints_len, List.length_take]; omega, ints_one _, fun hn => ?_⟩
  obtain ⟨b, off, e, hlt, hc⟩ := h.2.2 (by omega)
  refine ⟨b, off, e, hlt, fun i v hi => hc i v ?_⟩
  have hik : i < k := by
    rcases Nat.lt_or_ge i k with h' | h'
    · exact h'
    · rw [List.getElem?_eq_none (by rw [ints_len, List.length_take]; omega)] at hi; cases hi
  rw [← hi]
  simp [ints, hik]

theorem Vals.drop {w : World} {B n cap : Nat} {a : Option Addr} {l : List Int} (h : Vals w B a n (ints l)) {k : Nat} (hk : k ≤ n) (hc : n ≤ cap) : Vals w B (cutA a cap k) (n - k) (ints (l.drop k)) := by
  have hl := h.1
  rw [ints_len] at hl
  refine ⟨by rw [ints_len, List.length_drop]; omega, ints_one _, fun hn => ?_⟩
  obtain ⟨b, off, e, hlt, hcell⟩ := h.2.2 (by omega)
  subst e
  unfold cutA
  rw [if_neg (by omega)]
  refine ⟨b, off + k, by simp [add_none], hlt, fun i v hi => ?_⟩
  rw [Nat.add_assoc]
  refine hcell _ v ?_
  rw [← hi]
  simp [ints, List.getElem?_drop]

end Go.Proofs.Ytanloclkbdameaa
