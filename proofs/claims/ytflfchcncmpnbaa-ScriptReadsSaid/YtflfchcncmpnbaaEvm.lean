/- Slices of events in memory: those that come in, rows of a call's own, appends onto them. -/
import Derived.Test.YtflfchcncmpnbaaBase
import Derived.Test.YtflfchcncmpnbaaIno
import Derived.Test.YtflfchcncmpnbaaBx
import Derived.Test.YtflfchcncmpnbaaBs
import Derived.Test.YtflfchcncmpnbaaSc
import Derived.Maps.AppendAt
import Derived.ArgAppend
import Derived.Lib.SmallJoins
namespace Go.Proofs.Ytflfchcncmpnbaa
open Go.ChangeShapes Go.WideShapes Go.ChangeAt Go.RowKit Go.Deep
open Sc (Ev evs evb rtE)

/-- an event as cells -/
def evc (e : Ev) : List Value := [.int .i64 e.k, .int .i64 e.i, .int .i64 e.n, .string (str e.t)]
def evv (e : Ev) : Value := .agg #[.int .i64 e.k, .int .i64 e.i, .int .i64 e.n, .string (str e.t)]
def ecells (L : List Ev) : List Value := L.flatMap evc

theorem ecells_len (L : List Ev) : (ecells L).length = L.length * 4 := by
  induction L with
  | nil => rfl
  | cons e L ih => simp [ecells, evc] at ih ⊢; omega
theorem ecells_app (L M : List Ev) : ecells (L ++ M) = ecells L ++ ecells M := by simp [ecells]
theorem ecells_get : ∀ (L : List Ev) (r : Nat) (e : Ev), L[r]? = some e → (ecells L)[r * 4]? = some (.int .i64 e.k) ∧ (ecells L)[r * 4 + 1]? = some (.int .i64 e.i) ∧ (ecells L)[r * 4 + 2]? = some (.int .i64 e.n) ∧ (ecells L)[r * 4 + 3]? = some (.string (str e.t))
  | [], r, e, h => by simp at h
  | x :: L, 0, e, h => by
    simp at h
    subst h
    exact ⟨rfl, rfl, rfl, rfl⟩
  | x :: L, r + 1, e, h => by
    have := ecells_get L r e (by simpa using h)
    rw [show (r + 1) * 4 = r * 4 + 4 by omega]
    exact this
theorem ecells_one (L : List Ev) : ∀ u ∈ ecells L, u.oneCell' = true := by
  intro u hu
  unfold ecells at hu
  rw [List.mem_flatMap] at hu
  obtain ⟨e, _, he⟩ := hu
  simp [evc] at he
  rcases he with rfl | rfl | rfl | rfl <;> rfl

/-- the slice a holds these events -/
structure EvIn (w : World) (B : Nat) (a : Option Addr) (L : List Ev) : Prop where
  outer : 0 < L.length → ∃ b off, a = some ⟨b, off, none⟩ ∧ b < B ∧ ∀ r e, L[r]? = some e → w.cell? ⟨b, off + r * 4, none⟩ = some (.int .i64 e.k) ∧ w.cell? ⟨b, off + r * 4 + 1, none⟩ = some (.int .i64 e.i) ∧ w.cell? ⟨b, off + r * 4 + 2, none⟩ = some (.int .i64 e.n) ∧ w.cell? ⟨b, off + r * 4 + 3, none⟩ = some (.string (str e.t))
  inner : ∀ e ∈ L, e.t.length ≤ maxLen

section
variable {w w' : World} {B : Nat} {a : Option Addr} {L : List Ev}
theorem EvIn.keep (h : EvIn w B a L) (hb : ∀ p : Addr, p.block < B → w'.cell? p = w.cell? p) : EvIn w' B a L :=
  ⟨fun hn => by
    obtain ⟨b, off, e, hlt, hc⟩ := h.outer hn
    exact ⟨b, off, e, hlt, fun r m hr => ⟨(hb ⟨b, off + r * 4, none⟩ hlt).trans (hc r m hr).1, (hb ⟨b, off + r * 4 + 1, none⟩ hlt).trans (hc r m hr).2.1, (hb ⟨b, off + r * 4 + 2, none⟩ hlt).trans (hc r m hr).2.2.1, (hb ⟨b, off + r * 4 + 3, none⟩ hlt).trans (hc r m hr).2.2.2⟩⟩,
   h.inner⟩
theorem EvIn.below (h : EvIn w B a L) (hb : Below B w w') : EvIn w' B a L := h.keep fun _ hp => hb.cell hp
theorem EvIn.more {B' : Nat} (h : EvIn w B a L) (hB : B ≤ B') : EvIn w B' a L :=
  ⟨fun hn => by
    obtain ⟨b, off, e, hlt, hc⟩ := h.outer hn
    exact ⟨b, off, e, by omega, hc⟩, h.inner⟩
theorem EvIn.take (h : EvIn w B a L) (k : Nat) : EvIn w B a (L.take k) := by
  refine ⟨fun hn => ?_, fun m hm => h.inner m (List.mem_of_mem_take hm)⟩
  obtain ⟨b, off, e, hlt, hc⟩ := h.outer (by simp at hn; omega)
  refine ⟨b, off, e, hlt, fun r m hr => hc r m ?_⟩
  rw [List.getElem?_take] at hr
  split at hr
  · exact hr
  · simp at hr
theorem EvIn.nil (w : World) (B : Nat) (a : Option Addr) : EvIn w B a [] := ⟨fun h => absurd h (by simp), fun r hr => absurd hr (by simp)⟩
/-- the cells behind the slice's begin -/
theorem EvIn.src (h : EvIn w B a L) (hn : 0 < L.length) : ∃ ad, a = some ad ∧ ad.block < B ∧ ∀ j u, (ecells L)[j]? = some u → w.cell? (ad.add j) = some u := by
  obtain ⟨b, off, rfl, hlt, hc⟩ := h.outer hn
  refine ⟨_, rfl, hlt, fun j u hu => ?_⟩
  have hj : j < L.length * 4 := by
    rcases Nat.lt_or_ge j (ecells L).length with h' | h'
    · rw [ecells_len] at h'; exact h'
    · rw [List.getElem?_eq_none h'] at hu; cases hu
  have hr : j / 4 < L.length := by omega
  have he := List.getElem?_eq_getElem hr
  obtain ⟨g0, g1, g2, g3⟩ := ecells_get L (j / 4) _ he
  obtain ⟨c0, c1, c2, c3⟩ := hc (j / 4) _ he
  rw [add_none]
  rcases (show j = j / 4 * 4 ∨ j = j / 4 * 4 + 1 ∨ j = j / 4 * 4 + 2 ∨ j = j / 4 * 4 + 3 by omega) with hq | hq | hq | hq
  · rw [hq] at hu ⊢; rw [g0] at hu; rw [← hu]; exact c0
  · rw [hq] at hu ⊢; rw [g1] at hu; rw [← hu, ← Nat.add_assoc]; exact c1
  · rw [hq] at hu ⊢; rw [g2] at hu; rw [← hu, ← Nat.add_assoc]; exact c2
  · rw [hq] at hu ⊢; rw [g3] at hu; rw [← hu, ← Nat.add_assoc]; exact c3
end

/-- a slice of events of a call's own -/
structure EvRow (base : Nat) (w : World) (a : Option Addr) (n c : Nat) (L : List Ev) : Prop where
  row : w.ownsRow base 30 4 (.slice a n c) n (ecells L)
  cap : n ≤ c
  inner : ∀ e ∈ L, e.t.length ≤ maxLen

theorem own_belowk {base e k n : Nat} {v : Value} {xs : List Value} {w w' : World} (h : w.ownsRow base e k v n xs) (hb : Below w.heap.size w w') : w'.ownsRow base e k v n xs := by
  refine ⟨h.1, ?_⟩
  rcases h.2 with h1 | ⟨g, cap, cur, h1, h2, h3, h4⟩
  · exact .inl h1
  · refine .inr ⟨g, cap, cur, h1, h2, ?_, h4⟩
    have hlt : g < w.heap.size := by
      rcases Nat.lt_or_ge g w.heap.size with h' | h'
      · exact h'
      · rw [Array.getElem?_eq_none h'] at h3; cases h3
    exact (hb.block g hlt).trans h3

section
variable {base n c : Nat} {w w' : World} {a : Option Addr} {L : List Ev}
theorem EvRow.len (h : EvRow base w a n c L) : L.length = n := by
  have := h.row.1
  rw [ecells_len] at this
  omega
theorem EvRow.below (h : EvRow base w a n c L) (hb : Below w.heap.size w w') : EvRow base w' a n c L := ⟨own_belowk h.row hb, h.cap, h.inner⟩
theorem EvRow.mono {base' : Nat} (h : EvRow base w a n c L) (hb : base' ≤ base) : EvRow base' w a n c L := by
  refine ⟨⟨h.row.1, ?_⟩, h.cap, h.inner⟩
  rcases h.row.2 with h0 | ⟨g, cap, cur, e, hb2, hrest⟩
  · exact .inl h0
  · exact .inr ⟨g, cap, cur, e, Nat.le_trans hb hb2, hrest⟩
theorem EvRow.nil (base : Nat) (w : World) : EvRow base w none 0 0 [] := ⟨⟨rfl, .inl ⟨rfl, rfl⟩⟩, Nat.le_refl _, fun _ h => by cases h⟩
theorem EvRow.empty (w : World) (hb : base ≤ w.heap.size) : EvRow base (w.alloc (.cells #[] 30)) (some ⟨w.heap.size, 0, none⟩) 0 0 [] :=
  ⟨⟨rfl, .inr ⟨w.heap.size, 0, #[], rfl, hb, heap_alloc_new w _, Nat.le_refl _, Nat.zero_le _, rfl, rfl⟩⟩, Nat.le_refl _, fun _ h => by cases h⟩
theorem EvRow.evin (h : EvRow base w a n c L) : EvIn w w.heap.size a L := by
  refine ⟨fun hn => ?_, h.inner⟩
  obtain ⟨g, cap, hv, h1, h2⟩ := h.row.form (by have := h.len; omega)
  injection hv with hv
  subst hv
  refine ⟨g, 0, rfl, h2, fun r e hr => ?_⟩
  obtain ⟨h3, h4, h5, h6⟩ := ecells_get L r e hr
  have c3 := h.row.cells (g := g) rfl _ _ h3
  have c4 := h.row.cells (g := g) rfl _ _ h4
  have c5 := h.row.cells (g := g) rfl _ _ h5
  have c6 := h.row.cells (g := g) rfl _ _ h6
  rw [add_none] at c3 c4 c5 c6
  exact ⟨c3, by rw [Nat.add_assoc]; exact c4, by rw [Nat.add_assoc]; exact c5, by rw [Nat.add_assoc]; exact c6⟩
end

theorem ev_info : ∃ i, Try.prog.info? 30 = some i ∧ i.zero = some (.agg #[.int .i64 0, .int .i64 0, .int .i64 0, .string ⟨#[]⟩]) ∧ i.size = 4 ∧ i.bytes = 40 := info_parts (by kernel_rfl)

theorem run_eapp (ty : TypeId) {base n c : Nat} {w : World} {a : Option Addr} {L : List Ev} (h : EvRow base w a n c L) {B : Nat} {A : Option Addr} {m c2 : Nat} {M : List Ev} (hs : EvIn w B A M) (hm : M.length = m)
    (hroom : n + m ≤ 3000000000000) (hbase : base ≤ w.heap.size) :
    ∃ A2 c3 w', (Builtin.append_ #[24, 24] ty #[.slice a n c, .slice A m c2]).run Try.prog w = .ok (.slice A2 (n + m) c3) w' ∧ EvRow base w' A2 (n + m) c3 (L ++ M) ∧ Below base w w' := by
  obtain ⟨i0, hi0, hi1, hi2, hi3⟩ := ev_info
  by_cases h0 : m = 0
  · subst h0
    have hM : M = [] := List.eq_nil_of_length_eq_zero hm
    subst hM
    refine ⟨a, c, w, ?_, by simpa using h, Below.refl _ w⟩
    have hcap := h.cap
    refine run_append_nothing w 24 24 ty 30 i0 Try.underlying24 hi0 a n c hcap _ ?_
    rcases A with _ | ad
    · exact Src.ofNil w Try.underlying24 c2
    · exact Src.ofSlice w Try.underlying24 ad 0 c2 [] (by simp) (by intro j u hu; simp at hu) (by intro u hu; cases hu)
  · obtain ⟨ad, rfl, _, hc⟩ := hs.src (by omega)
    obtain ⟨v', w', hrun, h1, h2, _, _⟩ := run_append_own_at (P := Try.prog) (w := w) base 24 ty 30 i0 _ 4 40 Try.underlying24 hi0 hi1 hi2 hi3 rfl (by omega) (.slice a n c) n (ecells L) h.row ad m c2 (ecells M)
      (by rw [ecells_len, hm]) hc (ecells_one M) (by unfold maxLen; omega) (by omega) hbase
    have hform : ∃ A2 c3, v' = .slice A2 (n + m) c3 ∧ n + m ≤ c3 := by
      rcases h1.2 with ⟨rfl, h0⟩ | ⟨g, cap, cur, rfl, _, _, h5, _⟩
      · omega
      · exact ⟨_, cap, rfl, h5⟩
    obtain ⟨A2, c3, rfl, hc3⟩ := hform
    refine ⟨A2, c3, w', hrun, ⟨by rw [ecells_app]; exact h1, hc3, fun e he => ?_⟩, (Below.refl _ _).grown h2 hbase (fun g hg => (h.row.lt g hg).1)⟩
    rcases List.mem_append.1 he with h' | h'
    · exact h.inner e h'
    · exact hs.inner e h'

/-- an append of events, in the walk -/
theorem wpList_eapp {w : World} {ops : Array Oper} {rest : List Oper} {o : Oper} {act : Act} {Q : Exit → Act → World → Prop} (hgd : o.guard = none) (s x : Operand)
    (hop : o.op = .call { callee := .builtin .append, args := #[s, x], argTypes := #[24, 24] })
    {base n c : Nat} {a : Option Addr} {L : List Ev} (hv : act.eval s = .slice a n c) (h : EvRow base w a n c L) {B : Nat} {A : Option Addr} {m c2 : Nat} {M : List Ev} (hx : act.eval x = .slice A m c2) (hs : EvIn w B A M) (hm : M.length = m)
    (hroom : n + m ≤ 3000000000000) (hbase : base ≤ w.heap.size)
    (hk : ∀ A2 c3 w', EvRow base w' A2 (n + m) c3 (L ++ M) → Below base w w' → wpList Try.prog ops Q rest (act.put o.dst (.slice A2 (n + m) c3)) w') :
    wpList Try.prog ops Q (o :: rest) act w := by
  obtain ⟨A2, c3, w', hrun, h1, h2⟩ := run_eapp o.type h (c2 := c2) hs hm hroom hbase
  refine wpList_plain hgd fun K hK => ?_
  unfold Oper.wp execOp
  simp only [hop, resolve, invoke, builtin, Sem.run_bind, Sem.run_pure, Result.andThen_ok, List.map_toArray, List.map_cons, List.map_nil, hv, hx, hrun]
  exact hK _ _ (hk A2 c3 w' h1 h2)

/-- one event that was just laid as a row -/
theorem ev_one (w : World) (e : Ev) (he : e.t.length ≤ maxLen) (t : TypeId) : EvIn (w.alloc (.cells #[.int .i64 e.k, .int .i64 e.i, .int .i64 e.n, .string (str e.t)] t)) (w.heap.size + 1) (some ⟨w.heap.size, 0, none⟩) [e] := by
  refine ⟨fun _ => ⟨w.heap.size, 0, rfl, by omega, fun r x hr => ?_⟩, fun x hx => by simp at hx; subst hx; exact he⟩
  have h := Bx.new w _ rfl #[.int .i64 e.k, .int .i64 e.i, .int .i64 e.n, .string (str e.t)] t
  rcases r with _ | r
  · simp at hr
    subst hr
    exact ⟨h.cell 0 _ rfl, h.cell 1 _ rfl, h.cell 2 _ rfl, h.cell 3 _ rfl⟩
  · simp at hr

section
variable {H : Type} {enc : TypeId × Value → H} {W : World} {held : Bool}
theorem open_event {b0 : Nat} {v : Value} {d : DataW H} {p : List MemPlace} (hval : Value.okWide Try.prog W .any b0 30 v) (h : DataW.Trod enc Try.prog W 0 (fun _ => true) held 30 v d p) :
    ∃ e : Ev, v = evv e ∧ e.t.length ≤ maxLen := by
  obtain ⟨v0, v1, v2, v3, y0, y1, y2, y3, n, rfl, _, _, h0, h1, h2, h3⟩ := Joins.open_agg4 Try.underlying30 (by kernel_rfl) (by kernel_rfl) hval h
  obtain ⟨k, e0, _, wk⟩ := DataW.trod_int Try.underlying28 h0
  obtain ⟨a, e1, _, wa⟩ := DataW.trod_int Try.underlying3 h1
  obtain ⟨b, e2, _, wb⟩ := DataW.trod_int Try.underlying3 h2
  obtain ⟨s, e3, _, hs⟩ := DataW.trod_string Try.underlying9 h3
  simp only [List.cons.injEq, and_true] at e0 e1 e2 e3
  subst e0 e1 e2 e3
  exact ⟨⟨k, a, b, bsOf s⟩, by unfold evv; rw [str_bsOf], by rw [bsOf_len]; exact hs⟩

theorem open_events {fuel : Nat} {a : Option Addr} {n cap : Nat} {x : DataW H × List MemPlace} (h : DataW.trod enc Try.prog W 0 (fun _ => true) held fuel 24 [.slice a n cap] = some x) :
    ∃ T : List Ev, EvIn W W.heap.size a T ∧ T.length = n ∧ n ≤ cap ∧ cap ≤ maxLen := by
  have hce : Try.prog.cellsOf 30 = 4 := by kernel_rfl
  rcases open_slice Try.underlying24 h with ⟨hcs, rfl⟩ | ⟨ad, len, cp, m, k, D, Pl, hcs, _, hl, hm, hmm, rfl, hi⟩
  · simp at hcs
    obtain ⟨rfl, rfl, rfl⟩ := hcs
    exact ⟨[], EvIn.nil _ _ _, rfl, Nat.le_refl _, Nat.zero_le _⟩
  · simp at hcs
    obtain ⟨rfl, rfl, rfl⟩ := hcs
    simp only [if_true] at hmm
    subst hmm
    have each : ∀ r, r < n → ∃ y : Ev, W.cell? (ad.add (r * 4)) = some (.int .i64 y.k) ∧ W.cell? (ad.add (r * 4 + 1)) = some (.int .i64 y.i) ∧ W.cell? (ad.add (r * 4 + 2)) = some (.int .i64 y.n) ∧ W.cell? (ad.add (r * 4 + 3)) = some (.string (str y.t)) ∧ y.t.length ≤ maxLen := by
      intro r hr
      obtain ⟨cs, hc, ht⟩ := hi r (by omega)
      rw [hce] at hc
      have hcl := (World.cells?_some hc).2.1
      obtain ⟨n0, l0, y0, e0, g0, t0⟩ := part_of Try.underlying30 ht hcl 0 _ rfl rfl (by kernel_rfl)
      have c0 := cell_of_part hc 0 (by omega)
      rw [add_add] at c0
      obtain ⟨n1, l1, y1, e1, g1, t1⟩ := part_of Try.underlying30 ht hcl 1 _ rfl rfl (by kernel_rfl)
      have c1 := cell_of_part hc 1 (by omega)
      rw [add_add] at c1
      obtain ⟨n2, l2, y2, e2, g2, t2⟩ := part_of Try.underlying30 ht hcl 2 _ rfl rfl (by kernel_rfl)
      have c2 := cell_of_part hc 2 (by omega)
      rw [add_add] at c2
      obtain ⟨n3, l3, y3, e3, g3, t3⟩ := part_of Try.underlying30 ht hcl 3 _ rfl rfl (by kernel_rfl)
      have c3 := cell_of_part hc 3 (by omega)
      rw [add_add] at c3
      rw [Nat.add_zero] at c0
      obtain ⟨k0, hv0, _, hw0⟩ := DataW.trod_int Try.underlying28 t0
      obtain ⟨k1, hv1, _, hw1⟩ := DataW.trod_int Try.underlying3 t1
      obtain ⟨k2, hv2, _, hw2⟩ := DataW.trod_int Try.underlying3 t2
      obtain ⟨k3, hv3, _, hw3⟩ := DataW.trod_string Try.underlying9 t3
      simp only [List.cons.injEq, and_true] at hv0 hv1 hv2 hv3
      obtain ⟨t, rfl, ht⟩ := as_str k3 hw3
      exact ⟨⟨k0, k1, k2, t⟩, by rw [c0, hv0], by rw [c1, hv1], by rw [c2, hv2], by rw [c3, hv3], ht⟩
    haveI : Inhabited Ev := ⟨⟨0, 0, 0, []⟩⟩
    obtain ⟨y, hy⟩ := choose_lt each
    have hget : ∀ r x, ((List.range n).map y)[r]? = some x → r < n ∧ x = y r := by
      intro r x hx
      rw [List.getElem?_map] at hx
      rcases Nat.lt_or_ge r n with h' | h'
      · rw [List.getElem?_range h'] at hx
        exact ⟨h', (Option.some.inj hx).symm⟩
      · rw [List.getElem?_eq_none (by simpa using h')] at hx
        cases hx
    refine ⟨(List.range n).map y, ⟨fun hn => ?_, fun m hm => ?_⟩, by simp, hl, hm⟩
    · have hn0 : 0 < n := by simpa using hn
      obtain ⟨b, off, rfl, hlt⟩ := spot_of (v := _) (by simpa using (hy 0 hn0).1)
      refine ⟨b, off, rfl, hlt, fun r m hr => ?_⟩
      obtain ⟨hrn, rfl⟩ := hget r m hr
      rw [show off + r * 4 + 1 = off + (r * 4 + 1) by omega, show off + r * 4 + 2 = off + (r * 4 + 2) by omega, show off + r * 4 + 3 = off + (r * 4 + 3) by omega, ← add_none, ← add_none, ← add_none, ← add_none]
      exact ⟨(hy r hrn).1, (hy r hrn).2.1, (hy r hrn).2.2.1, (hy r hrn).2.2.2.1⟩
    · simp only [List.mem_map, List.mem_range] at hm
      obtain ⟨r, hr, rfl⟩ := hm
      exact (hy r hr).2.2.2.2
end

end Go.Proofs.Ytflfchcncmpnbaa
