/- Small things for the laws' walks. -/
import Derived.Test.YtflfchcncmpnbaaSch
import Derived.Test.YtflfchcncmpnbaaInv
import Derived.Test.YtflfchcncmpnbaaInb
namespace Go.Proofs.Ytflfchcncmpnbaa
open Go.RowKit
open Sc

theorem held_more {P : Program} {md : Region.Mode} {ops : Array Oper} {Q : Exit → Act → World → Prop} {S T : World → Prop} (h : ∀ w, T w → S w) :
    ∀ (fuel : Nat) (listed : Array Bool) (a : Act) (w : World), wpAnyH P md ops Q T fuel listed a w → wpAnyH P md ops Q S fuel listed a w
  | 0, _, _, _, hh => hh
  | fuel + 1, _, _, _, hh => ⟨hh.1, fun i hi => wpOp_mono (fun a' w' h' => ⟨h w' h'.1, held_more h fuel _ a' w' h'.2⟩) (hh.2 i hi)⟩

theorem below_chain {w w1 : World} (h : Below w.heap.size w w1) : ∀ W, Below w1.heap.size w1 W → Below w.heap.size w W := fun _ k => h.trans (k.mono h.size)

theorem below_self (w : World) : Below w.heap.size w w := Below.refl _ _

theorem tot_evs (L : List Ev) : (evs L).length = 7 * L.length + tot L := evs_len L

theorem str_refl (l : Bs) : ((str l).toList == (str l).toList) = true := by simp

theorem run_eappg (ty : TypeId) {base n c : Nat} {w : World} {a : Option Addr} {L : List Ev} (h : EvRow base w a n c L) {B : Nat} {A : Option Addr} {m c2 : Nat} {M : List Ev} (hs : EvIn w B A M) (hm : M.length = m)
    (hroom : n + m ≤ 3000000000000) (hbase : base ≤ w.heap.size) :
    ∃ A2 c3 w', (Builtin.append_ #[24, 24] ty #[.slice a n c, .slice A m c2]).run Try.prog w = .ok (.slice A2 (n + m) c3) w' ∧ EvRow base w' A2 (n + m) c3 (L ++ M) ∧ Grew w w' a A2 := by
  obtain ⟨i0, hi0, hi1, hi2, hi3⟩ := ev_info
  by_cases h0 : m = 0
  · subst h0
    have hM : M = [] := List.eq_nil_of_length_eq_zero hm
    subst hM
    refine ⟨a, c, w, ?_, by simpa using h, Grew.refl _ _⟩
    have hcap := h.cap
    refine run_append_nothing w 24 24 ty 30 i0 Try.underlying24 hi0 a n c hcap _ ?_
    rcases A with _ | ad
    · exact Src.ofNil w Try.underlying24 c2
    · exact Src.ofSlice w Try.underlying24 ad 0 c2 [] (by simp) (by intro j u hu; simp at hu) (by intro u hu; cases hu)
  · obtain ⟨ad, rfl, _, hc⟩ := hs.src (by omega)
    obtain ⟨v', w', hrun, h1, h2, _, h4⟩ := run_append_own_at (P := Try.prog) (w := w) base 24 ty 30 i0 _ 4 40 Try.underlying24 hi0 hi1 hi2 hi3 rfl (by omega) (.slice a n c) n (ecells L) h.row ad m c2 (ecells M)
      (by rw [ecells_len, hm]) hc (ecells_one M) (by unfold maxLen; omega) (by omega) hbase
    have hform : ∃ A2 c3, v' = .slice A2 (n + m) c3 ∧ n + m ≤ c3 := by
      rcases h1.2 with ⟨rfl, h0⟩ | ⟨g, cap, cur, rfl, _, _, h5, _⟩
      · omega
      · exact ⟨_, cap, rfl, h5⟩
    obtain ⟨A2, c3, rfl, hc3⟩ := hform
    refine ⟨A2, c3, w', hrun, ⟨by rw [ecells_app]; exact h1, hc3, fun e he => ?_⟩, grew_of h2 h4⟩
    rcases List.mem_append.1 he with h' | h'
    · exact h.inner e h'
    · exact hs.inner e h'

/-- what Decode tells of a script's bytes that are cut off -/
def UGives (L : List Ev) (p : Nat) (w : World) (r : Ending) (w' : World) : Prop :=
  Below w.heap.size w w' ∧ ∃ (v0 v1 v2 v3 v4 v5 v6 v7 : Int) (M : List Ev) (nn er : Nat) (A : Option Addr) (n c : Nat),
    r = .returned (.tuple #[.agg #[.int .i64 v0, .int .i64 v1, .int .i64 v2, .int .i64 v3, .int .i64 v4, .int .i64 v5, .int .i64 v6, .int .i64 v7], .slice A n c, .int .i64 nn, .int .i64 er]) ∧
    EvRow w.heap.size w' A n c M ∧ M.length ≤ L.length ∧ L.take M.length = M ∧ ((er = 0 ∧ nn = p) ∨ er = 5)

theorem decode_cut {a b c d e f g h : Int} (k : rt a b c d e f g h = true) (A : Option Addr) (n p cap : Nat) (L : List Ev) (w : World) (hl : Bytes w w.heap.size A n (cbs a b c d e f g h ++ evs L)) (hp : p ≤ n) (hcap : n ≤ cap) (hm : cap ≤ 9223372036854775807) (hn : n ≤ 262144)
    (hr : ∀ x ∈ L, rtE x = true) (hk : L.length ≤ 8192) :
    Calls Try.prog 13 #[.slice A p cap] w (UGives L p w) := by
  have hlen := hl.1
  rw [List.length_append, cbs_len] at hlen
  have ht := hl.take hp
  refine (decode_any A p cap _ w ht (by omega) hm).mono ?_
  rintro x w' ⟨hb, hg⟩
  have htl : ((cbs a b c d e f g h ++ evs L).take p).length = p := ht.1
  by_cases h24 : p < 24
  · rcases hg with ⟨h1, _⟩ | ⟨_, rfl⟩ | ⟨h1, _⟩ | ⟨h1, _⟩
    · omega
    · exact ⟨hb, 0, 0, 0, 0, 0, 0, 0, 0, [], 0, 5, none, 0, 0, rfl, EvRow.nil _ _, Nat.zero_le _, rfl, .inr rfl⟩
    · omega
    · omega
  · have hcut : (cbs a b c d e f g h ++ evs L).take p = cbs a b c d e f g h ++ (evs L).take (p - 24) := by
      rw [List.take_append, cbs_len, List.take_of_length_le (by rw [cbs_len]; omega)]
    rw [hcut] at hg
    obtain ⟨p1, p2⟩ := cof_cbs k ((evs L).take (p - 24))
    rw [hcut] at htl
    rcases hg with ⟨h1, _⟩ | ⟨h1, _⟩ | ⟨_, _, h1, _⟩ | ⟨_, _, _, M, m, er, A', n', c', rfl, hrow, hrd⟩
    · omega
    · omega
    · rw [p2] at h1; cases h1
    · rw [p1]
      rw [List.drop_left' (cbs_len ..)] at hrd
      obtain ⟨q1, q2, q3⟩ := reads_pre (L0 := L) (s := (evs L).drop (p - 24)) hrd hr (List.take_append_drop _ _)
      refine ⟨hb, a, b, c, d, e, f, g, h, M, 24 + m, er, A', n', c', rfl, hrow, q1, q2, ?_⟩
      rcases q3 with ⟨rfl, hm2⟩ | ⟨rfl, _⟩ | ⟨_, h8, h9⟩
      · left
        rw [List.length_append, cbs_len] at htl
        exact ⟨rfl, by omega⟩
      · exact .inr rfl
      · omega

theorem EvIn.only {S : Nat → Prop} {w w' : World} {B b o : Nat} {L : List Ev} (h : EvIn w B (some ⟨b, o, none⟩) L) (hO : Only S w w') (hb : b < w.heap.size) (hS : ¬ S b) : EvIn w' B (some ⟨b, o, none⟩) L := by
  refine ⟨fun hn => ?_, h.inner⟩
  obtain ⟨b2, o2, e, hlt, hc⟩ := h.outer hn
  injection e with e
  injection e with e1 e2 _
  subst e1 e2
  exact ⟨b, o, rfl, hlt, fun r m hr => ⟨(hO.cell (p := ⟨b, o + r * 4, none⟩) hb hS).trans (hc r m hr).1, (hO.cell (p := ⟨b, o + r * 4 + 1, none⟩) hb hS).trans (hc r m hr).2.1, (hO.cell (p := ⟨b, o + r * 4 + 2, none⟩) hb hS).trans (hc r m hr).2.2.1, (hO.cell (p := ⟨b, o + r * 4 + 3, none⟩) hb hS).trans (hc r m hr).2.2.2⟩⟩

theorem EvRow.drew {base n c : Nat} {w : World} {a : Option Addr} {L : List Ev} (h : EvRow base w a n c L) : EvRow base w.drew a n c L := ⟨h.row.drew, h.cap, h.inner⟩
theorem EvIn.drew {w : World} {B : Nat} {a : Option Addr} {L : List Ev} (h : EvIn w B a L) : EvIn w.drew B a L := h.keep fun _ _ => rfl
theorem EvRow.inlt {base n c : Nat} {w : World} {a : Option Addr} {L : List Ev} (h : EvRow base w a n c L) {b : Nat} (hb : In a b) : base ≤ b ∧ b < w.heap.size := by
  obtain ⟨p, rfl, rfl⟩ := hb
  exact h.row.lt p.block rfl

/-- a row of events, and one event elsewhere -/
structure RE (gv : Nat) (wv : World) (W : World) (A : Option Addr) (n c : Nat) (L : List Ev) (be : Nat) (x : Ev) : Prop where
  row : EvRow gv W A n c L
  one : EvIn W W.heap.size (some ⟨be, 0, none⟩) [x]
  far : ¬ In A be
  lt : be < W.heap.size
  ge : gv ≤ be
  bel : Below gv wv W

theorem RE.app {gv be n c m c2 : Nat} {wv W w' : World} {A A2 : Option Addr} {L M : List Ev} {x : Ev} (h : RE gv wv W A n c L be x) (hw : gv ≤ W.heap.size) (hr : EvRow gv w' A2 m c2 M) (hg : Grew W w' A A2) : RE gv wv w' A2 m c2 M be x :=
  ⟨hr, (h.one.only hg.only h.lt h.far).more hg.only.size, hg.far h.lt h.far, Nat.lt_of_lt_of_le h.lt hg.only.size, h.ge, h.bel.trans (hg.below hw (fun _ hb => (h.row.inlt hb).1))⟩

theorem re_01 {gv : Nat} {wv : World} (hv : wv.heap.size = gv) (x : Ev) (hx : x.t.length ≤ maxLen) : RE gv wv ((wv.alloc (.cells #[] 30)).alloc (.cells #[.int .i64 x.k, .int .i64 x.i, .int .i64 x.n, .string (str x.t)] 30)).drew (some ⟨wv.heap.size, 0, none⟩) 0 0 [] (wv.heap.size + 1) x := by
  have h1 := ev_one (wv.alloc (.cells #[] 30)) x hx 30
  rw [show (wv.alloc (.cells #[] 30)).heap.size = wv.heap.size + 1 by simp] at h1
  refine ⟨((EvRow.empty wv (by omega)).below ((Below.refl _ _).alloc (Nat.le_refl _) _)).drew, (h1.drew).more (by show _ ≤ (World.alloc _ _).heap.size; simp), ?_, by show _ < (World.alloc _ _).heap.size; simp, by omega, below_drew (((Below.refl gv wv).alloc (by omega) _).alloc (by simp; omega) _)⟩
  rintro ⟨p, hp, e⟩
  injection hp with hp
  subst hp
  simp at e
theorem re_10 {gv : Nat} {wv : World} (hv : wv.heap.size = gv) (x : Ev) (hx : x.t.length ≤ maxLen) : RE gv wv ((wv.alloc (.cells #[.int .i64 x.k, .int .i64 x.i, .int .i64 x.n, .string (str x.t)] 30)).alloc (.cells #[] 30)).drew (some ⟨wv.heap.size + 1, 0, none⟩) 0 0 [] wv.heap.size x := by
  have h1 := ev_one wv x hx 30
  have h2 := EvRow.empty (base := gv) (wv.alloc (.cells #[.int .i64 x.k, .int .i64 x.i, .int .i64 x.n, .string (str x.t)] 30)) (by simp; omega)
  rw [show (wv.alloc (.cells #[.int .i64 x.k, .int .i64 x.i, .int .i64 x.n, .string (str x.t)] 30)).heap.size = wv.heap.size + 1 by simp] at h2
  refine ⟨h2.drew, ((h1.below ((Below.refl (wv.heap.size + 1) _).alloc (by simp) (.cells #[] 30))).drew).more (by show _ ≤ (World.alloc _ _).heap.size; simp), ?_, by show _ < (World.alloc _ _).heap.size; simp; omega, by omega, below_drew (((Below.refl gv wv).alloc (by omega) _).alloc (by simp; omega) _)⟩
  rintro ⟨p, hp, e⟩
  injection hp with hp
  subst hp
  simp at e

theorem re_after {gv n c : Nat} {wv W : World} {A : Option Addr} {L : List Ev} (h : EvRow gv W A n c L) (hb : Below gv wv W) (hg : gv ≤ W.heap.size) (x : Ev) (hx : x.t.length ≤ maxLen) :
    RE gv wv (W.alloc (.cells #[.int .i64 x.k, .int .i64 x.i, .int .i64 x.n, .string (str x.t)] 30)) A n c L W.heap.size x :=
  ⟨h.below ((Below.refl _ _).alloc (Nat.le_refl _) _), (ev_one W x hx 30).more (by simp), fun hi => by have := (h.inlt hi).2; omega, by simp, hg, hb.alloc hg _⟩

section
variable {P : Program} {ops : Array Oper} {Q : Exit → Act → World → Prop}
theorem wpOp_value {i : Nat} {o : Oper} {K : Act → World → Prop} {a : Act} {w w' : World} {v : Value} (ho : ops[i]? = some o) (hg : o.guard = none)
    (hr : (execOp a.eval o).run P w = .ok (.value v) w') (h : K (a.put o.dst v) w') : wpOp P ops Q i K a w := by
  unfold wpOp
  simp only [ho]
  rw [if_pos (by simp [Region.wanted, hg])]
  left
  unfold Oper.wp
  rw [hr]
  exact h
theorem exec_append {o : Oper} {ρ : Operand → Value} {w w' : World} {s x : Operand} {st : TypeId} {v1 v2 v : Value} (ho : o.op = .call { callee := .builtin .append, args := #[s, x], argTypes := #[st, st] })
    (hs : ρ s = v1) (hx : ρ x = v2) (hrun : (Builtin.append_ #[st, st] o.type #[v1, v2]).run P w = .ok v w') : (execOp ρ o).run P w = .ok (.value v) w' := by
  unfold execOp
  simp only [ho, resolve, invoke, builtin, Sem.run_bind, Sem.run_pure, Result.andThen_ok, List.map_toArray, List.map_cons, List.map_nil, hs, hx, hrun]
end

end Go.Proofs.Ytflfchcncmpnbaa
