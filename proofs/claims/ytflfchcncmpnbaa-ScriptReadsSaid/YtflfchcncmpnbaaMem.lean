/- Bytes in memory: a slice that reads as a list of bytes, and an append of such a slice onto a row of the call's own. No program is named here. -/
import Derived.WalkKit
import Derived.Below
import Derived.Maps.AppendAt
import Derived.Deep.AppendLies
import Derived.Deep.Draws
import Derived.RegionTactic
import Derived.OwnWalk
import Derived.Laws.CopyOwn
import Derived.Lib.Hide
namespace Go.Proofs.Ytflfchcncmpnbaa
open Go.RowKit

/-- a byte as a cell -/
def by8 (c : BitVec 8) : Value := .int .u8 c.toNat

/-- the slice (a, n) reads as the bytes l, below block B -/
def Bytes (w : World) (B : Nat) (a : Option Addr) (n : Nat) (l : List (BitVec 8)) : Prop :=
  l.length = n ∧ (0 < n → ∃ b off, a = some ⟨b, off, none⟩ ∧ b < B ∧ ∀ i, i < n → w.cell? ⟨b, off + i, none⟩ = some (.int .u8 (l[i]?.getD 0#8).toNat))

section
variable {w w' : World} {B B' : Nat} {a : Option Addr} {n : Nat} {l : List (BitVec 8)}

theorem Bytes.keep (h : Bytes w B a n l) (hk : ∀ p : Addr, p.block < B → w'.cell? p = w.cell? p) : Bytes w' B a n l :=
  ⟨h.1, fun hn => by
    obtain ⟨b, off, e, hlt, hc⟩ := h.2 hn
    exact ⟨b, off, e, hlt, fun i hi => (hk ⟨b, off + i, none⟩ hlt).trans (hc i hi)⟩⟩

theorem Bytes.below (h : Bytes w B a n l) (hb : Below B w w') : Bytes w' B a n l := h.keep fun _ hp => hb.cell hp

theorem Bytes.more (h : Bytes w B a n l) (hB : B ≤ B') : Bytes w B' a n l :=
  ⟨h.1, fun hn => by
    obtain ⟨b, off, e, hlt, hc⟩ := h.2 hn
    exact ⟨b, off, e, by omega, hc⟩⟩

theorem Bytes.nil (c : Option Addr) : Bytes w B c 0 [] := ⟨rfl, fun h => absurd h (by omega)⟩

theorem Bytes.of_own {base e c : Nat} (h : w.ownsRow base e 1 (.slice a n c) n (l.map by8)) : Bytes w w.heap.size a n l := by
  refine ⟨by simpa using h.1, fun hn => ?_⟩
  obtain ⟨g, cap, hv, _, hlt⟩ := h.form hn
  have hA : a = some ⟨g, 0, none⟩ := by injection hv
  subst hA
  refine ⟨g, 0, rfl, hlt, fun i hi => ?_⟩
  have hl : i < l.length := by have := h.1; simp at this; omega
  have := h.cells (g := g) rfl i (by8 (l[i]?.getD 0#8)) (by simp [List.getElem?_eq_getElem hl])
  rw [← show (Addr.add ⟨g, 0, none⟩ i) = ⟨g, 0 + i, none⟩ from by
    unfold Addr.add
    by_cases h : i = 0
    · subst h; rfl
    · simp [h]]
  exact this
end

section
variable {P : Program} {w : World}

theorem own_form {base e n : Nat} {v : Value} {xs : List Value} (h : w.ownsRow base e 1 v n xs) : ∃ a c, v = .slice a n c := by
  rcases h.2 with ⟨rfl, rfl⟩ | ⟨g, cap, cur, rfl, _⟩
  · exact ⟨none, 0, rfl⟩
  · exact ⟨_, cap, rfl⟩

theorem own_cell {base e n g cap : Nat} {l : List (BitVec 8)} (h : w.ownsRow base e 1 (.slice (some ⟨g, 0, none⟩) n cap) n (l.map by8)) (j : Nat) (hj : j < l.length) :
    w.cell? ⟨g, j, none⟩ = some (.int .u8 (l[j]?.getD 0#8).toNat) := by
  rw [h.cellAt j (by have := h.1; simp at this; omega)]
  simp [List.getElem?_eq_getElem hj, by8]

theorem own_empty (w : World) (e : TypeId) (base : Nat) (hb : base ≤ w.heap.size) :
    (w.alloc (.cells #[] e)).ownsRow base e 1 (.slice (some ⟨w.heap.size, 0, none⟩) 0 0) 0 (([] : List (BitVec 8)).map by8) :=
  ⟨rfl, .inr ⟨w.heap.size, 0, #[], rfl, hb, heap_alloc_new w _, Nat.le_refl _, Nat.zero_le _, rfl, rfl⟩⟩

theorem run_app (base : Nat) (t ty e : TypeId) (i : TypeInfo) (z : Value) (ht : P.underlying t = some (.slice e)) (hi : P.info? e = some i) (hz : i.zero = some z)
    (hsize : i.size = 1) (hby : i.bytes = 1) (hzs : z.cells.size = 1)
    (v : Value) (n : Nat) (k : List (BitVec 8)) (hown : w.ownsRow base e 1 v n (k.map by8))
    (B : Nat) (A : Option Addr) (m c : Nat) (l : List (BitVec 8)) (hr : Bytes w B A m l)
    (hroom : n + m ≤ 140737488355328) (hbase : base ≤ w.heap.size) :
    ∃ v' w', (Builtin.append_ #[t, t] ty #[v, .slice A m c]).run P w = .ok v' w' ∧ w'.ownsRow base e 1 v' (n + m) ((k ++ l).map by8) ∧ w.grownBy w' v.ownBlock ∧
      (v'.ownBlock = v.ownBlock ∨ v'.ownBlock = some w.heap.size) := by
  rcases A with _ | ad
  · have hm : m = 0 := by
      rcases Nat.eq_zero_or_pos m with h | h
      · exact h
      · obtain ⟨_, _, h', _⟩ := hr.2 h
        cases h'
    subst hm
    have hl : l = [] := List.eq_nil_of_length_eq_zero hr.1
    subst hl
    refine ⟨v, w, ?_, by simpa using hown, World.grownBy.refl w _, .inl rfl⟩
    rcases hown.2 with ⟨rfl, rfl⟩ | ⟨g, cap, cur, rfl, _, _, hnc, _⟩
    · simp [Builtin.append_, run_underlying ht, sizeOf, typeInfo, hi, Builtin.lenOf, Builtin.firstCells]
    · simp [Builtin.append_, run_underlying ht, sizeOf, typeInfo, hi, Builtin.lenOf, Builtin.firstCells, hnc, storeCells]
  · have hcells : ∀ j u, (l.map by8)[j]? = some u → w.cell? (ad.add j) = some u := by
      intro j u hu
      have hj : j < l.length := by
        rcases Nat.lt_or_ge j l.length with h | h
        · exact h
        · rw [List.getElem?_eq_none (by simpa using h)] at hu; cases hu
      obtain ⟨b, off, h, _, hc⟩ := hr.2 (by have := hr.1; omega)
      injection h with h
      subst h
      have := hc j (by have := hr.1; omega)
      rw [show (Addr.add ⟨b, off, none⟩ j) = ⟨b, off + j, none⟩ from by
        unfold Addr.add
        by_cases h : j = 0
        · subst h; rfl
        · simp [h], this]
      rw [← hu]
      simp [List.getElem?_eq_getElem hj, by8]
    obtain ⟨v', w', hrun, h2, h3, _, h5⟩ := run_append_own_at (P := P) (w := w) base t ty e i z 1 1 ht hi hz hsize hby hzs (by omega) v n (k.map by8) hown ad m c (l.map by8)
      (by simpa using hr.1) hcells (by intro u hu; simp at hu; obtain ⟨c, _, rfl⟩ := hu; rfl) (by simp only [maxLen]; omega) (by omega) hbase
    exact ⟨v', w', hrun, by simpa using h2, h3, h5⟩

theorem wpList_app {ops : Array Oper} {rest : List Oper} {o : Oper} {a : Act} {Q : Exit → Act → World → Prop} (hgd : o.guard = none) (s x : Operand) (t : TypeId)
    (ho : o.op = .call { callee := .builtin .append, args := #[s, x], argTypes := #[t, t] })
    (base : Nat) (e : TypeId) (i : TypeInfo) (z : Value) (ht : P.underlying t = some (.slice e)) (hi : P.info? e = some i) (hz : i.zero = some z)
    (hsize : i.size = 1) (hby : i.bytes = 1) (hzs : z.cells.size = 1)
    (v : Value) (n : Nat) (k : List (BitVec 8)) (hs : a.eval s = v) (hown : w.ownsRow base e 1 v n (k.map by8))
    (B : Nat) (A : Option Addr) (m c : Nat) (l : List (BitVec 8)) (hx : a.eval x = .slice A m c) (hr : Bytes w B A m l)
    (hroom : n + m ≤ 140737488355328) (hbase : base ≤ w.heap.size)
    (h : ∀ v' w', w'.ownsRow base e 1 v' (n + m) ((k ++ l).map by8) → w.grownBy w' v.ownBlock → (v'.ownBlock = v.ownBlock ∨ v'.ownBlock = some w.heap.size) → wpList P ops Q rest (a.put o.dst v') w') :
    wpList P ops Q (o :: rest) a w := by
  obtain ⟨v', w', hrun, h2, h3, h4⟩ := run_app (P := P) (w := w) base t o.type e i z ht hi hz hsize hby hzs v n k hown B A m c l hr hroom hbase
  refine wpList_plain hgd fun K hK => ?_
  unfold Oper.wp execOp
  simp only [ho, resolve, invoke, builtin, Sem.run_bind, Sem.run_pure, Result.andThen_ok, List.map_toArray, List.map_cons, List.map_nil, hs, hx, hrun]
  exact hK _ _ (h v' w' h2 h3 h4)
end

/-- of what was there only the blocks in S may have turned -/
structure Only (S : Nat → Prop) (w w' : World) : Prop where
  os : w'.os = w.os
  tape : w'.tape = w.tape
  output : w'.output = w.output
  size : w.heap.size ≤ w'.heap.size
  block : ∀ k, k < w.heap.size → ¬ S k → w'.heap[k]? = w.heap[k]?

section
variable {S T : Nat → Prop} {a b c : World}
theorem Only.refl (S : Nat → Prop) (w : World) : Only S w w := ⟨rfl, rfl, rfl, Nat.le_refl _, fun _ _ _ => rfl⟩
theorem Only.trans (h : Only S a b) (k : Only S b c) : Only S a c :=
  ⟨k.os.trans h.os, k.tape.trans h.tape, k.output.trans h.output, Nat.le_trans h.size k.size, fun i hi hs => (k.block i (Nat.lt_of_lt_of_le hi h.size) hs).trans (h.block i hi hs)⟩
theorem Only.mono (h : Only S a b) (hs : ∀ k, k < a.heap.size → S k → T k) : Only T a b :=
  ⟨h.os, h.tape, h.output, h.size, fun i hi ht => h.block i hi fun hh => ht (hs i hi hh)⟩
theorem Only.below {B : Nat} (h : Only S a b) (hB : B ≤ a.heap.size) (hs : ∀ k, k < B → ¬ S k) : Below B a b :=
  ⟨h.os, h.tape, h.output, h.size, fun i hi => h.block i (Nat.lt_of_lt_of_le hi hB) (hs i hi)⟩
theorem Only.drewN (h : Only S a b) (n : Nat) : Only S a (b.drewN n) := ⟨h.os, h.tape, h.output, h.size, h.block⟩
theorem Only.drew (h : Only S a b) : Only S a b.drew := ⟨h.os, h.tape, h.output, h.size, h.block⟩
theorem Only.alloc (h : Only S a b) (o : Obj) : Only S a (b.alloc o) :=
  ⟨h.os, h.tape, h.output, Nat.le_trans h.size (by simp), fun i hi hs => (Below.heap_alloc b o i (Nat.lt_of_lt_of_le hi h.size)).trans (h.block i hi hs)⟩
theorem Only.setCell (h : Only S a b) {p : Addr} (hp : S p.block) (u : Value) : Only S a (b.setCell p u) :=
  ⟨h.os, h.tape, h.output, by simpa [World.setCell] using h.size, fun i hi hs => (Below.heap_setCell b p u i (by rintro rfl; exact hs hp)).trans (h.block i hi hs)⟩
theorem Only.grown {row : Option Nat} (hg : a.grownBy b row) (hr : ∀ k, row = some k → k < a.heap.size → S k) : Only S a b :=
  ⟨hg.os, hg.tape, hg.output, hg.size, fun i hi hs => hg.block i hi fun e => hs (hr i e.symm hi)⟩
theorem Only.cell (h : Only S a b) {p : Addr} (hp : p.block < a.heap.size) (hs : ¬ S p.block) : b.cell? p = a.cell? p := World.cell?_of_block (w := a) (h.block p.block hp hs)
theorem Bytes.only {B n : Nat} {x : Option Addr} {l : List (BitVec 8)} (hl : Bytes a B x n l) (h : Only S a b) (hB : B ≤ a.heap.size) (hs : 0 < n → ∀ p, x = some p → ¬ S p.block) : Bytes b B x n l :=
  ⟨hl.1, fun hn => by
    obtain ⟨q, off, e, hlt, hc⟩ := hl.2 hn
    exact ⟨q, off, e, hlt, fun i hi => (h.cell (p := ⟨q, off + i, none⟩) (by simp; omega) (by simpa using hs hn _ e)).trans (hc i hi)⟩⟩
end

theorem add_none (b off i : Nat) : (Addr.add ⟨b, off, none⟩ i) = ⟨b, off + i, none⟩ := by
  unfold Addr.add
  by_cases h : i = 0
  · subst h; rfl
  · simp [h]

theorem add_block (p : Addr) (i : Nat) : (p.add i).block = p.block := by
  unfold Addr.add
  split <;> rfl

/-- behind 'x[k:]' of a slice (a, n, cap): where it begins -/
def cutA (a : Option Addr) (cap k : Nat) : Option Addr := if cap = k then a else a.map (·.add k)

theorem cutA_block {a : Option Addr} {cap k : Nat} {p : Addr} (h : cutA a cap k = some p) : ∃ q, a = some q ∧ q.block = p.block := by
  unfold cutA at h
  split at h
  · exact ⟨p, h, rfl⟩
  · rcases a with _ | q
    · simp at h
    · simp at h
      exact ⟨q, rfl, by rw [← h, add_block]⟩

theorem Bytes.cut {w : World} {B n cap k : Nat} {a : Option Addr} {l : List (BitVec 8)} (h : Bytes w B a n l) (hk : k ≤ n) (hc : n ≤ cap) : Bytes w B (cutA a cap k) (n - k) (l.drop k) := by
  refine ⟨by simp [h.1], fun hn => ?_⟩
  obtain ⟨b, off, rfl, hlt, hcell⟩ := h.2 (by omega)
  unfold cutA
  rw [if_neg (by omega)]
  refine ⟨b, off + k, by simp [add_none], hlt, fun i hi => ?_⟩
  rw [Nat.add_assoc, hcell _ (by omega), List.getElem?_drop]

theorem Bytes.take {w : World} {B n k : Nat} {a : Option Addr} {l : List (BitVec 8)} (h : Bytes w B a n l) (hk : k ≤ n) : Bytes w B a k (l.take k) := by
  refine ⟨by simp [h.1]; omega, fun hn => ?_⟩
  obtain ⟨b, off, e, hlt, hcell⟩ := h.2 (by omega)
  refine ⟨b, off, e, hlt, fun i hi => ?_⟩
  rw [hcell _ (by omega), List.getElem?_take, if_pos hi]

theorem map_splice (c x : List (BitVec 8)) (off : Nat) : splice (c.map by8) off (x.map by8) = (splice c off x).map by8 := by
  simp [splice, List.map_take, List.map_drop]

/-- copy of bytes into a block that is known whole -/
theorem wpList_copyb {P : Program} {w : World} {ops : Array Oper} {rest : List Oper} {o : Oper} {a : Act} {Q : Exit → Act → World → Prop} (hgd : o.guard = none) (d s : Operand) (dT sT : TypeId)
    (ho : o.op = .call { callee := .builtin .copy, args := #[d, s], argTypes := #[dT, sT] }) (elem : TypeId) (hu : P.underlying dT = some (.slice elem)) (hsz : (P.info? elem).map (·.size) = some 1)
    (dp sp : Option Addr) (dLen dCap sLen sCap : Nat) (hd : a.eval d = .slice dp dLen dCap) (hs : a.eval s = .slice sp sLen sCap)
    (g off : Nat) (c : List (BitVec 8)) (t : TypeId) (hg : w.heap[g]? = some (.cells (c.map by8).toArray t (0, 0))) (B : Nat) (x : List (BitVec 8)) (hn : x.length = Nat.min sLen dLen)
    (hdp : 0 < x.length → dp = some ⟨g, off, none⟩) (hx : Bytes w B sp x.length x) (hfit : off + x.length ≤ c.length)
    (h : ∀ w', w'.heap[g]? = some (.cells ((splice c off x).map by8).toArray t (0, 0)) → Only (fun k => k = g) w w' → wpList P ops Q rest (a.put o.dst (.int .i64 x.length)) w') :
    wpList P ops Q (o :: rest) a w := by
  rcases Nat.eq_zero_or_pos x.length with h0 | hpos
  · refine wpList_copy_nothing hgd d s dT sT ho elem hu hsz dp sp dLen dCap sLen sCap hd hs (by omega) ?_
    have hx0 : x = [] := List.eq_nil_of_length_eq_zero h0
    subst hx0
    have := h w (by rw [hg]; simp [splice]) (Only.refl _ _)
    exact this
  · obtain ⟨b, o', rfl, _, hc⟩ := hx.2 hpos
    obtain rfl := hdp hpos
    refine wpList_copy_own hgd d s dT sT ho elem hu hsz g off dLen dCap ⟨b, o', none⟩ sLen sCap hd hs _ t hg (x.map by8) (by simpa using hn) ?_ (by simpa using hfit) (by intro u hu; simp at hu; obtain ⟨c, _, rfl⟩ := hu; rfl) ?_
    · intro j v hj
      have hjl : j < x.length := by
        rcases Nat.lt_or_ge j x.length with h | h
        · exact h
        · rw [List.getElem?_eq_none (by simpa using h)] at hj; cases hj
      rw [add_none, hc j hjl, ← hj]
      simp [List.getElem?_eq_getElem hjl, by8]
    · have hlen : ((x.map by8).length : Int) = (x.length : Int) := by simp
      rw [show goInt ((x.map by8).length : Int) = Value.int .i64 (x.length : Int) by rw [hlen]; rfl]
      refine h _ ?_ ⟨rfl, rfl, rfl, by simp [World.setRow], fun k hk hne => setRow_other w g k _ hne⟩
      have hsp := map_splice c x off
      unfold splice at hsp
      rw [setRow_heap w g _ _ t _ hg]
      simp only [List.length_map] at hsp ⊢
      rw [hsp]
      rfl

/-- a slice of integers that came in: nil, or a row of cells -/
def IsRow (k : IntKind) (w : World) (a : Option Addr) (len cap : Nat) (zs : List Int) : Prop :=
  (a = none ∧ len = 0 ∧ cap = 0 ∧ zs = []) ∨
  ∃ x, a = some x ∧ len ≤ cap ∧ cap ≤ maxLen ∧ zs.length = cap ∧ (∀ i, i < zs.length → w.cell? (x.add i) = some (.int k (zs.getD i 0))) ∧ ∀ n ∈ zs, (Lit.int k n).wf = true

theorem cell_lt {w : World} {p : Addr} {v : Value} (h : w.cell? p = some v) : p.block < w.heap.size := by
  rcases Nat.lt_or_ge p.block w.heap.size with h' | h'
  · exact h'
  · simp [World.cell?, Array.getElem?_eq_none h'] at h

theorem IsRow.bytes {w : World} {a : Option Addr} {len cap : Nat} {zs : List Int} (h : IsRow .u8 w a len cap zs) :
    ∃ l, Bytes w w.heap.size a len l ∧ len ≤ 9223372036854775807 := by
  rcases h with ⟨rfl, rfl, rfl, rfl⟩ | ⟨x, rfl, hl, hm, hz, hc, hw⟩
  · exact ⟨[], ⟨rfl, fun h => absurd h (by omega)⟩, by omega⟩
  · refine ⟨(zs.take len).map (BitVec.ofInt 8), ⟨by simp; omega, fun hn => ?_⟩, by unfold maxLen at hm; omega⟩
    obtain ⟨b, off, spot⟩ := x
    have h0 := hc 0 (by omega)
    have hspot : spot = none := by simpa [Addr.add] using World.cell?_spot h0
    subst hspot
    refine ⟨b, off, rfl, by simpa [Addr.add] using cell_lt h0, fun i hi => ?_⟩
    have hi' : i < zs.length := by omega
    have hci := hc i hi'
    have he : Addr.add ⟨b, off, none⟩ i = ⟨b, off + i, none⟩ := by
      unfold Addr.add
      by_cases h : i = 0
      · subst h; rfl
      · simp [h]
    rw [he] at hci
    rw [hci]
    have hwf := hw zs[i] (List.getElem_mem hi')
    have hwf' : 0 ≤ zs[i] ∧ zs[i] < 256 := by
      simp [Lit.wf, IntKind.min, IntKind.max, IntKind.bits, IntKind.signed] at hwf
      omega
    have e1 : zs.getD i 0 = zs[i] := by simp [List.getD_eq_getElem?_getD, List.getElem?_eq_getElem hi']
    have e2 : ((zs.take len).map (BitVec.ofInt 8))[i]?.getD 0#8 = BitVec.ofInt 8 zs[i] := by
      simp [hi, List.getElem?_eq_getElem hi']
    rw [e1, e2]
    obtain ⟨m, hm'⟩ := Int.eq_ofNat_of_zero_le hwf'.1
    rw [hm', ofInt_u8 m (by omega)]

theorem IsRow.cap {k : IntKind} {w : World} {a : Option Addr} {len cap : Nat} {zs : List Int} (h : IsRow k w a len cap zs) : len ≤ cap ∧ cap ≤ maxLen := by
  rcases h with ⟨rfl, rfl, rfl, rfl⟩ | ⟨x, rfl, hl, hm, hz, hc, hw⟩
  · exact ⟨Nat.le_refl _, Nat.zero_le _⟩
  · exact ⟨hl, hm⟩

theorem u8_wf {n : Int} (h : (Lit.int .u8 n).wf = true) : ∃ s : BitVec 8, n = s.toNat := by
  simp [Lit.wf, IntKind.min, IntKind.max, IntKind.bits, IntKind.signed] at h
  exact ⟨BitVec.ofNat 8 n.toNat, by simp; omega⟩

theorem u16_wf {n : Int} (h : (Lit.int .u16 n).wf = true) : ∃ s : BitVec 16, n = s.toNat := by
  simp [Lit.wf, IntKind.min, IntKind.max, IntKind.bits, IntKind.signed] at h
  exact ⟨BitVec.ofNat 16 n.toNat, by simp; omega⟩

theorem ret_int {k : IntKind} {a b : Int} (h : a = b) : Ending.returned (.int k a) = .returned (.int k b) := by rw [h]

end Go.Proofs.Ytflfchcncmpnbaa
