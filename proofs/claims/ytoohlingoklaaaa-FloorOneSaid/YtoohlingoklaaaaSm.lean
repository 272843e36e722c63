/- A set of numbers kept as a map of bools: what a look-up and a store answer are equations on their runs. -/
import Derived.Test.YtoohlingoklaaaaMp
import Derived.Carry
namespace Go.Proofs.Ytoohlingoklaaaa
open Go.RowKit Go.Maps

theorem zero_bool (w : World) : (zeroValue 4).run Try.prog w = .ok (.bool false) w := Try.zeroValue4 w

theorem plain_bool_inv {v : Value} {z : DataW Unit × List MemPlace} (h : plainElem Try.prog 4 v = some z) : ∃ x, v = .bool x ∧ z = (.lit (.bool x), []) := by
  unfold plainElem at h
  rw [Try.underlying4] at h
  cases v <;> simp at h
  exact ⟨_, rfl, h.symm⟩

/-- the map in block b has just the numbers l -/
def Sm (b : Nat) (w : World) (l : List Int) : Prop :=
  ∃ D : DataW Unit, w.ownsMap Try.prog 3 (plainElem Try.prog 4) b l.length D ∧ ∀ id, D.atKey (.int .i64 id) (.lit (.bool false)) = .lit (.bool (decide (id ∈ l)))

section
variable {b : Nat} {w : World} {l : List Int}

theorem Sm.made (w : World) (g : Nat) (hg : w.heap.size = g) : Sm g (w.alloc (.map #[] 0)) [] := by
  subst hg
  exact ⟨.map [], World.ownsMap_made w Try.prog _ _, fun _ => rfl⟩

theorem Sm.lt (h : Sm b w l) : b < w.heap.size := by
  obtain ⟨D, hD, _⟩ := h
  exact hD.lt

theorem Sm.keep {S : Nat → Prop} {w' : World} (h : Sm b w l) (hO : Only S w w') (hS : ¬ S b) : Sm b w' l := by
  have hlt := h.lt
  obtain ⟨D, ⟨es, clock, hb, F, hs, hD⟩, h2⟩ := h
  exact ⟨D, ⟨es, clock, (hO.block b hlt hS).trans hb, F, hs, hD⟩, h2⟩

theorem Sm.look (h : Sm b w l) {id : Int} (hw : wf64 id) :
    (Instr.lookup 38 (.map (some b)) (.int .i64 id) false).run Try.prog w = .ok (.bool (decide (id ∈ l))) w := by
  obtain ⟨D, hD, h2⟩ := h
  obtain ⟨v, ps, hrun, hv⟩ := hD.lookup law_int Try.underlying38 (zero_bool w) (plainElem_bool Try.underlying4 false) (key_int hw)
  obtain ⟨x, rfl, hx⟩ := plain_bool_inv hv
  have hx' := congrArg Prod.fst hx
  simp only [h2] at hx'
  injection hx' with hx'
  injection hx' with hx'
  rw [hrun, hx']

theorem Sm.store (h : Sm b w l) {id : Int} (hw : wf64 id) (hl : l.length ≤ 1000000) :
    ∃ w', (Instr.mapUpdate 38 (.map (some b)) (.int .i64 id) (.bool true)).run Try.prog w = .ok () w' ∧ Sm b w' (l ++ [id]) ∧ Only (fun k => k = b) w w' := by
  obtain ⟨D, hD, h2⟩ := h
  obtain ⟨w', hrun, h4, h5⟩ := hD.update law_int Try.underlying38 (by unfold maxLen; omega) (key_int hw) (plainElem_bool (H := Unit) Try.underlying4 true)
  have hT := hD.tidy law_int
  refine ⟨w', hrun, ⟨_, h4.mono (by simp), fun j => ?_⟩, ⟨h5.os, h5.tape, h5.output, h5.size, fun k hk hne => h5.block k hk (fun e => hne (by injection e))⟩⟩
  by_cases e : j = id
  · subst e
    rw [atKey_put_same hT.isMap (litkey _)]
    simp
  · rw [atKey_put_other (fun e' => e (by injection e')), h2]
    simp [e]
end

end Go.Proofs.Ytoohlingoklaaaa
