/- Messages that come in as a list. -/
import Derived.Test.YtfmombbembiagaaAuf
import Derived.Test.YtfmombbembiagaaInsm
namespace Go.Proofs.Ytfmombbembiagaa
open Go.ChangeShapes Go.WideShapes Go.ChangeAt Go.RowKit Go.Deep
open Au

section
variable {H : Type} {enc : TypeId × Value → H} {W : World} {held : Bool}
theorem open_msgs {fuel : Nat} {a : Option Addr} {n cap : Nat} {x : DataW H × List MemPlace} (h : DataW.trod enc Try.prog W 0 (fun _ => true) held fuel 22 [.slice a n cap] = some x) :
    ∃ T : List M, MsIn W W.heap.size a T ∧ T.length = n ∧ n ≤ cap ∧ cap ≤ maxLen := by
  have hce : Try.prog.cellsOf 26 = 4 := by kernel_rfl
  rcases open_slice Try.underlying22 h with ⟨hcs, rfl⟩ | ⟨ad, len, cp, m, k, D, Pl, hcs, _, hl, hm, hmm, rfl, hi⟩
  · simp at hcs
    obtain ⟨rfl, rfl, rfl⟩ := hcs
    exact ⟨[], ⟨fun h => absurd h (by simp), fun r hr => absurd hr (by simp)⟩, rfl, Nat.le_refl _, Nat.zero_le _⟩
  · simp at hcs
    obtain ⟨rfl, rfl, rfl⟩ := hcs
    simp only [if_true] at hmm
    subst hmm
    have each : ∀ r, r < n → ∃ y : M, W.cell? (ad.add (r * 4)) = some (.int .i64 y.k) ∧ W.cell? (ad.add (r * 4 + 1)) = some (.int .i64 y.a) ∧ W.cell? (ad.add (r * 4 + 2)) = some (.int .i64 y.b) ∧ W.cell? (ad.add (r * 4 + 3)) = some (.string (str y.t)) ∧ y.t.length ≤ maxLen := by
      intro r hr
      obtain ⟨cs, hc, ht⟩ := hi r (by omega)
      rw [hce] at hc
      have hcl := (World.cells?_some hc).2.1
      obtain ⟨n0, l0, y0, e0, g0, t0⟩ := part_of Try.underlying26 ht hcl 0 _ rfl rfl (by kernel_rfl)
      have c0 := cell_of_part hc 0 (by omega)
      rw [add_add] at c0
      obtain ⟨n1, l1, y1, e1, g1, t1⟩ := part_of Try.underlying26 ht hcl 1 _ rfl rfl (by kernel_rfl)
      have c1 := cell_of_part hc 1 (by omega)
      rw [add_add] at c1
      obtain ⟨n2, l2, y2, e2, g2, t2⟩ := part_of Try.underlying26 ht hcl 2 _ rfl rfl (by kernel_rfl)
      have c2 := cell_of_part hc 2 (by omega)
      rw [add_add] at c2
      obtain ⟨n3, l3, y3, e3, g3, t3⟩ := part_of Try.underlying26 ht hcl 3 _ rfl rfl (by kernel_rfl)
      have c3 := cell_of_part hc 3 (by omega)
      rw [add_add] at c3
      rw [Nat.add_zero] at c0
      obtain ⟨k0, hv0, _, hw0⟩ := DataW.trod_int Try.underlying24 t0
      obtain ⟨k1, hv1, _, hw1⟩ := DataW.trod_int Try.underlying2 t1
      obtain ⟨k2, hv2, _, hw2⟩ := DataW.trod_int Try.underlying2 t2
      obtain ⟨k3, hv3, _, hw3⟩ := DataW.trod_string Try.underlying9 t3
      simp only [List.cons.injEq, and_true] at hv0 hv1 hv2 hv3
      obtain ⟨t, rfl, ht⟩ := as_str k3 hw3
      exact ⟨⟨k0, k1, k2, t⟩, by rw [c0, hv0], by rw [c1, hv1], by rw [c2, hv2], by rw [c3, hv3], ht⟩
    haveI : Inhabited M := ⟨⟨0, 0, 0, []⟩⟩
    obtain ⟨y, hy⟩ := choose_lt each
    have hget : ∀ r x, ((List.range n).map y)[r]? = some x → r < n ∧ x = y r := by
      intro r x hx
      rw [List.getElem?_map] at hx
      rcases Nat.lt_or_ge r n with h' | h'
      · rw [List.getElem?_range h'] at hx
        exact ⟨h', (Option.some.inj hx).symm⟩
      · rw [List.getElem?_eq_none (by simpa using h')] at hx
        cases hx
    refine ⟨(List.range n).map y, ⟨fun hn => ?_, fun m hm => ?_⟩, by simp, hl, hm⟩
    · have hn0 : 0 < n := by simpa using hn
      obtain ⟨b, off, rfl, hlt⟩ := spot_of (v := _) (by simpa using (hy 0 hn0).1)
      refine ⟨b, off, rfl, hlt, fun r m hr => ?_⟩
      obtain ⟨hrn, rfl⟩ := hget r m hr
      rw [show off + r * 4 + 1 = off + (r * 4 + 1) by omega, show off + r * 4 + 2 = off + (r * 4 + 2) by omega, show off + r * 4 + 3 = off + (r * 4 + 3) by omega, ← add_none, ← add_none, ← add_none, ← add_none]
      exact ⟨(hy r hrn).1, (hy r hrn).2.1, (hy r hrn).2.2.1, (hy r hrn).2.2.2.1⟩
    · simp only [List.mem_map, List.mem_range] at hm
      obtain ⟨r, hr, rfl⟩ := hm
      exact (hy r hr).2.2.2.2
end

end Go.Proofs.Ytfmombbembiagaa
