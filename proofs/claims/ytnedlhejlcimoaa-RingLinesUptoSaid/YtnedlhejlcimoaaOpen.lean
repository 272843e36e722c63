/- A list of pieces of bytes that came in, as the walks want it; and what the bound on its bulk gives. -/
import Derived.Test.YtnedlhejlcimoaaPieces
import Derived.ProofKit
import Derived.OpenShut
import Derived.ShutString
import Derived.ChangeOld
import Derived.JoinedCond
import Derived.Deep.Matrix
namespace Go.Proofs.Ytnedlhejlcimoaa
open Go.ChangeShapes Go.WideShapes Go.ChangeAt Go.RowKit
open Rg

theorem own : ownKnob Try.prog.godebug = none := by kernel_rfl
theorem laidOut : laidOutB Try.prog = true := by kernel_rfl

theorem bulk_one {H : Type} (d : DataW H) : 1 ≤ Rows.uptoBulk d := by
  cases d with
  | lit l => cases l <;> simp [Rows.uptoBulk]
  | nil => simp [Rows.uptoBulk]
  | ptr d => simp [Rows.uptoBulk]
  | slice elems spare => simp [Rows.uptoBulk]
  | agg parts => simp [Rows.uptoBulk]
  | iface t d => simp [Rows.uptoBulk]
  | map entries => simp [Rows.uptoBulk]
  | held h => simp [Rows.uptoBulk]

theorem bulk_append {H : Type} (l r : List (DataW H)) : Rows.uptoBulkAll (l ++ r) = Rows.uptoBulkAll l + Rows.uptoBulkAll r := by
  induction l with
  | nil => simp [Rows.uptoBulkAll]
  | cons x l ih => simp only [List.cons_append, Rows.uptoBulkAll, ih]; omega

theorem bulk_length {H : Type} (l : List (DataW H)) : l.length ≤ Rows.uptoBulkAll l := by
  induction l with
  | nil => simp [Rows.uptoBulkAll]
  | cons x r ih => have := bulk_one x; simp only [Rows.uptoBulkAll, List.length_cons]; omega

theorem bulk_part {H : Type} {d : DataW H} {l : List (DataW H)} (h : d ∈ l) : Rows.uptoBulk d ≤ Rows.uptoBulkAll l := by
  induction l with
  | nil => cases h
  | cons x r ih =>
    simp only [Rows.uptoBulkAll]
    rcases List.mem_cons.1 h with e | e
    · subst e; omega
    · have := ih e; omega

theorem bulk_row {H : Type} (A : Option Addr) (L : Nat) (zs : List Int) (h0 : A = none → L = 0) (hl : L ≤ zs.length) : L ≤ Rows.uptoBulk (Deep.intRow (H := H) .u8 A L zs) := by
  rcases A with _ | a
  · have := h0 rfl; omega
  · simp only [Deep.intRow, Rows.uptoBulk]
    have := bulk_length (lits (H := H) .u8 (zs.take L))
    simp only [lits, List.length_map, List.length_take] at this
    simp only [lits]
    omega

theorem bulk_rows {H : Type} (A : Nat → Option Addr) (L : Nat → Nat) (Z : Nat → List Int) (T : Nat → Bs) (n : Nat) (h0 : ∀ r, r < n → A r = none → L r = 0) (hl : ∀ r, r < n → L r ≤ (Z r).length) (hT : ∀ r, r < n → (T r).length = L r) :
    (cat T n).length ≤ Rows.uptoBulkAll ((List.range n).map fun r => Deep.intRow (H := H) .u8 (A r) (L r) (Z r)) := by
  induction n with
  | zero => simp [cat]
  | succ n ih =>
    have h1 := ih (fun r hr => h0 r (by omega)) (fun r hr => hl r (by omega)) (fun r hr => hT r (by omega))
    rw [List.range_succ, List.map_append, bulk_append]
    simp only [cat, List.length_append, List.map_cons, List.map_nil, Rows.uptoBulkAll, hT n (by omega)]
    have := bulk_row (H := H) (A n) (L n) (Z n) (h0 n (by omega)) (hl n (by omega))
    omega

theorem open_pieces {H : Type} {enc : TypeId × Value → H} {W : World} {held : Bool} {fuel : Nat} {a : Option Addr} {n cap : Nat} {x : DataW H × List MemPlace}
    (h : DataW.trod enc Try.prog W 0 (fun _ => true) held fuel 22 [.slice a n cap] = some x) :
    ∃ A Ln Cp T, Pieces W W.heap.size a n A Ln Cp T ∧ n ≤ Rows.uptoBulk x.1 ∧ (cat T n).length ≤ Rows.uptoBulk x.1 := by
  rcases Deep.open_int_rows Try.underlying22 Try.underlying27 Try.underlying5 (by kernel_rfl) (by kernel_rfl) h with ⟨hcs, rfl⟩ | ⟨ad, len, cp, A, L, C, Z, hcs, _, hl, hm, rfl, hrows⟩
  · simp at hcs
    obtain ⟨rfl, rfl, rfl⟩ := hcs
    exact ⟨fun _ => none, fun _ => 0, fun _ => 0, fun _ => [], ⟨fun h => absurd h (by omega), fun r hr => absurd hr (by omega)⟩, by simp, by simp [cat]⟩
  · simp at hcs
    obtain ⟨rfl, rfl, rfl⟩ := hcs
    have hlow : ∀ r, r < n → A r = none → L r = 0 := by
      intro r hr hA
      obtain ⟨_, h1, _, _, _, h5, _⟩ := hrows r (by omega)
      have := h5 hA
      omega
    have hzl : ∀ r, r < n → L r ≤ (Z r).length := by
      intro r hr
      obtain ⟨_, h1, _, h3, _⟩ := hrows r (by omega)
      omega
    refine ⟨A, L, C, fun r => ((Z r).take (L r)).map (BitVec.ofInt 8), ⟨fun hn => ?_, fun r hr => ?_⟩, ?_, ?_⟩
    · obtain ⟨b, off, spot⟩ := ad
      have h0 := (hrows 0 (by omega)).1
      have hspot : spot = none := by simpa [Addr.add] using World.cell?_spot h0
      subst hspot
      refine ⟨b, off, rfl, by simpa [Addr.add] using cell_lt h0, fun r hr => ?_⟩
      rw [← add_none]
      exact (hrows r (by omega)).1
    · obtain ⟨hc, h1, h2, h3, h4, h5, h6⟩ := hrows r (by omega)
      refine ⟨⟨by simp; omega, fun hn => ?_⟩, h1⟩
      rcases hA : A r with _ | a'
      · have := h5 hA; omega
      · obtain ⟨_, hcell⟩ := h6 a' hA
        obtain ⟨b, off, spot⟩ := a'
        have h0 := hcell 0 (by omega)
        have hspot : spot = none := by simpa [Addr.add] using World.cell?_spot h0
        subst hspot
        refine ⟨b, off, rfl, by simpa [Addr.add] using cell_lt h0, fun i hi => ?_⟩
        rw [← add_none, hcell i (by omega)]
        have hi' : i < (Z r).length := by omega
        have hwf := h4 (Z r)[i] (List.getElem_mem hi')
        have hwf' : 0 ≤ (Z r)[i] ∧ (Z r)[i] < 256 := by
          simp [Lit.wf, IntKind.min, IntKind.max, IntKind.bits, IntKind.signed] at hwf
          omega
        have e1 : (Z r).getD i 0 = (Z r)[i] := by simp [List.getD_eq_getElem?_getD, List.getElem?_eq_getElem hi']
        have e2 : (((Z r).take (L r)).map (BitVec.ofInt 8))[i]?.getD 0#8 = BitVec.ofInt 8 (Z r)[i] := by
          simp [hi, List.getElem?_eq_getElem hi']
        rw [e1, e2]
        obtain ⟨m, hm'⟩ := Int.eq_ofNat_of_zero_le hwf'.1
        rw [hm', ofInt_u8 m (by omega)]
    · simp only [Rows.uptoBulk]
      have := bulk_length ((List.range n).map fun r => Deep.intRow (H := H) .u8 (A r) (L r) (Z r))
      simp at this
      omega
    · simp only [Rows.uptoBulk]
      have := bulk_rows (H := H) A L Z (fun r => ((Z r).take (L r)).map (BitVec.ofInt 8)) n hlow hzl (fun r hr => by have := hzl r hr; simp; omega)
      omega

end Go.Proofs.Ytnedlhejlcimoaa
