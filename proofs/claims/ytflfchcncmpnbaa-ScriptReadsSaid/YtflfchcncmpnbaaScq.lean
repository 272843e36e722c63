/- Numbers out of bytes, one by one. -/
import Derived.Test.YtflfchcncmpnbaaSck
namespace Go.Proofs.Ytflfchcncmpnbaa
open Go.RowKit
open Sc

theorem nat3 (l : Bs) (k : Nat) (h : k + 3 ≤ l.length) : nat ((l.drop k).take 3) = 65536 * (l[k]?.getD 0#8).toNat + 256 * (l[k + 1]?.getD 0#8).toNat + (l[k + 2]?.getD 0#8).toNat := by
  have e : (l.drop k).take 3 = [l[k]?.getD 0#8, l[k + 1]?.getD 0#8, l[k + 2]?.getD 0#8] := by
    apply List.ext_getElem
    · simp; omega
    · intro i h1 h2
      simp at h2
      rcases (show i = 0 ∨ i = 1 ∨ i = 2 by omega) with rfl | rfl | rfl
      · simp [List.getElem?_eq_getElem (show k < l.length by omega)]
      · simp [List.getElem?_eq_getElem (show k + 1 < l.length by omega)]
      · simp [List.getElem?_eq_getElem (show k + 2 < l.length by omega)]
  rw [e]
  simp [nat]
  omega

theorem nat2 (l : Bs) (k : Nat) (h : k + 2 ≤ l.length) : nat ((l.drop k).take 2) = 256 * (l[k]?.getD 0#8).toNat + (l[k + 1]?.getD 0#8).toNat := by
  have e : (l.drop k).take 2 = [l[k]?.getD 0#8, l[k + 1]?.getD 0#8] := by
    apply List.ext_getElem
    · simp; omega
    · intro i h1 h2
      simp at h2
      rcases (show i = 0 ∨ i = 1 by omega) with rfl | rfl
      · simp [List.getElem?_eq_getElem (show k < l.length by omega)]
      · simp [List.getElem?_eq_getElem (show k + 1 < l.length by omega)]
  rw [e]
  simp [nat]

theorem three_w (x y z : BitVec 8) : IntKind.i64.wrap (65536 * (x.toNat : Int)) = 65536 * (x.toNat : Int) ∧ IntKind.i64.wrap (256 * (y.toNat : Int)) = 256 * (y.toNat : Int) ∧
    IntKind.i64.wrap (65536 * (x.toNat : Int) + 256 * (y.toNat : Int)) = 65536 * (x.toNat : Int) + 256 * (y.toNat : Int) ∧
    IntKind.i64.wrap (65536 * (x.toNat : Int) + 256 * (y.toNat : Int) + (z.toNat : Int)) = 65536 * (x.toNat : Int) + 256 * (y.toNat : Int) + (z.toNat : Int) := by
  have hx := x.isLt
  have hy := y.isLt
  have hz := z.isLt
  exact ⟨IntWalk.i64_in _ (by omega), IntWalk.i64_in _ (by omega), IntWalk.i64_in _ (by omega), IntWalk.i64_in _ (by omega)⟩

theorem one_w (x : BitVec 8) : IntKind.i64.wrap (x.toNat : Int) = x.toNat := by
  have hx := x.isLt
  exact IntWalk.i64_in _ (by omega)

theorem cof_at (l : Bs) (i : Nat) (h : 3 * i + 3 ≤ l.length) : three (cof l i) = (l.drop (3 * i)).take 3 := three_nat _ (by simp; omega)

theorem cbs_cof (l : Bs) (h : 24 ≤ l.length) : cbs (cof l 0) (cof l 1) (cof l 2) (cof l 3) (cof l 4) (cof l 5) (cof l 6) (cof l 7) = l.take 24 := by
  unfold cbs cfb
  simp only [Int.toNat_natCast, List.flatMap_cons, List.flatMap_nil, List.append_nil]
  rw [cof_at l 0 (by omega), cof_at l 1 (by omega), cof_at l 2 (by omega), cof_at l 3 (by omega), cof_at l 4 (by omega), cof_at l 5 (by omega), cof_at l 6 (by omega), cof_at l 7 (by omega)]
  have st : ∀ k, l.take k ++ (l.drop k).take 3 = l.take (k + 3) := fun k => by rw [List.take_add]
  have e : l.take 24 = l.take 0 ++ (l.drop 0).take 3 ++ (l.drop 3).take 3 ++ (l.drop 6).take 3 ++ (l.drop 9).take 3 ++ (l.drop 12).take 3 ++ (l.drop 15).take 3 ++ (l.drop 18).take 3 ++ (l.drop 21).take 3 := by
    rw [st 0, st 3, st 6, st 9, st 12, st 15, st 18, st 21]
  rw [e]
  simp

theorem cbs_take {l : Bs} {L : List Ev} {m er : Nat} (h : 24 ≤ l.length) (hr : Reads (l.drop 24) L m er) : cbs (cof l 0) (cof l 1) (cof l 2) (cof l 3) (cof l 4) (cof l 5) (cof l 6) (cof l 7) ++ evs L = l.take (24 + m) := by
  rw [cbs_cof l h, ← hr.bytes, ← List.take_add]

end Go.Proofs.Ytflfchcncmpnbaa
