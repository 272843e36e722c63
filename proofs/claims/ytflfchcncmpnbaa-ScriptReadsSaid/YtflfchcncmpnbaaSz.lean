/- Sizes out of whatever numbers: a rest, some bits. -/
import Derived.Test.YtflfchcncmpnbaaWor
import Derived.IntWalk
namespace Go.Proofs.Ytflfchcncmpnbaa
open Go.RowKit

theorem rest_any (a m : Int) (h1 : 0 < m) (h2 : m ≤ 1000000) : ∃ p : Nat, (p : Int) < m ∧ wrap64 ((IntKind.u64.wrap a).tmod m) = p := by
  have hw : 0 ≤ IntKind.u64.wrap a := by
    have := wrap_u64_nonneg a
    exact this
  generalize IntKind.u64.wrap a = x at *
  rw [Int.tmod_eq_emod_of_nonneg hw]
  have h3 := Int.emod_nonneg x (show m ≠ 0 by omega)
  have h4 := Int.emod_lt_of_pos x h1
  generalize x % m = y at *
  refine ⟨y.toNat, by omega, ?_⟩
  rw [IntWalk.wrap64_in _ (by omega)]
  omega

theorem i64_bounds {n : Int} (h : (Lit.int .i64 n).wf = true) : -9223372036854775808 ≤ n ∧ n ≤ 9223372036854775807 := by
  simp [Lit.wf, IntKind.min, IntKind.max, IntKind.bits, IntKind.signed] at h
  omega

theorem bits_any (a : Int) (m : Nat) (h : m ≤ 1000000) : ∃ r : Nat, r ≤ m ∧ bits .and .i64 a m = r := by
  have hlt : (BitVec.ofInt 64 a &&& BitVec.ofInt 64 (m : Int)).toNat ≤ m := by
    rw [BitVec.toNat_and]
    refine Nat.le_trans Nat.and_le_right ?_
    rw [BitVec.ofInt_natCast, BitVec.toNat_ofNat]
    exact Nat.mod_le _ _
  refine ⟨_, hlt, ?_⟩
  show IntKind.i64.wrap ((BitVec.ofInt 64 a &&& BitVec.ofInt 64 (m : Int)).toNat : Int) = _
  rw [IntKind.wrap_i64]
  omega

end Go.Proofs.Ytflfchcncmpnbaa
