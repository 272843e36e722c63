/- Itoa of whatever number that isn't below zero; what two of a program's bytes are as strings. -/
import Derived.Test.YtjmdddhbdofppaaGreatDoorZb30
import Derived.Test.YtjmdddhbdofppaaGreatDoorZbShei

namespace Go.Proofs.YtjmdddhbdofppaaGreatDoor
open Go.RowKit
theorem itoa_full (n : Int) (h0 : 0 ≤ n) (h1 : n ≤ 9223372036854775807) (w : World) (ht : TI w) :
    Calls Tryz.prog 51 #[.int .i64 n] w fun e w' => e = .returned (.string (str (Dgs.dgs n.toNat))) ∧ Below w.heap.size w w' := by
  refine (Tryz.strconv_Itoa n (by omega) h1 w ht.tab).mono ?_
  rintro e w' ⟨rfl, k, os, rfl⟩
  exact ⟨by rw [itoa_str n h0], below_grow w k os⟩
end Go.Proofs.YtjmdddhbdofppaaGreatDoor
