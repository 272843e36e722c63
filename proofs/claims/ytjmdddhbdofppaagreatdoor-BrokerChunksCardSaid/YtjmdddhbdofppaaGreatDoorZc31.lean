/- Orp -/
import Derived.Deep.DeepCutAuto
import Derived.Test.YtjmdddhbdofppaaGreatDoorZc05
import Derived.Test.YtjmdddhbdofppaaGreatDoorZc10
import Derived.Test.YtjmdddhbdofppaaGreatDoorZc30

section
namespace Go.Proofs.YtjmdddhbdofppaaGreatDoor
open Go.RowKit
open Dgs Orm
set_option maxRecDepth 100000 in
theorem pre_len (k : Nat) (h : 6≤k) : (tx k 0).length = (pre k).length + 1:=by
  rw [tx_pre h,dgs_small (by decide)]
  simp
structure OrJ (w wr : World) (s : Bs) (k : Nat) : Prop where
  k0 : 1≤k
  k1 : k≤12
  non : ∀ (j n : Int),j < k→¬ Is s j n
  bel : Below w.heap.size w wr
  bx : Bx w.heap.size wr #[.int .i64 0,.int .i64 0]
  ti : TI wr
set_option maxRecDepth 100000 in
theorem OrJ.step {w wr w2 : World} {s : Bs} {k : Nat} (h : OrJ w wr s k) (hb : Below wr.heap.size wr w2) : OrJ w w2 s k:=
  ⟨h.k0,h.k1,h.non,Below.trans h.bel (hb.mono h.bel.size),h.bx.go hb h.bx.room,h.ti.below hb⟩
set_option maxRecDepth 100000 in
theorem OrJ.next {w wr : World} {s : Bs} {k : Nat} (h : OrJ w wr s k) (hk : k≤11) (hn : ∀ n : Int,¬ Is s k n) : OrJ w wr s (k + 1):=
  ⟨by omega,by omega,fun j n hj hi=>by
    rcases (show j < k∨j = k by omega) with h1 | rfl
    · exact h.non j n h1 hi
    · exact hn n hi,h.bel,h.bx,h.ti⟩
end Go.Proofs.YtjmdddhbdofppaaGreatDoor
end
