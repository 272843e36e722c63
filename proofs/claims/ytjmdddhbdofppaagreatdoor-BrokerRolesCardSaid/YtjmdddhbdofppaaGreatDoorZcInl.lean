/- Bools that come in as a list. -/
import Derived.Deep.Grids
import Derived.Test.YtjmdddhbdofppaaGreatDoorZc23

namespace Go.Proofs.YtjmdddhbdofppaaGreatDoor
open Go.ChangeShapes Go.WideShapes Go.ChangeAt Go.RowKit Go.Deep
def Bools (w : World) (a : Option Addr) (n : Nat) (B : Nat→Bool) : Prop:=0 < n→∃ b off,a = some ⟨b,off,none⟩∧b < w.heap.size∧∀ j,j < n→w.cell? ⟨b,off + j,none⟩ = some (.bool (B j))
section
variable {H : Type} {enc : TypeId×Value→H} {W : World} {held : Bool}
theorem open_bools_in {fuel : Nat} {a : Option Addr} {n cap : Nat} {x : DataW H×List MemPlace} (h : DataW.trod enc Tryz.prog W 0 (fun _=>true) held fuel 90 [.slice a n cap] = some x) : ∃ B,Bools W a n B∧n≤cap∧cap≤maxLen:=by
  rcases open_bools Tryz.underlying90 Tryz.underlying4 (by kernel_rfl) h with ⟨hcs,_⟩ | ⟨x,l,c,B,hcs,_,hl,hm,_,hcell⟩
  · simp at hcs
    obtain ⟨rfl,rfl,rfl⟩:=hcs
    exact ⟨fun _=>false,fun h=>absurd h (by omega),Nat.le_refl _,Nat.zero_le _⟩
  · simp at hcs
    obtain ⟨rfl,rfl,rfl⟩:=hcs
    refine ⟨B,fun hn=>?_,hl,hm⟩
    obtain ⟨b,off,rfl,hlt⟩:=spot_of (hcell 0 (by omega))
    exact ⟨b,off,rfl,hlt,fun j hj=>by rw [← add_none]; exact hcell j (by omega)⟩
end
end Go.Proofs.YtjmdddhbdofppaaGreatDoor
