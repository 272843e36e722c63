/- What Write hands over stays. -/
import Derived.Test.YtjmdddhbdofppaaGreatDoorZc41

namespace Go.Proofs.YtjmdddhbdofppaaGreatDoor
open Go.RowKit Go.Shelf Go.Maps
open Fr Bk
theorem lb_writeo {n0 g : Nat} {w : World} {b : Br} (h : LBx n0 g w b) (hk : BOk b) (id n : Int) (hid : wf64 id) : Calls Tryz.prog 32 #[.pointer (some (at0 g)),.int .i64 id,.int .i64 n] w fun e w' =>
    ∃ A m c,e = .returned (.tuple #[.slice A m c,.int .i64 (writeE b id : Nat)])∧LS n0 (fun x=>∃ p,A = some p∧p.block = x) g w' (writeB b id n)∧Below n0 w w'∧Bytes w' w'.heap.size A m (writeT b id n)∧m≤c:=by
  obtain ⟨F,rs,h⟩:=h
  refine (bwriteo_any h.is hk id n hid).mono ?_
  rintro e w' ⟨A,m,c,F2,r2,rfl,g1,g2,g3,g4,g5,g6⟩
  obtain ⟨_,_,e3⟩:=h.e (show EGives F g w (writeB b id n) (.tuple #[.slice A m c,.int .i64 (writeE b id : Nat)]) (.returned (.tuple #[.slice A m c,.int .i64 (writeE b id : Nat)])) w' from ⟨F2,r2,rfl,g1,g2,g3⟩)
  refine ⟨A,m,c,rfl,⟨F2,r2,⟨g1,fun x hx=>?_,Nat.le_trans h.le g3.size⟩,fun x ⟨p,hp,e⟩=>by subst e; exact (g6 p hp).2⟩,e3,g4,g5⟩
  rcases g2 x hx with hs | hs
  · exact h.new x hs
  · exact Nat.le_trans h.le hs
theorem Bytes.aside {n0 : Nat} {S : Nat→Prop} {w w' : World} {A : Option Addr} {m : Nat} {t : Bs} (h : Bytes w w.heap.size A m t) (ho : Only (fun x=>n0≤x∧¬ S x) w w') (hS : ∀ p,A = some p→S p.block) : Bytes w' w.heap.size A m t:=h.only ho (Nat.le_refl _) fun _ p hp hn=>hn.2 (hS p hp)
end Go.Proofs.YtjmdddhbdofppaaGreatDoor
