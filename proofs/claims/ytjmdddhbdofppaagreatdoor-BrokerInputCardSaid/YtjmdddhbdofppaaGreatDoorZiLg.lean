/- Brokers of whatever conf, behind whatever events: what their users, connections and holder are (BrokerFloor, BrokerBounds); a conf that comes in. -/
import Derived.Test.YtjmdddhbdofppaaGreatDoorZiCr
import Derived.Test.YtjmdddhbdofppaaGreatDoorZiInv
import Derived.Test.YtjmdddhbdofppaaGreatDoorZiLf
import Derived.Test.YtjmdddhbdofppaaGreatDoorZiQb
namespace Go.Proofs.YtjmdddhbdofppaaGreatDoor
open Go.RowKit
open Fr Bk
theorem conf_ev {c : Cf} (h : CfOk c) : EvOk (bnew c) 0 0 0:=
  ⟨⟨h.log,h.data,h.queue,h.input,h.idle,h.strikes,(fok_new c.lease).mono (by decide),fun p hp=>(by cases hp),Nat.zero_le _,⟨Int.le_refl 0,(by decide : (0 : Int)≤16)⟩,Nat.zero_le _,fun k c hc=>(by cases hc)⟩,fun k c hc=>(by cases hc),Nat.zero_le _,Nat.zero_le _,Sp.Ok.start (by have:=h.width; omega) (by have:=h.width; omega)⟩
theorem rt_cf {a b c d e f g h : Int} (hr : rt a b c d e f g h = true) : ∃ cf : Cf,CfOk cf∧EvOk (bnew cf) 0 0 0∧a = (cf.log : Nat)∧b = (cf.data : Nat)∧c = (cf.queue : Nat)∧d = (cf.input : Nat)∧e = (cf.strikes : Nat)∧f = (cf.lease : Nat)∧g = (cf.idle : Nat)∧h = (cf.width : Nat):=by
  unfold rt bw at hr
  simp only [Bool.and_eq_true,decide_eq_true_eq] at hr
  have ho : CfOk ⟨a.toNat,b.toNat,c.toNat,d.toNat,e.toNat,f.toNat,g.toNat,h.toNat⟩:=⟨by dsimp only; omega,by dsimp only; omega,by dsimp only; omega,by dsimp only; omega,by dsimp only; omega,by dsimp only; omega,by dsimp only; omega,by dsimp only; omega⟩
  exact ⟨_,ho,conf_ev ho,by dsimp only; omega,by dsimp only; omega,by dsimp only; omega,by dsimp only; omega,by dsimp only; omega,by dsimp only; omega,by dsimp only; omega,by dsimp only; omega⟩
theorem Ievs.more {w : World} {B B' n : Nat} {a : Option Addr} {K I R : Nat→Int} {A : Nat→Option Addr} {Ln Cp : Nat→Nat} {T : Nat→Bs} (h : Ievs w B a n K I R A Ln Cp T) (hB : B≤B') : Ievs w B' a n K I R A Ln Cp T:=
  ⟨fun hn=>by
    obtain ⟨b,off,e,hlt,hc⟩:=h.outer hn
    exact ⟨b,off,e,Nat.lt_of_lt_of_le hlt hB,hc⟩,fun r hr=>⟨(h.inner r hr).1,(h.inner r hr).2.1.more hB,(h.inner r hr).2.2⟩⟩
structure AtEv (cf : Cf) (Ln : Nat→Nat) (k : Nat) (b : Br) : Prop where
  ev : EvOk b k (k * 2052 + sumL Ln k) (sumL Ln k)
  r3 : R3 b
  cf : b.cf = cf
end Go.Proofs.YtjmdddhbdofppaaGreatDoor
