/- Fom -/
import Derived.Deep.RegionLaw
import Derived.BigRegion
import Derived.BigQuiet
import Derived.Deep.DeepCutAuto
import Derived.Test.YtjmdddhbdofppaaGreatDoorZc05
import Derived.Test.YtjmdddhbdofppaaGreatDoorZc10
import Derived.Test.YtjmdddhbdofppaaGreatDoorZc18

section
namespace Go.Proofs.YtjmdddhbdofppaaGreatDoor
open Go.RowKit
set_option maxRecDepth 100000 in
theorem elem_int : Elem 68 3 (.int .i64 0) 8:=⟨Tryz.underlying68,info_parts (by kernel_rfl),rfl,by omega⟩
structure MdAt (M : Nat→Prop) (g bm : Nat) (a : Option Addr) (n c : Nat) (w : World) (s : Fl) : Prop where
  bx : Bx g w #[.int .i64 s.lease,.int .i64 s.left,.map (some bm),.bool false,.slice a n c]
  rm : Rm bm w s.roles
  rw : Rw 0 w a n c (ints s.line)
  d1 : bm≠g
  d2 : ¬ In a g
  d3 : ¬ In a bm
  m1 : M g
  m2 : M bm
  m3 : ∀ b,In a b→M b
  lt : ∀ b,M b→b < w.heap.size
def Md (M : Nat→Prop) (g : Nat) (w : World) (s : Fl) : Prop:=∃ bm a n c,MdAt M g bm a n c w s
def MdGives (M : Nat→Prop) (g : Nat) (w : World) (s2 : Fl) (v : Value) (e : Ending) (w' : World) : Prop:=
  ∃ M2,e = .returned v∧Md M2 g w' s2∧(∀ b,M2 b→M b∨w.heap.size≤b)∧Only M w w'
section
variable {M : Nat→Prop} {g bm n c N : Nat} {a : Option Addr} {w w' : World} {s : Fl}
set_option maxRecDepth 100000 in
theorem MdAt.len (h : MdAt M g bm a n c w s) : s.line.length = n:=by have:=h.rw.len; rwa [ints_len] at this
set_option maxRecDepth 100000 in
theorem MdAt.keep {S : Nat→Prop} (h : MdAt M g bm a n c w s) (hO : Only S w w') (hS : ∀ b,M b→¬ S b) : MdAt M g bm a n c w' s:=
  ⟨h.bx.keep hO (hS _ h.m1),h.rm.keep hO (hS _ h.m2),h.rw.only hO (fun b hb=>hS _ (h.m3 b hb)),h.d1,h.d2,h.d3,h.m1,h.m2,h.m3,fun b hb=>Nat.lt_of_lt_of_le (h.lt b hb) hO.size⟩
set_option maxRecDepth 100000 in
theorem Md.keep {S : Nat→Prop} (h : Md M g w s) (hO : Only S w w') (hS : ∀ b,M b→¬ S b) : Md M g w' s:=by
  obtain ⟨bm,a,n,c,h⟩:=h
  exact ⟨bm,a,n,c,h.keep hO hS⟩
set_option maxRecDepth 100000 in
theorem Md.lt (h : Md M g w s) : ∀ b,M b→b < w.heap.size:=by
  obtain ⟨bm,a,n,c,h⟩:=h
  exact h.lt
set_option maxRecDepth 100000 in
theorem MdAt.drewN (h : MdAt M g bm a n c w s) (k : Nat) : MdAt M g bm a n c (w.drewN k) s:=h.keep ((Only.refl (fun _=>False) w).drewN k) (fun _ _ h=>h)
set_option maxRecDepth 100000 in
theorem MdAt.relay (h : MdAt M g bm a n c w s) {w3 : World} {A : Option Addr} {k c4 : Nat} {l2 : List Int} (hO : Only (In a) w w3) (hm : Rw 0 w3 A k c4 (ints l2)) (hA : ∀ b,In A b→In a b∨w.heap.size≤b) :
    MdAt (fun b=>b = g∨b = bm∨In A b) g bm A k c4 (w3.setCell ⟨g,4,none⟩ (.slice A k c4)) { s with line:=l2 }∧(∀ b,(b = g∨b = bm∨In A b)→M b∨w.heap.size≤b)∧Only M w (w3.setCell ⟨g,4,none⟩ (.slice A k c4)):=by
  have hgw : g < w.heap.size:=h.lt _ h.m1
  have hbw : bm < w.heap.size:=h.lt _ h.m2
  have hAg : ¬ In A g:=fun hi=>by
    rcases hA _ hi with h1 | h1
    · exact h.d2 h1
    · omega
  have hAb : ¬ In A bm:=fun hi=>by
    rcases hA _ hi with h1 | h1
    · exact h.d3 h1
    · omega
  have hS:=Bx.only g w3 4 (.slice A k c4)
  have h1:=(h.bx.keep hO h.d2).set 4 (.slice A k c4)
  refine ⟨⟨h1,(h.rm.keep hO h.d3).keep hS h.d1,hm.only hS (fun b hb e=>hAg (e ▸ hb)),h.d1,hAg,hAb,.inl rfl,.inr (.inl rfl),fun b hb=>.inr (.inr hb),?_⟩,?_,?_⟩
  · rintro b (rfl | rfl | hb)
    · exact Nat.lt_of_lt_of_le hgw (Nat.le_trans hO.size hS.size)
    · exact Nat.lt_of_lt_of_le hbw (Nat.le_trans hO.size hS.size)
    · exact Nat.lt_of_lt_of_le (hm.inlt hb).2 hS.size
  · rintro b (rfl | rfl | hb)
    · exact .inl h.m1
    · exact .inl h.m2
    · rcases hA _ hb with h2 | h2
      · exact .inl (h.m3 _ h2)
      · exact .inr h2
  · exact (hO.mono (fun k _ hk=>h.m3 k hk)).trans (hS.mono (fun k _ hk=>by subst hk; exact h.m1))
set_option maxRecDepth 100000 in
theorem MdAt.reroles (h : MdAt M g bm a n c w s) {rs : List (Int×Int)} (hr : Rm bm w' rs) (hO : Only (fun k=>k = bm) w w') : MdAt M g bm a n c w' { s with roles:=rs }∧Only M w w':=
  ⟨⟨h.bx.keep hO (fun e=>h.d1 e.symm),hr,h.rw.only hO (fun b hb e=>h.d3 (e ▸ hb)),h.d1,h.d2,h.d3,h.m1,h.m2,h.m3,fun b hb=>Nat.lt_of_lt_of_le (h.lt b hb) hO.size⟩,hO.mono (fun k _ hk=>by subst hk; exact h.m2)⟩
set_option maxRecDepth 100000 in
theorem MdAt.gives (h : MdAt M g bm a n c w s) {M0 : Nat→Prop} {w0 : World} (v : Value) (hM : ∀ b,M b→M0 b∨w0.heap.size≤b) (hO : Only M0 w0 w) : MdGives M0 g w0 s v (.returned v) w:=
  ⟨M,rfl,⟨bm,a,n,c,h⟩,hM,hO⟩
end
end Go.Proofs.YtjmdddhbdofppaaGreatDoor
end
