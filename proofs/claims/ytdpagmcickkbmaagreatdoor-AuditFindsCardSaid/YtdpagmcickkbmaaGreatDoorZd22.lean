/- PFow -/
import Derived.Sort.Grow
import Derived.Test.YtdpagmcickkbmaaGreatDoorZd20
namespace Go.Proofs.YtdpagmcickkbmaaGreatDoor
set_option maxRecDepth 100000
section
open Go.RowKit
structure TaAt (z:Zo) (F:Nat→Prop) (g:Nat) (om:Option Nat) (a:Option Addr) (n c:Nat) (w:World) (t:Ta):Prop where
 bx:Bo z g w #[.map om,.int .i64 t.hold,.int .i64 t.left,.slice a n c,.int .i64 ((t.lease:Int) - 1)]
 mo:(om=none∧t.roles=[])∨∃ bm,om=some bm∧Rm bm w t.roles
 rw:Rw 0 w a n c (ints t.waits)
 d1:om≠some g
 d2:¬ In a g
 d3:∀ bm,om=some bm→¬ In a bm
 m1:F g
 m2:∀ bm,om=some bm→F bm
 m3:∀ b,In a b→F b
 lt:∀ b,F b→b<w.heap.size
 l1:1≤t.lease
 l2:t.lease≤1000
def Ta.Is (z:Zo) (F:Nat→Prop) (g:Nat) (w:World) (t:Ta):Prop:=∃ om a n c,TaAt z F g om a n c w t
def TaGives (z:Zo) (F:Nat→Prop) (g:Nat) (w:World) (t2:Ta) (v:Value) (e:Ending) (w':World):Prop:=
 ∃ F2,e = .returned v∧Ta.Is z F2 g w' t2∧(∀ b,F2 b→F b∨w.heap.size≤b)∧Only F w w'
section
variable {z:Zo} {F:Nat→Prop} {g n c N:Nat} {om:Option Nat} {a:Option Addr} {w w':World} {t:Ta}
theorem TaAt.len (h:TaAt z F g om a n c w t):t.waits.length=n:=by have:=h.rw.len; rwa [ints_len] at this
theorem TaAt.keep {S:Nat→Prop} (h:TaAt z F g om a n c w t) (hO:Only S w w') (hS:∀ b,F b→¬ S b):TaAt z F g om a n c w' t:=by
 refine ⟨h.bx.keep hO (hS _ h.m1),?_,h.rw.only hO (fun b hb=>hS _ (h.m3 b hb)),h.d1,h.d2,h.d3,h.m1,h.m2,h.m3,fun b hb=>Nat.lt_of_lt_of_le (h.lt b hb) hO.size,h.l1,h.l2⟩
 rcases h.mo with h1 | ⟨bm,h1,h2⟩
 ·exact .inl h1
 ·exact .inr ⟨bm,h1,h2.keep hO (hS _ (h.m2 bm h1))⟩
theorem Ta.Is.keep {S:Nat→Prop} (h:Ta.Is z F g w t) (hO:Only S w w') (hS:∀ b,F b→¬ S b):Ta.Is z F g w' t:=by
 obtain ⟨om,a,n,c,h⟩:=h;exact ⟨om,a,n,c,h.keep hO hS⟩
theorem TaAt.drewN (h:TaAt z F g om a n c w t) (k:Nat):TaAt z F g om a n c (w.drewN k) t:=h.keep ((Only.refl (fun _=>False) w).drewN k) (fun _ _ h=>h)
theorem TaAt.gives (h:TaAt z F g om a n c w t) {F0:Nat→Prop} {w0:World} (v:Value) (hF:∀ b,F b→F0 b∨w0.heap.size≤b) (hO:Only F0 w0 w):TaGives z F0 g w0 t v (.returned v) w:=
 ⟨F,rfl,⟨om,a,n,c,h⟩,hF,hO⟩
theorem TaGives.then {z:Zo} {F0 F2:Nat→Prop} {t3:Ta} {v2:Value} {e:Ending} {w0:World} (hF:∀ b,F2 b→F0 b∨w0.heap.size≤b) (hO:Only F0 w0 w) (h:TaGives z F2 g w t3 v2 e w'):TaGives z F0 g w0 t3 v2 e w':=by
 obtain ⟨F3,rfl,h1,h2,h3⟩:=h;refine ⟨F3,rfl,h1,fun b hb=>?_,hO.trans' h3 hF⟩
 rcases h2 b hb with h4 | h4
 ·exact hF b h4
 ·exact .inr (Nat.le_trans hO.size h4)
theorem TaAt.sethold (h:TaAt z F g om a n c w t) (v:Int):TaAt z F g om a n c (w.setCell ⟨g,z.o+1,none⟩ (.int .i64 v)) { t with hold:=v }∧Only F w (w.setCell ⟨g,z.o+1,none⟩ (.int .i64 v)):=by
 have hS:=Bx.only g w (z.o+1) (.int .i64 v);refine ⟨⟨h.bx.set 1 _,?_,h.rw.only hS (fun b hb e=>h.d2 (e ▸ hb)),h.d1,h.d2,h.d3,h.m1,h.m2,h.m3,fun b hb=>Nat.lt_of_lt_of_le (h.lt b hb) hS.size,h.l1,h.l2⟩,hS.mono (fun k _ hk=>by subst hk; exact h.m1)⟩
 rcases h.mo with h1 | ⟨bm,h1,h2⟩
 ·exact .inl h1
 ·exact .inr ⟨bm,h1,h2.keep hS (fun e=>h.d1 (e ▸ h1))⟩
theorem TaAt.setleft (h:TaAt z F g om a n c w t) (v:Nat):TaAt z F g om a n c (w.setCell ⟨g,z.o+2,none⟩ (.int .i64 (v:Nat))) { t with left:=v }∧Only F w (w.setCell ⟨g,z.o+2,none⟩ (.int .i64 (v:Nat))):=by
 have hS:=Bx.only g w (z.o+2) (.int .i64 (v:Nat));refine ⟨⟨h.bx.set 2 _,?_,h.rw.only hS (fun b hb e=>h.d2 (e ▸ hb)),h.d1,h.d2,h.d3,h.m1,h.m2,h.m3,fun b hb=>Nat.lt_of_lt_of_le (h.lt b hb) hS.size,h.l1,h.l2⟩,hS.mono (fun k _ hk=>by subst hk; exact h.m1)⟩
 rcases h.mo with h1 | ⟨bm,h1,h2⟩
 ·exact .inl h1
 ·exact .inr ⟨bm,h1,h2.keep hS (fun e=>h.d1 (e ▸ h1))⟩
theorem TaAt.relay (h:TaAt z F g om a n c w t) {w3:World} {A:Option Addr} {k c4:Nat} {l2:List Int} (hO:Only (In a) w w3) (hm:Rw 0 w3 A k c4 (ints l2)) (hA:∀ b,In A b→In a b∨w.heap.size≤b) :
  TaAt z (fun b=>b=g∨om=some b∨In A b) g om A k c4 (w3.setCell ⟨g,z.o+3,none⟩ (.slice A k c4)) { t with waits:=l2 }∧(∀ b,(b=g∨om=some b∨In A b)→F b∨w.heap.size≤b)∧Only F w (w3.setCell ⟨g,z.o+3,none⟩ (.slice A k c4)):=by
 have hgw:g<w.heap.size:=h.lt _ h.m1
 have hAg:¬ In A g:=fun hi=>by
  rcases hA _ hi with h1 | h1
  ·exact h.d2 h1
  ·omega
 have hAb:∀ bm,om=some bm→¬ In A bm:=fun bm hbm hi=>by
  rcases hA _ hi with h1 | h1
  ·exact h.d3 bm hbm h1
  ·have:=h.lt _ (h.m2 bm hbm); omega
 have hS:=Bx.only g w3 (z.o+3) (.slice A k c4);refine ⟨⟨(h.bx.keep hO h.d2).set 3 (.slice A k c4),?_,hm.only hS (fun b hb e=>hAg (e ▸ hb)),h.d1,hAg,hAb,.inl rfl,fun bm hbm=>.inr (.inl hbm),fun b hb=>.inr (.inr hb),?_,h.l1,h.l2⟩,?_,?_⟩
 ·rcases h.mo with h1 | ⟨bm,h1,h2⟩
  ·exact .inl h1
  ·exact .inr ⟨bm,h1,(h2.keep hO (h.d3 bm h1)).keep hS (fun e=>h.d1 (e ▸ h1))⟩
 ·rintro b (rfl | hb | hb)
  ·exact Nat.lt_of_lt_of_le hgw (Nat.le_trans hO.size hS.size)
  ·exact Nat.lt_of_lt_of_le (h.lt _ (h.m2 b hb)) (Nat.le_trans hO.size hS.size)
  ·exact Nat.lt_of_lt_of_le (hm.inlt hb).2 hS.size
 ·rintro b (rfl | hb | hb)
  ·exact .inl h.m1
  ·exact .inl (h.m2 b hb)
  ·rcases hA _ hb with h2 | h2
   ·exact .inl (h.m3 _ h2)
   ·exact .inr h2
 ·exact (hO.mono (fun k _ hk=>h.m3 k hk)).trans (hS.mono (fun k _ hk=>by subst hk; exact h.m1))
theorem TaAt.reroles {bm:Nat} (h:TaAt z F g (some bm) a n c w t) {rs:List (Int×Int)} (hr:Rm bm w' rs) (hO:Only (fun k=>k=bm) w w'):TaAt z F g (some bm) a n c w' { t with roles:=rs }∧Only F w w':=
 ⟨⟨h.bx.keep hO (fun e=>h.d1 (by rw [e])),.inr ⟨bm,rfl,hr⟩,h.rw.only hO (fun b hb e=>h.d3 bm rfl (e ▸ hb)),h.d1,h.d2,h.d3,h.m1,h.m2,h.m3,fun b hb=>Nat.lt_of_lt_of_le (h.lt b hb) hO.size,h.l1,h.l2⟩,hO.mono (fun k _ hk=>by subst hk; exact h.m2 _ rfl)⟩
theorem TaAt.mapped (h:TaAt z F g none a n c w t) :
  TaAt z (fun b=>F b∨b=w.heap.size) g (some w.heap.size) a n c ((w.alloc (.map #[] 0)).setCell ⟨g,z.o,none⟩ (.map (some w.heap.size))) t∧Only F w ((w.alloc (.map #[] 0)).setCell ⟨g,z.o,none⟩ (.map (some w.heap.size))):=by
 have hgw:g<w.heap.size:=h.lt _ h.m1
 have hr:t.roles=[]:=by
  rcases h.mo with h1 | ⟨bm,h1,_⟩
  ·exact h1.2
  ·cases h1
 have hA:Only (fun _=>False) w (w.alloc (.map #[] 0)):=(Only.refl _ _).alloc _;have hS:=Bx.only g (w.alloc (.map #[] 0)) z.o (.map (some w.heap.size))
 have hin:∀ b,In a b→b<w.heap.size:=fun b hb=>h.lt b (h.m3 b hb)
 refine ⟨⟨(h.bx.keep hA (fun h=>h)).set 0 _,.inr ⟨_,rfl,?_⟩,(h.rw.only hA (fun _ _ h=>h)).only hS (fun b hb e=>h.d2 (e ▸ hb)),?_,h.d2,?_,.inl h.m1,?_,fun b hb=>.inl (h.m3 b hb),?_,h.l1,h.l2⟩,?_⟩
 ·rw [hr]
  exact (Rm.made w _ rfl).keep hS (by omega)
 ·intro e; injection e; omega
 ·intro bm e hb; injection e; have:=hin _ hb; omega
 ·intro bm e; injection e with e; exact .inr e.symm
 ·rintro b (hb | rfl)
  ·exact Nat.lt_of_lt_of_le (h.lt b hb) (Nat.le_trans hA.size hS.size)
  ·exact Nat.lt_of_lt_of_le (by simp) hS.size
 ·exact (hA.mono (fun _ _ h=>h.elim)).trans (hS.mono (fun k _ hk=>by subst hk; exact h.m1))
theorem TaAt.look (h:TaAt z F g om a n c w t) {id:Int} (hw:wf64 id) :
  (Instr.lookup 68 (.map om) (.int .i64 id) true).run Tryz.prog w = .ok (.tuple #[.int .i64 (rrole t.roles id),.bool (rhas t.roles id)]) w:=by
 rcases h.mo with ⟨rfl,hr⟩ | ⟨bm,rfl,hr⟩
 ·rw [hr,Maps.look_nil true law_int Tryz.underlying68 (zero_role w) (key_int hw)]
  rfl
 ·exact hr.look_ok hw
theorem there_any (h:TaAt z F g om a n c w t) (id:Int) (hid:wf64 id) :
  Calls Tryz.prog 95 #[.pointer (some ⟨g,z.o,none⟩),.int .i64 id] w fun e w'=>e = .returned (.bool (rhas t.roles id))∧w'=w:=by
 have hc:=h.bx.cell0 (.map om) rfl;have hl:=h.look hid;clear h;generalize rhas t.roles id=B at *;generalize rrole t.roles id=r at *
 go_enter Tryz.func95,Tryz.ntmps95
 go_wp2;go_ret;exact ⟨rfl,rfl⟩
theorem right_any (r:Int) (w:World) :
  Calls Tryz.prog 147 #[.int .i64 r] w fun e w'=>e = .returned (.bool (isRole r))∧w'=w:=by
 rcases (show r<0∨(0≤r∧2<r)∨(0≤r∧r≤2) by omega) with h1 | ⟨h1,h2⟩ | ⟨h1,h2⟩
 ·have e:isRole r=false:=by unfold isRole; simp; omega
  rw [e]; clear e
  go_enter Tryz.func147,Tryz.ntmps147
  go_wp2;go_ret;exact ⟨rfl,rfl⟩
 ·have e:isRole r=false:=by unfold isRole; simp; omega
  rw [e]; clear e
  go_enter Tryz.func147,Tryz.ntmps147
  go_wp2;go_ret;refine ⟨?_,rfl⟩
  show Ending.returned (.bool (decide (r≤2)))=_
  rw [decide_eq_false (by omega)]
 ·have e:isRole r=true:=by unfold isRole; simp; omega
  rw [e]; clear e
  go_enter Tryz.func147,Tryz.ntmps147
  go_wp2;go_ret;exact ⟨rfl,rfl⟩
def mayE (rs:List (Int×Int)) (id:Int):Int:=if rhas rs id then (if rrole rs id=0 then 4 else 0) else 2
theorem may_any (h:TaAt z F g om a n c w t) (id:Int) (hid:wf64 id) :
  Calls Tryz.prog 155 #[.pointer (some ⟨g,z.o,none⟩),.int .i64 id] w fun e w'=>e = .returned (.int .i64 (mayE t.roles id))∧w'=w:=by
 have hc:=h.bx.cell0 (.map om) rfl;have hl:=h.look hid;clear h;unfold mayE;generalize rhas t.roles id=B at *;generalize rrole t.roles id=r at *
 rcases B with _ | _
 ·rw [if_neg (by simp)]
  go_enter Tryz.func155,Tryz.ntmps155
  go_wp2;go_ret;exact ⟨rfl,rfl⟩
 ·rw [if_pos rfl]
  by_cases e:r=0
  ·subst e
   rw [if_pos rfl]
   go_enter Tryz.func155,Tryz.ntmps155
   go_wp2;go_ret;exact ⟨rfl,rfl⟩
  ·rw [if_neg e]
   have e2:(r == 0)=false:=by simpa using e
   go_enter Tryz.func155,Tryz.ntmps155
   go_wp2;go_ret;exact ⟨rfl,rfl⟩
theorem lease_any (h:TaAt z F g om a n c w t) :
  Calls Tryz.prog 75 #[.pointer (some ⟨g,z.o,none⟩)] w fun e w'=>e = .returned (.int .i64 t.lease)∧w'=w:=by
 have hc:=h.bx.cell 4 (.int .i64 ((t.lease:Int) - 1)) rfl;have l1:=h.l1;have l2:=h.l2;clear h
 go_enter Tryz.func75,Tryz.ntmps75
 go_wp2;go_ret;exact ⟨rfl,rfl⟩
end
end
end Go.Proofs.YtdpagmcickkbmaaGreatDoor
