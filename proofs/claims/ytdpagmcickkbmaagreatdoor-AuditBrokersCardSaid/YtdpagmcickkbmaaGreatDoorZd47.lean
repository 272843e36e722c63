/- PWu PWv PTw PVh PVi -/
import Derived.Test.YtdpagmcickkbmaaGreatDoorZd29
import Derived.Test.YtdpagmcickkbmaaGreatDoorZd46
namespace Go.Proofs.YtdpagmcickkbmaaGreatDoor
set_option maxRecDepth 100000
section
open Go.RowKit
section
open Bk
theorem run_mappg (ty:TypeId) {base n c:Nat} {w:World} {a:Option Addr} {L:List M} (h:MsgRow base w a n c L) {B:Nat} {A:Option Addr} {m c2:Nat} {K:List M} (hs:MsgIn w B A K) (hm:K.length=m)
  (hroom:n+m≤3000000000000) (hbase:base≤w.heap.size) :
  ∃ A2 c3 w',(Builtin.append_ #[28,28] ty #[.slice a n c,.slice A m c2]).run Tryz.prog w = .ok (.slice A2 (n+m) c3) w'∧MsgRow base w' A2 (n+m) c3 (L ++ K)∧Grew w w' a A2:=by
 obtain ⟨i0,hi0,hi1,hi2,hi3⟩:=msg_info
 by_cases h0:m=0
 ·subst h0
  have hM:K=[]:=List.eq_nil_of_length_eq_zero hm;subst hM;refine ⟨a,c,w,?_,by simpa using h,Grew.refl _ _⟩;have hcap:=h.cap;refine run_append_nothing w 28 28 ty 38 i0 Tryz.underlying28 hi0 a n c hcap _ ?_
  rcases A with _ | ad
  ·exact Src.ofNil w Tryz.underlying28 c2
  ·exact Src.ofSlice w Tryz.underlying28 ad 0 c2 [] (by simp) (by intro j u hu; simp at hu) (by intro u hu; cases hu)
 ·obtain ⟨ad,rfl,_,hc⟩:=hs.src (by omega)
  obtain ⟨v',w',hrun,h1,h2,_,h4⟩:=run_append_own_at (P:=Tryz.prog) (w:=w) base 28 ty 38 i0 _ 4 40 Tryz.underlying28 hi0 hi1 hi2 hi3 rfl (by omega) (.slice a n c) n (mscells L) h.row ad m c2 (mscells K)
   (by rw [mscells_len,hm]) hc (mscells_one K) (by unfold maxLen; omega) (by omega) hbase
  have hform:∃ A2 c3,v' = .slice A2 (n+m) c3∧n+m≤c3:=by
   rcases h1.2 with ⟨rfl,h0⟩ | ⟨g,cap,cur,rfl,_,_,h5,_⟩
   ·omega
   ·exact ⟨_,cap,rfl,h5⟩
  obtain ⟨A2,c3,rfl,hc3⟩:=hform;refine ⟨A2,c3,w',hrun,⟨by rw [mscells_app]; exact h1,hc3,fun e he=>?_⟩,grew_of h2 h4⟩
  rcases List.mem_append.1 he with h' | h'
  ·exact h.inner e h'
  ·exact hs.inner e h'
end
open Fr Bk
theorem msg_of_bx {gl:Nat} {w:World} {e:M} (h:Bx gl w #[.int .i64 e.k,.int .i64 e.a,.int .i64 e.b,.string (str e.t)]) (he:e.t.length≤maxLen):MsgIn w (gl+1) (some ⟨gl,0,none⟩) [e]:=by
 refine ⟨fun _=>⟨gl,0,rfl,by omega,fun r x hr=>?_⟩,fun x hx=>by simp at hx; subst hx; exact he⟩
 rcases r with _ | r
 ·simp at hr
  subst hr;exact ⟨h.cell 0 _ rfl,h.cell 1 _ rfl,h.cell 2 _ rfl,h.cell 3 _ rfl⟩
 ·simp at hr
theorem MsIn.more {w:World} {B B':Nat} {a:Option Addr} {L:List Au.M} (h:MsIn w B a L) (hB:B≤B'):MsIn w B' a L:=
 ⟨fun hn=>by
  obtain ⟨b,off,e,hlt,hc⟩:=h.outer hn
  exact ⟨b,off,e,Nat.lt_of_lt_of_le hlt hB,hc⟩,h.inner⟩
theorem rest_big (a m:Int) (h1:0<m) (h2:m≤1000000000000):∃ p:Nat,(p:Int)<m∧wrap64 ((IntKind.u64.wrap a).tmod m)=p:=by
 have hw:0≤IntKind.u64.wrap a:=wrap_u64_nonneg a;generalize IntKind.u64.wrap a=x at *;rw [Int.tmod_eq_emod_of_nonneg hw];have h3:=Int.emod_nonneg x (show m≠0 by omega);have h4:=Int.emod_lt_of_pos x h1;generalize x % m=y at *;refine ⟨y.toNat,by omega,?_⟩;rw [IntWalk.wrap64_in _ (by omega)];omega
theorem wpOpv {P:Program} {ops:Array Oper} {Q:Exit→Act→World→Prop} {i:Nat} {o:Oper} {K:Act→World→Prop} {a:Act} {w w':World} {v:Value} (ho:ops[i]?=some o) (hg:o.guard=none)
  (hr:(execOp a.eval o).run P w = .ok (.value v) w') (h:K (a.put o.dst v) w'):wpOp P ops Q i K a w:=by
 unfold wpOp;simp only [ho];rw [if_pos (by simp [Region.wanted,hg])]
 left
 unfold Oper.wp;rw [hr];exact h
structure TwJ (g5:Nat) (w0 w:World) (A:Option Addr) (n c:Nat) (L:List M) (gl:Nat) (e:M):Prop where
 row:MsgRow g5 w A n c L
 lit:Bx gl w #[.int .i64 e.k,.int .i64 e.a,.int .i64 e.b,.string (str e.t)]
 off:¬ In A gl
 b:Below g5 w0 w
 le:g5≤w.heap.size
theorem TwJ.app {g5:Nat} {w0 w:World} {A:Option Addr} {n c:Nat} {L:List M} {gl:Nat} {e:M} (h:TwJ g5 w0 w A n c L gl e) {B:Nat} {A2:Option Addr} {m c2:Nat} {K:List M} (hs:MsgIn w B A2 K) (hm:K.length=m) (hroom:n+m≤3000000000000) (ty:TypeId) :
  ∃ A3 c3 w',(Builtin.append_ #[28,28] ty #[.slice A n c,.slice A2 m c2]).run Tryz.prog w = .ok (.slice A3 (n+m) c3) w'∧TwJ g5 w0 w' A3 (n+m) c3 (L ++ K) gl e:=by
 obtain ⟨A3,c3,w',hrun,h1,h2⟩:=run_mappg ty h.row (c2:=c2) hs hm hroom h.le;have hgl:=h.lit.room;refine ⟨A3,c3,w',hrun,h1,h.lit.keep h2.only h.off,fun ⟨p,hp,hpe⟩=>?_,h.b.trans (h2.only.below h.le fun k hk ⟨p,hp,hpe⟩=>by have:=(h.row.lt hp).1; omega),Nat.le_trans h.le h2.only.size⟩
 rcases h2.place p hp with h3 | h3
 ·rw [hpe] at h3; exact h.off h3
 ·omega
end
section
open Go.RowKit
open Fr Bk
def mrow (m:Au.M) (i:Nat):Value:=match i with
 | 0=>.int .i64 m.k
 | 1=>.int .i64 m.a
 | 2=>.int .i64 m.b
 | _=>.string (str m.t)
theorem msin_set {w:World} {B g off:Nat} {L:List Au.M} (h:MsIn w B (some ⟨g,off,none⟩) L) {idx:Nat} {m m':Au.M} (hm:L[idx]?=some m) {j:Nat} (hj:j<4) {v:Value} (hv:mrow m' j=v) (ho:∀ i,i<4→i≠j→mrow m' i=mrow m i) (ht:m'.t.length≤maxLen) :
  MsIn (w.setCell ⟨g,off+idx * 4+j,none⟩ v) B (some ⟨g,off,none⟩) (L.set idx m'):=by
 have hil:idx<L.length:=by
  rcases Nat.lt_or_ge idx L.length with h' | h'
  ·exact h'
  ·rw [List.getElem?_eq_none h'] at hm; cases hm
 refine ⟨fun _=>?_,fun x hx=>?_⟩
 ·obtain ⟨b,o,e,hlt,hc⟩:=h.outer (by omega)
  injection e with e
  injection e with e1 e2
  subst e1 e2;refine ⟨g,off,rfl,hlt,fun r x hr=>?_⟩
  have key:∀ i,i<4→(w.setCell ⟨g,off+idx * 4+j,none⟩ v).cell? ⟨g,off+r * 4+i,none⟩=some (mrow x i):=by
   intro i hi
   have old:∀ {r:Nat} {y:Au.M},L[r]?=some y→w.cell? ⟨g,off+r * 4+i,none⟩=some (mrow y i):=by
    intro r y hy;obtain ⟨c0,c1,c2,c3⟩:=hc r y hy
    rcases (by omega:i=0∨i=1∨i=2∨i=3) with rfl | rfl | rfl | rfl
    ·exact c0
    ·exact c1
    ·exact c2
    ·exact c3
   by_cases e:r=idx
   ·subst e
    rw [List.getElem?_set_self hil] at hr
    injection hr with hr
    subst hr
    by_cases ei:i=j
    ·subst ei
     rw [World.cell?_setCell_same _ _ _ (old hm),hv]
    ·rw [World.cell?_setCell_other _ _ _ _ (fun e=>by injection e with _ e; omega),old hm,ho i hi ei]
   ·rw [List.getElem?_set_ne (fun e2=>e e2.symm)] at hr
    rw [World.cell?_setCell_other _ _ _ _ (fun e3=>by injection e3 with _ e3; omega)];exact old hr
  exact ⟨key 0 (by omega),key 1 (by omega),key 2 (by omega),key 3 (by omega)⟩
 ·rcases List.mem_or_eq_of_mem_set hx with h1 | h1
  ·exact h.inner x h1
  ·rw [h1]; exact ht
theorem MsgRow.free {base n c:Nat} {w:World} {g off:Nat} {L:List M} (h:MsgRow base w (some ⟨g,off,none⟩) n c L):off=0∧base≤g∧∀ i,w.frozen? ⟨g,i,none⟩=false:=by
 rcases h.row.2 with ⟨h0,_⟩ | ⟨g2,cap,cur,e,h1,h2,h3⟩
 ·cases h0
 ·injection e with e
  injection e with e
  injection e with e1 e2
  subst e1 e2;exact ⟨rfl,h1,fun i=>frozen_of_row w g i _ _ h2⟩
section
variable {H:Type} {enc:TypeId×Value→H} {W:World} {held:Bool}
theorem open_spoil {b0:Nat} {v:Value} {d:DataW H} {p:List MemPlace} (hval:Value.okWide Tryz.prog W .any b0 34 v) (h:DataW.Trod enc Tryz.prog W 0 (fun _=>true) held 34 v d p) :
  ∃ a b c:Int,v = .agg #[.int .i64 a,.int .i64 b,.int .i64 c]:=by
 obtain ⟨z,rfl,hl,hw⟩:=open_ints_struct (e:=3) Tryz.underlying34 (by kernel_rfl) (by kernel_rfl) Tryz.underlying3 (by decide) hval h
 match z,hl with
 | [a,b,c],_=>exact ⟨a,b,c,rfl⟩
end
end
section
open Go.RowKit
open Fr Bk
end
section
open Go.RowKit
open Fr Bk
end
section
open Go.RowKit
open Fr Bk
theorem msin_am {w:World} {B:Nat} {a:Option Addr} {L:List M} (h:MsgIn w B a L) (hi:∀ m∈L,m.ok=true):MsIn w B a (L.map am):=by
 refine ⟨fun hn=>?_,fun m hm=>?_⟩
 ·rw [List.length_map] at hn
  obtain ⟨b,off,e,hlt,hc⟩:=h.outer hn;refine ⟨b,off,e,hlt,fun r m hr=>?_⟩;rw [am_get] at hr;obtain ⟨x,hx,rfl⟩:=Option.map_eq_some_iff.1 hr;exact hc r x hx
 ·obtain ⟨x,hx,rfl⟩:=List.mem_map.1 hm
  have h1:=Ms.rt_n (hi x hx);have h2:=Ms.tx_le x.k
  show x.t.length≤maxLen
  unfold maxLen;omega
def cf0 (cf:Cf):Cf:={ cf with idle:=0 }
end
end Go.Proofs.YtdpagmcickkbmaaGreatDoor
