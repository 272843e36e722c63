/- PMsgo PMsgz PVw PAuw -/
import Derived.Deep.DeepCutAuto
import Derived.Test.YtdpagmcickkbmaaGreatDoorZd11
import Derived.Test.YtdpagmcickkbmaaGreatDoorZd14
namespace Go.Proofs.YtdpagmcickkbmaaGreatDoor
set_option maxRecDepth 100000
open Go.Lib renaming hid → lj
section
open Go.RowKit
open Fr Ms
def OfPost (k:Int) (l:Bs) (e:Ending):Prop:=
 (ofOk k l=true→e = .returned (.tuple #[.agg #[.int .i64 k,.int .i64 (ofA k l),.int .i64 (ofB k l),.string (str (ofT k l))],.bool true])) ∧
 (ofOk k l=false→e = .returned (.tuple #[.agg #[.int .i64 0,.int .i64 0,.int .i64 0,.string ByteArray.empty],.bool false]))
theorem OfPost.no {k:Int} {l:Bs} (h:ofOk k l=false):OfPost k l (.returned (.tuple #[.agg #[.int .i64 0,.int .i64 0,.int .i64 0,.string ByteArray.empty],.bool false])):=
 ⟨(fun h2=>by rw [h] at h2; cases h2),fun _=>rfl⟩
theorem OfPost.yes {k:Int} {l:Bs} {R:Nat} (h:ofOk k l=true) (hR:R=6 * nu k):OfPost k l (.returned (.tuple #[.agg #[.int .i64 k,.int .i64 (ofA k l),.int .i64 (ofB k l),.string (str (l.drop R))],.bool true])):=by
 subst hR;exact ⟨fun _=>rfl,(fun h2=>by rw [h] at h2; cases h2)⟩
theorem three_bx (w:World) (v1 v2 v3:Array Value) (t1 t2 t3:TypeId) :
  Bx w.heap.size (((w.alloc (.cells v1 t1)).alloc (.cells v2 t2)).alloc (.cells v3 t3)) v1∧Bx (w.heap.size+1) (((w.alloc (.cells v1 t1)).alloc (.cells v2 t2)).alloc (.cells v3 t3)) v2 ∧
   Bx (w.heap.size+1+1) (((w.alloc (.cells v1 t1)).alloc (.cells v2 t2)).alloc (.cells v3 t3)) v3∧Below w.heap.size w (((w.alloc (.cells v1 t1)).alloc (.cells v2 t2)).alloc (.cells v3 t3)):=by
 have s1:(w.alloc (.cells v1 t1)).heap.size=w.heap.size+1:=by simp
 have s2:((w.alloc (.cells v1 t1)).alloc (.cells v2 t2)).heap.size=w.heap.size+2:=by simp
 have b1:Below (w.heap.size+1) (w.alloc (.cells v1 t1)) ((w.alloc (.cells v1 t1)).alloc (.cells v2 t2)):=(Below.refl _ _).alloc (Nat.le_of_eq s1.symm) _;have b2:Below (w.heap.size+2) ((w.alloc (.cells v1 t1)).alloc (.cells v2 t2)) (((w.alloc (.cells v1 t1)).alloc (.cells v2 t2)).alloc (.cells v3 t3)):=(Below.refl _ _).alloc (Nat.le_of_eq s2.symm) _
 exact ⟨((Bx.new w _ rfl v1 t1).go b1 (Nat.le_refl _)).go b2 (by omega),(Bx.new _ _ s1 v2 t2).go b2 (by omega),Bx.new _ _ s2 v3 t3,
  Below.trans (Below.trans ((Below.refl _ _).alloc (Nat.le_refl _) _) (b1.mono (by omega))) (b2.mono (by omega))⟩
theorem ofOk_kind {k:Int} {l:Bs} (h:isK k=false):ofOk k l=false:=by
 unfold ofOk rt;rw [h];simp
theorem ofOk_short {k:Int} {l:Bs} (h:l.length<6 * nu k):ofOk k l=false:=by
 unfold ofOk;rw [show decide (6 * nu k≤l.length)=false by simpa using h];rfl
theorem ofOk_rt {k:Int} {l:Bs} (h:6 * nu k≤l.length):ofOk k l=rt k (ofA k l) (ofB k l) (ofT k l).length:=by
 unfold ofOk;simp [h]
def set4 (w:World) (g:Nat) (v0 v1 v2 v3:Value):World:=(((w.setCell ⟨g,0,none⟩ v0).setCell ⟨g,1,none⟩ v1).setCell ⟨g,2,none⟩ v2).setCell ⟨g,3,none⟩ v3
theorem Bx.set4 {g:Nat} {w:World} {u0 u1 u2 u3:Value} (h:Bx g w #[u0,u1,u2,u3]) (v0 v1 v2 v3:Value):Bx g (set4 w g v0 v1 v2 v3) #[v0,v1,v2,v3]:=
 (((h.set 0 v0).set 1 v1).set 2 v2).set 3 v3
theorem below_set4 {B g:Nat} {a w:World} (h:Below B a w) (hg:B≤g) (v0 v1 v2 v3:Value):Below B a (set4 w g v0 v1 v2 v3):=
 (((h.setCell (p:=⟨g,0,none⟩) hg v0).setCell (p:=⟨g,1,none⟩) hg v1).setCell (p:=⟨g,2,none⟩) hg v2).setCell (p:=⟨g,3,none⟩) hg v3
structure Mid3 (k:Int) (l:Bs) (a:Option Addr) (n cap B g gl:Nat) (w w':World) (A C:Int) (s:ByteArray):Prop where
 fr:Bx g w' #[.int .u8 k,.slice a n cap]
 res:Bx (g+1) w' #[.int .i64 0,.int .i64 0,.int .i64 0,.string ⟨#[]⟩]
 msg:Bx (g+1+1) w' #[.int .i64 k,.int .i64 A,.int .i64 C,.string s]
 lay:Bx gl w' #[.int .i64 (nu k),.int .i64 (tx k)]
 bytes:Bytes w' B a n l
 below:Below g w w'
theorem Mid3.go {k:Int} {l:Bs} {a:Option Addr} {n cap B g gl:Nat} {w w1 w2:World} {A C:Int} {s:ByteArray} (h:Mid3 k l a n cap B g gl w w1 A C s) (hb:Below w1.heap.size w1 w2) (hB:B≤g) (hg:g+1+1<gl):Mid3 k l a n cap B g gl w w2 A C s:=
 have hz:=h.lay.room
 ⟨h.fr.go hb (by omega),h.res.go hb (by omega),h.msg.go hb (by omega),h.lay.go hb (by omega),h.bytes.below (hb.mono (by omega)),Below.trans h.below (hb.mono (by omega))⟩
theorem Mid3.setA {k:Int} {l:Bs} {a:Option Addr} {n cap B g gl:Nat} {w w1:World} {A C:Int} {s:ByteArray} (h:Mid3 k l a n cap B g gl w w1 A C s) (hB:B≤g) (hg:g+1+1<gl) (x:Int) :
  Mid3 k l a n cap B g gl w (w1.setCell ⟨g+1+1,1,none⟩ (.int .i64 x)) x C s:=
 ⟨h.fr.other (by simp; omega) _,h.res.other (by simp) _,h.msg.set 1 (.int .i64 x),h.lay.other (by simp; omega) _,bytes_set h.bytes (by simp; omega) _,h.below.setCell (by simp; omega) _⟩
theorem Mid3.setB {k:Int} {l:Bs} {a:Option Addr} {n cap B g gl:Nat} {w w1:World} {A C:Int} {s:ByteArray} (h:Mid3 k l a n cap B g gl w w1 A C s) (hB:B≤g) (hg:g+1+1<gl) (x:Int) :
  Mid3 k l a n cap B g gl w (w1.setCell ⟨g+1+1,2,none⟩ (.int .i64 x)) A x s:=
 ⟨h.fr.other (by simp; omega) _,h.res.other (by simp) _,h.msg.set 2 (.int .i64 x),h.lay.other (by simp; omega) _,bytes_set h.bytes (by simp; omega) _,h.below.setCell (by simp; omega) _⟩
theorem Mid3.setT {k:Int} {l:Bs} {a:Option Addr} {n cap B g gl:Nat} {w w1:World} {A C:Int} {s:ByteArray} (h:Mid3 k l a n cap B g gl w w1 A C s) (hB:B≤g) (hg:g+1+1<gl) (x:ByteArray) :
  Mid3 k l a n cap B g gl w (w1.setCell ⟨g+1+1,3,none⟩ (.string x)) A C x:=
 ⟨h.fr.other (by simp; omega) _,h.res.other (by simp) _,h.msg.set 3 (.string x),h.lay.other (by simp; omega) _,bytes_set h.bytes (by simp; omega) _,h.below.setCell (by simp; omega) _⟩
theorem mof_any (K:BitVec 8) (a:Option Addr) (n cap B:Nat) (l:Bs) (w:World) (hl:Bytes w B a n l) (hB:B≤w.heap.size) (hcap:n≤cap) (hn:n≤1000000000) :
  Calls Tryz.prog 35 #[.agg #[.int .u8 K.toNat,.slice a n cap]] w fun e w'=>OfPost K.toNat l e∧Below w.heap.size w w':=by
 have HL:=lj hl;have h8:=K.isLt;clear hl;generalize hk:K.toNat=k at *;clear hk;have HPK:=lj (ofOk_kind (k:=k) (l:=l));have HPS:=lj (ofOk_short (k:=k) (l:=l));have HPR:=lj (ofOk_rt (k:=k) (l:=l))
 go_enter Tryz.func35,Tryz.ntmps35
 go_wp2_with fail
 obtain ⟨hx,hy,hm,hb⟩:=three_bx w #[.int .u8 k,.slice a n cap] #[.int .i64 0,.int .i64 0,.int .i64 0,.string ⟨#[]⟩] #[.int .i64 k,.int .i64 0,.int .i64 0,.string ⟨#[]⟩] 96 38 38;generalize ((w.alloc (.cells #[.int .u8 k,.slice a n cap] 96)).alloc (.cells #[.int .i64 0,.int .i64 0,.int .i64 0,.string ⟨#[]⟩] 38)).alloc (.cells #[.int .i64 k,.int .i64 0,.int .i64 0,.string ⟨#[]⟩] 38)=W at *;generalize hg:w.heap.size=g at *;have HG:=lj hg;have hz0:g+3≤W.heap.size:=hm.room;clear hg;refine (layout_any k _).mono ?_;rintro e w2 ⟨rfl,hb2⟩;have hz2:g+3≤w2.heap.size:=Nat.le_trans hz0 hb2.size;have hb3:Below w2.heap.size w2 (w2.alloc (.cells #[.int .i64 (nu k),.int .i64 (tx k)] 119)):=(Below.refl _ _).alloc (Nat.le_refl _) _;have hb23:=Below.trans hb2 (hb3.mono hb2.size);have hl:=Bx.new w2 _ rfl #[.int .i64 (nu k),.int .i64 (tx k)] 119;have HX:=lj (hx.go hb23 (by omega));have HY:=lj (hy.go hb23 (by omega));have HM:=lj (hm.go hb23 (by omega));have HBW:=lj (Below.trans hb (hb23.mono (by omega)));have HLW:=lj hl;clear hx hy hm hb hb2 hb3 hb23 hl hz0
 go_wp2_with fail
 generalize w2.alloc (.cells #[.int .i64 (nu k),.int .i64 (tx k)] 119)=w3 at *;generalize w2.heap.size=gl at *;have hz3:gl+1≤w3.heap.size:=HLW.out.room;cases hik:isK k
 ·have HIK:=lj hik
  clear hik
  go_quiet (fail)
  have HY':=lj (HY.out.drewN nq);have HB':=lj (below_drewN HBW.out nq);clear HY HBW HX HM HLW;generalize w3.drewN nq=W5 at *;have z0:=HY'.out.free 0;have z1:=HY'.out.free 1;have z2:=HY'.out.free 2;have z3:=HY'.out.free 3;have y0:W5.cell? ⟨g+1,0,none⟩=some (.int .i64 0):=HY'.out.cell 0 _ rfl;have y1:W5.cell? ⟨g+1,1,none⟩=some (.int .i64 0):=HY'.out.cell 1 _ rfl;have y2:W5.cell? ⟨g+1,2,none⟩=some (.int .i64 0):=HY'.out.cell 2 _ rfl;have y3:W5.cell? ⟨g+1,3,none⟩=some (.string ⟨#[]⟩):=HY'.out.cell 3 _ rfl;go_wp2;have hy6:=HY'.out.set4 (.int .i64 0) (.int .i64 0) (.int .i64 0) (.string ⟨#[]⟩);have hb6:=below_set4 HB'.out (show g≤g+1 by omega) (.int .i64 0) (.int .i64 0) (.int .i64 0) (.string ⟨#[]⟩);unfold set4 at hy6 hb6;generalize (((W5.setCell ⟨g+1,0,none⟩ (.int .i64 0)).setCell ⟨g+1,1,none⟩ (.int .i64 0)).setCell ⟨g+1,2,none⟩ (.int .i64 0)).setCell ⟨g+1,3,none⟩ (.string ⟨#[]⟩)=W6 at *;have e0:W6.cell? ⟨g+1,0,none⟩=some (.int .i64 0):=hy6.cell 0 _ rfl;have e1:W6.cell? ⟨g+1,1,none⟩=some (.int .i64 0):=hy6.cell 1 _ rfl;have e2:W6.cell? ⟨g+1,2,none⟩=some (.int .i64 0):=hy6.cell 2 _ rfl;have e3:W6.cell? ⟨g+1,3,none⟩=some (.string ⟨#[]⟩):=hy6.cell 3 _ rfl;have hg:=HG.out;subst hg;refine bodyPost_ret (v:=.tuple #[.agg #[.int .i64 0,.int .i64 0,.int .i64 0,.string ByteArray.empty],.bool false]) (by simp [results,Tryz.results35,go_sem,e0,e1,e2,e3]; rfl) rfl ⟨OfPost.no (HPK.out HIK.out),hb6⟩
 ·have HIK:=lj hik
  clear hik HPK;have hn2:nu k≤2:=nu_le k
  obtain ⟨R,hR⟩:∃ R:Nat,R=6 * nu k:=⟨_,rfl⟩
  have HRR:=lj hR
  have hR12:R≤12:=by omega
  clear hR;have C0:Hid (w3.cell? ⟨gl,0,none⟩=some (.int .i64 (nu k))):=lj (HLW.out.cell 0 _ rfl);have C1:Hid (w3.cell? ⟨gl,1,none⟩=some (.int .i64 (tx k))):=lj (HLW.out.cell 1 _ rfl);have C2:Hid (w3.cell? ⟨g,1,none⟩=some (.slice a n cap)):=lj (HX.out.cell 1 _ rfl)
  by_cases hshort:n<R
  ·go_region_held3 (fun w'=>w'.cell? ⟨gl,0,none⟩=some (.int .i64 (nu k))∧w'.cell? ⟨gl,1,none⟩=some (.int .i64 (tx k))∧w'.cell? ⟨g,1,none⟩=some (.slice a n cap))
    (first | exact ⟨q50,q51,q52⟩ | exact ⟨C0.out,C1.out,C2.out⟩)
    (first
     | (go_at_call 62; refine (lhead_any (nu k) (tx k) R _ hn2 HRR.out).mono ?_; rintro e w5 ⟨rfl,hb5⟩; have hb5:Below w3.heap.size w3.drew w5:=hb5; have HB5:=lj (below_back hb5); have q50:=(hb5.cell (p:=⟨gl,0,none⟩) (by simp; omega)).trans C0.out; have q51:=(hb5.cell (p:=⟨gl,1,none⟩) (by simp; omega)).trans C1.out; have q52:=(hb5.cell (p:=⟨g,1,none⟩) (by simp; omega)).trans C2.out; clear hb5))
   have HY':=lj (HY.out.go HB5.out (by omega));have HB':=lj (Below.trans HBW.out (HB5.out.mono (by omega)))
   rename_i hh
   clear hh q50 q51 q52 C0 C1 C2 HY HBW HX HM HLW;generalize w5=W5 at *;have z0:=HY'.out.free 0;have z1:=HY'.out.free 1;have z2:=HY'.out.free 2;have z3:=HY'.out.free 3;have y0:W5.cell? ⟨g+1,0,none⟩=some (.int .i64 0):=HY'.out.cell 0 _ rfl;have y1:W5.cell? ⟨g+1,1,none⟩=some (.int .i64 0):=HY'.out.cell 1 _ rfl;have y2:W5.cell? ⟨g+1,2,none⟩=some (.int .i64 0):=HY'.out.cell 2 _ rfl;have y3:W5.cell? ⟨g+1,3,none⟩=some (.string ⟨#[]⟩):=HY'.out.cell 3 _ rfl;go_wp2;have hy6:=HY'.out.set4 (.int .i64 0) (.int .i64 0) (.int .i64 0) (.string ⟨#[]⟩);have hb6:=below_set4 HB'.out (show g≤g+1 by omega) (.int .i64 0) (.int .i64 0) (.int .i64 0) (.string ⟨#[]⟩);unfold set4 at hy6 hb6;generalize (((W5.setCell ⟨g+1,0,none⟩ (.int .i64 0)).setCell ⟨g+1,1,none⟩ (.int .i64 0)).setCell ⟨g+1,2,none⟩ (.int .i64 0)).setCell ⟨g+1,3,none⟩ (.string ⟨#[]⟩)=W6 at *;have e0:W6.cell? ⟨g+1,0,none⟩=some (.int .i64 0):=hy6.cell 0 _ rfl;have e1:W6.cell? ⟨g+1,1,none⟩=some (.int .i64 0):=hy6.cell 1 _ rfl;have e2:W6.cell? ⟨g+1,2,none⟩=some (.int .i64 0):=hy6.cell 2 _ rfl;have e3:W6.cell? ⟨g+1,3,none⟩=some (.string ⟨#[]⟩):=hy6.cell 3 _ rfl;have hg:=HG.out;subst hg;refine bodyPost_ret (v:=.tuple #[.agg #[.int .i64 0,.int .i64 0,.int .i64 0,.string ByteArray.empty],.bool false]) (by simp [results,Tryz.results35,go_sem,e0,e1,e2,e3]; rfl) rfl ⟨OfPost.no (HPS.out (by rw [HL.out.1,← HRR.out]; exact hshort)),hb6⟩
  ·go_region_held3 (fun w'=>w'.cell? ⟨gl,0,none⟩=some (.int .i64 (nu k))∧w'.cell? ⟨gl,1,none⟩=some (.int .i64 (tx k))∧w'.cell? ⟨g,1,none⟩=some (.slice a n cap))
    (first | exact ⟨q50,q51,q52⟩ | exact ⟨C0.out,C1.out,C2.out⟩)
    (first
     | (go_at_call 62; refine (lhead_any (nu k) (tx k) R _ hn2 HRR.out).mono ?_; rintro e w5 ⟨rfl,hb5⟩; have hb5:Below w3.heap.size w3.drew w5:=hb5; have HB5:=lj (below_back hb5); have q50:=(hb5.cell (p:=⟨gl,0,none⟩) (by simp; omega)).trans C0.out; have q51:=(hb5.cell (p:=⟨gl,1,none⟩) (by simp; omega)).trans C1.out; have q52:=(hb5.cell (p:=⟨g,1,none⟩) (by simp; omega)).trans C2.out; clear hb5))
   have hm3:Mid3 k l a n cap B g gl w w3 0 0 ⟨#[]⟩:=⟨HX.out,HY.out,HM.out,HLW.out,HL.out.below (HBW.out.mono hB),HBW.out⟩;have HM5:=lj (hm3.go HB5.out hB (by omega))
   rename_i hh
   clear hh q50 q51 q52 C0 C1 C2 HY HBW HX HM HLW hm3 HB5 hz3 HL;have l0:w5.cell? ⟨gl,0,none⟩=some (.int .i64 (nu k)):=HM5.out.lay.cell 0 _ rfl
   go_upto_if 30 with fail
   go_cut [] (fun wx=>Mid3 k l a n cap B g gl w wx (ofA k l) 0 ⟨#[]⟩)
   case first =>
    rcases Nat.eq_zero_or_pos (nu k) with h0 | h0
    ·have hA:ofA k l=0:=by unfold ofA; rw [if_neg (by omega)]
     have HA:=lj hA;have HZ:=lj h0
     have q:decide ((nu k:Int) ≥ 1)=false:=by simp; omega
     clear hA;go_wp2
     go_meet
     rw [HA.out];exact HM5.out
    ·have hA:(ofA k l:Int)=num6 l:=by unfold ofA; rw [if_pos (by omega)]
     have HA:=lj hA
     have q:decide ((nu k:Int) ≥ 1)=true:=by simp; omega
     have hR6:6≤n:=by have:=HRR.out; omega
     have f1:w5.cell? ⟨g,1,none⟩=some (.slice a n cap):=HM5.out.fr.cell 1 _ rfl;have z1:=HM5.out.msg.free 1;have m1:w5.cell? ⟨g+1+1,1,none⟩=some (.int .i64 0):=HM5.out.msg.cell 1 _ rfl;clear hA
     go_wp2_with fail
     refine (num6_any a n cap B l _ HM5.out.bytes hR6 hcap).mono ?_;rintro e w6 ⟨rfl,rfl⟩;go_wp2
     go_meet
     rw [HA.out];exact HM5.out.setA hB (by omega) _
   case rest =>
    have HM6:=lj hcut;clear hcut HM5 l0;have l0:wc.cell? ⟨gl,0,none⟩=some (.int .i64 (nu k)):=HM6.out.lay.cell 0 _ rfl
    go_upto_if 37 with fail
    go_cut [] (fun wx=>Mid3 k l a n cap B g gl w wx (ofA k l) (ofB k l) ⟨#[]⟩)
    case first =>
     by_cases h0:nu k<2
     ·have hA:(ofB k l:Int)=0:=by unfold ofB; rw [if_neg (by omega)]; rfl
      have HA:=lj hA
      have q:decide ((nu k:Int) ≥ 2)=false:=by simp; omega
      clear hA;go_wp2
      go_meet
      rw [HA.out];exact HM6.out
     ·have hA:(ofB k l:Int)=num6 (l.drop 6):=by unfold ofB; rw [if_pos (by omega)]
      have HA:=lj hA
      have q:decide ((nu k:Int) ≥ 2)=true:=by simp; omega
      have hR6:12≤n:=by have:=HRR.out; omega
      have f1:wc.cell? ⟨g,1,none⟩=some (.slice a n cap):=HM6.out.fr.cell 1 _ rfl;have z1:=HM6.out.msg.free 2;have m1:wc.cell? ⟨g+1+1,2,none⟩=some (.int .i64 0):=HM6.out.msg.cell 2 _ rfl
      have hc6:¬ cap=6:=by omega
      obtain ⟨b,off,rfl,hbB,_⟩:=HM6.out.bytes.2 (by omega);have HC:=lj (HM6.out.bytes.cut2 (cap:=cap) (j:=6) (by omega) hcap hc6);clear hA
      go_wp2_with fail
      refine (num6_any _ (n - 6) (cap - 6) B (l.drop 6) _ HC.out (by omega) (by omega)).mono ?_;rintro e w6 ⟨rfl,rfl⟩;go_wp2
      go_meet
      rw [HA.out];exact HM6.out.setB hB (by omega) _
    case rest =>
     have HM7:=lj hcut;clear hcut HM6 l0
     go_wp2_with fail
     have hRn:R≤n:=by omega
     have hRn':(R:Int)≤(n:Int):=by omega
     have hzc:gl+1≤wc.heap.size:=HM7.out.lay.room;have HMD:Hid (Mid3 k l a n cap B g gl w wc.drew (ofA k l) (ofB k l) ⟨#[]⟩):=lj ⟨HM7.out.fr.drewN 1,HM7.out.res.drewN 1,HM7.out.msg.drewN 1,HM7.out.lay.drewN 1,HM7.out.bytes.drewN 1,below_drewN HM7.out.below 1⟩
     go_cut [] (fun wx=>Mid3 k l a n cap B g gl w wx (ofA k l) (ofB k l) (str (l.drop R)))
     case first =>
      by_cases hcR:cap=R
      ·subst hcR
       have hcu:∀ W' A C s,Mid3 k l a n cap B g gl w W' A C s→Bytes W' B a 0 (l.drop cap):=by
        intro W' A C s hm;have:=hm.bytes.cut (k:=cap) hRn hcap;unfold cutA at this
        rwa [if_pos rfl,show n - cap=0 by omega] at this
       have HCU:=lj hcu;clear hcu;have HCV:=lj (conv_str (cap:=0) (HCU.out _ _ _ _ HMD.out))
       go_region_held3 (fun w'=>w'.cell? ⟨gl,0,none⟩=some (.int .i64 (nu k))∧w'.cell? ⟨gl,1,none⟩=some (.int .i64 (tx k))∧w'.cell? ⟨g,1,none⟩=some (.slice a n cap)∧(convert 41 9 (.slice a 0 0)).run Tryz.prog w' = .ok (.string (str (l.drop cap))) w')
        (first | exact ⟨HM8.out.lay.cell 0 _ rfl,HM8.out.lay.cell 1 _ rfl,HM8.out.fr.cell 1 _ rfl,HC8.out⟩ | exact ⟨HM6.out.lay.cell 0 _ rfl,HM6.out.lay.cell 1 _ rfl,HM6.out.fr.cell 1 _ rfl,HC6.out⟩ | exact ⟨HMD.out.lay.cell 0 _ rfl,HMD.out.lay.cell 1 _ rfl,HMD.out.fr.cell 1 _ rfl,HCV.out⟩)
        (first
         | (go_at_call 62; refine (lhead_any (nu k) (tx k) cap _ hn2 HRR.out).mono ?_; rintro e w6 ⟨rfl,hb6⟩; have HM6:=lj (HMD.out.go hb6 hB (by omega)); have HC6:=lj (conv_str (cap:=0) (HCU.out _ _ _ _ HM6.out)); have c63:w6.cell? ⟨g+1+1,3,none⟩=some (.string ⟨#[]⟩):=HM6.out.msg.cell 3 _ rfl; have f63:=HM6.out.msg.free 3; have HM8:=lj (HM6.out.setT hB (by omega) (str (l.drop cap))); have HC8:=lj (conv_str (cap:=0) (HCU.out _ _ _ _ HM8.out)); clear hb6))
       go_wp2
       go_meet
       exact HM8.out
      ·have hcu:∀ W' A C s,Mid3 k l a n cap B g gl w W' A C s→Bytes W' B (a.map fun x=>x.add R) (n - R) (l.drop R):=by
        intro W' A C s hm;have:=hm.bytes.cut (k:=R) hRn hcap;unfold cutA at this
        rwa [if_neg hcR] at this
       have HCU:=lj hcu;clear hcu;have HCV:=lj (conv_str (cap:=cap - R) (HCU.out _ _ _ _ HMD.out))
       go_region_held3 (fun w'=>w'.cell? ⟨gl,0,none⟩=some (.int .i64 (nu k))∧w'.cell? ⟨gl,1,none⟩=some (.int .i64 (tx k))∧w'.cell? ⟨g,1,none⟩=some (.slice a n cap)∧(convert 41 9 (.slice (a.map fun x=>x.add R) (n - R) (cap - R))).run Tryz.prog w' = .ok (.string (str (l.drop R))) w')
        (first | exact ⟨HM8.out.lay.cell 0 _ rfl,HM8.out.lay.cell 1 _ rfl,HM8.out.fr.cell 1 _ rfl,HC8.out⟩ | exact ⟨HM6.out.lay.cell 0 _ rfl,HM6.out.lay.cell 1 _ rfl,HM6.out.fr.cell 1 _ rfl,HC6.out⟩ | exact ⟨HMD.out.lay.cell 0 _ rfl,HMD.out.lay.cell 1 _ rfl,HMD.out.fr.cell 1 _ rfl,HCV.out⟩)
        (first
         | (go_at_call 62; refine (lhead_any (nu k) (tx k) R _ hn2 HRR.out).mono ?_; rintro e w6 ⟨rfl,hb6⟩; have HM6:=lj (HMD.out.go hb6 hB (by omega)); have HC6:=lj (conv_str (cap:=cap - R) (HCU.out _ _ _ _ HM6.out)); have c63:w6.cell? ⟨g+1+1,3,none⟩=some (.string ⟨#[]⟩):=HM6.out.msg.cell 3 _ rfl; have f63:=HM6.out.msg.free 3; have HM8:=lj (HM6.out.setT hB (by omega) (str (l.drop R))); have HC8:=lj (conv_str (cap:=cap - R) (HCU.out _ _ _ _ HM8.out)); clear hb6))
       go_wp2
       go_meet
       exact HM8.out
     case rest =>
      have HM8:=lj hcut;clear hcut HM7;have m0:wc.cell? ⟨g+1+1,0,none⟩=some (.int .i64 k):=HM8.out.msg.cell 0 _ rfl;have m1:wc.cell? ⟨g+1+1,1,none⟩=some (.int .i64 (ofA k l)):=HM8.out.msg.cell 1 _ rfl;have m2:wc.cell? ⟨g+1+1,2,none⟩=some (.int .i64 (ofB k l)):=HM8.out.msg.cell 2 _ rfl;have m3:wc.cell? ⟨g+1+1,3,none⟩=some (.string (str (l.drop R))):=HM8.out.msg.cell 3 _ rfl;have hlen:l.length=n:=HM8.out.bytes.1;have hok:=HPR.out (by rw [hlen,← HRR.out]; omega);unfold ofT at hok;rw [← HRR.out] at hok;have HOK:=lj hok;clear hok hlen
      go_wp2_with fail
      refine (mright_any k (ofA k l) (ofB k l) (str (l.drop R)) _).mono ?_;rintro e w9 ⟨rfl,hb9⟩;rw [str_size];have HM9:=lj (HM8.out.go hb9 hB (by omega));clear hb9 HM8 m0 m1 m2 m3;have z0:=HM9.out.res.free 0;have z1:=HM9.out.res.free 1;have z2:=HM9.out.res.free 2;have z3:=HM9.out.res.free 3;have y0:w9.cell? ⟨g+1,0,none⟩=some (.int .i64 0):=HM9.out.res.cell 0 _ rfl;have y1:w9.cell? ⟨g+1,1,none⟩=some (.int .i64 0):=HM9.out.res.cell 1 _ rfl;have y2:w9.cell? ⟨g+1,2,none⟩=some (.int .i64 0):=HM9.out.res.cell 2 _ rfl;have y3:w9.cell? ⟨g+1,3,none⟩=some (.string ⟨#[]⟩):=HM9.out.res.cell 3 _ rfl;have m0:w9.cell? ⟨g+1+1,0,none⟩=some (.int .i64 k):=HM9.out.msg.cell 0 _ rfl;have m1:w9.cell? ⟨g+1+1,1,none⟩=some (.int .i64 (ofA k l)):=HM9.out.msg.cell 1 _ rfl;have m2:w9.cell? ⟨g+1+1,2,none⟩=some (.int .i64 (ofB k l)):=HM9.out.msg.cell 2 _ rfl;have m3:w9.cell? ⟨g+1+1,3,none⟩=some (.string (str (l.drop R))):=HM9.out.msg.cell 3 _ rfl;cases hrt:rt k (ofA k l) (ofB k l) (l.drop R).length
      ·have HNO:=lj (HOK.out.trans hrt)
       clear hrt;go_wp2;have hy6:=HM9.out.res.set4 (.int .i64 0) (.int .i64 0) (.int .i64 0) (.string ⟨#[]⟩);have hb6:=below_set4 HM9.out.below (show g≤g+1 by omega) (.int .i64 0) (.int .i64 0) (.int .i64 0) (.string ⟨#[]⟩);unfold set4 at hy6 hb6;generalize (((w9.setCell ⟨g+1,0,none⟩ (.int .i64 0)).setCell ⟨g+1,1,none⟩ (.int .i64 0)).setCell ⟨g+1,2,none⟩ (.int .i64 0)).setCell ⟨g+1,3,none⟩ (.string ⟨#[]⟩)=W6 at *;have e0:W6.cell? ⟨g+1,0,none⟩=some (.int .i64 0):=hy6.cell 0 _ rfl;have e1:W6.cell? ⟨g+1,1,none⟩=some (.int .i64 0):=hy6.cell 1 _ rfl;have e2:W6.cell? ⟨g+1,2,none⟩=some (.int .i64 0):=hy6.cell 2 _ rfl;have e3:W6.cell? ⟨g+1,3,none⟩=some (.string ⟨#[]⟩):=hy6.cell 3 _ rfl;have hg:=HG.out;subst hg;refine bodyPost_ret (v:=.tuple #[.agg #[.int .i64 0,.int .i64 0,.int .i64 0,.string ByteArray.empty],.bool false]) (by simp [results,Tryz.results35,go_sem,e0,e1,e2,e3]; rfl) rfl ⟨OfPost.no HNO.out,hb6⟩
      ·have HYES:=lj (HOK.out.trans hrt)
       clear hrt;go_wp2;have hy6:=HM9.out.res.set4 (.int .i64 k) (.int .i64 (ofA k l)) (.int .i64 (ofB k l)) (.string (str (l.drop R)));have hb6:=below_set4 HM9.out.below (show g≤g+1 by omega) (.int .i64 k) (.int .i64 (ofA k l)) (.int .i64 (ofB k l)) (.string (str (l.drop R)));unfold set4 at hy6 hb6;generalize (((w9.setCell ⟨g+1,0,none⟩ (.int .i64 k)).setCell ⟨g+1,1,none⟩ (.int .i64 (ofA k l))).setCell ⟨g+1,2,none⟩ (.int .i64 (ofB k l))).setCell ⟨g+1,3,none⟩ (.string (str (l.drop R)))=W6 at *;have e0:W6.cell? ⟨g+1,0,none⟩=some (.int .i64 k):=hy6.cell 0 _ rfl;have e1:W6.cell? ⟨g+1,1,none⟩=some (.int .i64 (ofA k l)):=hy6.cell 1 _ rfl;have e2:W6.cell? ⟨g+1,2,none⟩=some (.int .i64 (ofB k l)):=hy6.cell 2 _ rfl;have e3:W6.cell? ⟨g+1,3,none⟩=some (.string (str (l.drop R))):=hy6.cell 3 _ rfl;have hg:=HG.out;subst hg;refine bodyPost_ret (v:=.tuple #[.agg #[.int .i64 k,.int .i64 (ofA k l),.int .i64 (ofB k l),.string (str (l.drop R))],.bool true]) (by simp [results,Tryz.results35,go_sem,e0,e1,e2,e3]) rfl ⟨OfPost.yes HYES.out HRR.out,hb6⟩
end
section
open Go.RowKit
open Fr Ms
theorem mput_yes (a:Option Addr) (n cap B:Nat) (l:Bs) (k x y:Int) (t:Bs) (N:Nat) (L:Bs) (hN:n+(6 * nu k+t.length)+5=N) (hL:l ++ fr (BitVec.ofInt 8 k) (body k x y t)=L) (w:World) (hr:rt k x y t.length=true) (hl:Bytes w B a n l) (hB:B≤w.heap.size) (hn:n≤1000000) :
  Calls Tryz.prog 86 #[.slice a n cap,.agg #[.int .i64 k,.int .i64 x,.int .i64 y,.string (str t)]] w fun e w'=>∃ A c,e = .returned (.slice A N c)∧Own w.heap.size w' A N c L∧Below w.heap.size w w':=by
 have HR:=lj hr;have HL:=lj hl;have HN:=lj hN;have HLL:=lj hL
 have hm:6 * nu k+t.length≤2048:=by have h:=body_le hr; rwa [body_len] at h
 clear hr hl hN hL
 go_enter Tryz.func86,Tryz.ntmps86
 go_wp2_with fail
 refine (frame_yes k x y t _ HR.out).mono ?_;rintro e w1 ⟨A1,c1,rfl,hown,hb⟩;have hb1:=Below.trans ((Below.refl _ _).alloc (Nat.le_refl w.heap.size) _) (hb.mono (by simp));generalize hmm:6 * nu k+t.length=m at *;generalize hK:BitVec.ofInt 8 k=K at *;have hb2:=hb1.alloc hb1.size (.cells #[.int .u8 K.toNat,.slice A1 m c1] 96);have hal:Below w1.heap.size w1 (w1.alloc (.cells #[.int .u8 K.toNat,.slice A1 m c1] 96)):=(Below.refl _ _).alloc (Nat.le_refl _) _;have HB2:=lj hb2;have HL2:=lj (HL.out.below (hb2.mono hB));have HBD:=lj (hown.bytes.below hal);have hsz:w.heap.size≤w1.heap.size:=hb1.size;have HK:=lj hK;have HM:=lj hmm;clear hb hb1 hb2 hown hal hK hmm
 go_wp2_with fail
 have hx:=Bx.new w1 _ rfl #[.int .u8 K.toNat,.slice A1 m c1] 96
 have hs2:(w1.alloc (.cells #[.int .u8 K.toNat,.slice A1 m c1] 96)).heap.size=w1.heap.size+1:=by simp
 generalize w1.alloc (.cells #[.int .u8 K.toNat,.slice A1 m c1] 96)=w2 at *;refine (put_eq a n cap w1.heap.size l K A1 m c1 (body k x y t) L N (by have:=HN.out; omega) HLL.out w2 (HL2.out.more (by omega)) HBD.out (by omega) hn hm).mono ?_;rintro e w3 ⟨A,c,rfl,hown,hb3⟩;have HO:=lj (hown.mono HB2.out.size);have HB3:=lj (Below.trans HB2.out (hb3.mono HB2.out.size));clear hown hb3 hx hs2;go_wp2;go_ret;exact ⟨_,_,rfl,HO.out,HB3.out⟩
theorem size_yes (k x y:Int) (t:Bs) (N:Nat) (hN:6 * nu k+t.length+5=N) (w:World) (hr:rt k x y t.length=true) :
  Calls Tryz.prog 114 #[.agg #[.int .i64 k,.int .i64 x,.int .i64 y,.string (str t)]] w fun e w'=>e = .returned (.int .i64 N)∧Below w.heap.size w w':=by
 have HR:=lj hr;have hK:=(rt_iff.1 hr).1;have HK:=lj hK
 have hm:6 * nu k+t.length≤2048:=by have h:=body_le hr; rwa [body_len] at h
 clear hr hK
 go_enter Tryz.func114,Tryz.ntmps114
 go_wp2_with fail
 have hx:=Bx.new w _ rfl #[.int .i64 k,.int .i64 x,.int .i64 y,.string (str t)] 38;have hb:Below w.heap.size w (w.alloc (.cells #[.int .i64 k,.int .i64 x,.int .i64 y,.string (str t)] 38)):=(Below.refl _ _).alloc (Nat.le_refl _) _;generalize w.alloc (.cells #[.int .i64 k,.int .i64 x,.int .i64 y,.string (str t)] 38)=W at *;generalize hg:w.heap.size=g at *;have HG:=lj hg;have hz0:g+1≤W.heap.size:=hx.room;clear hg;refine (mright_any k x y (str t) _).mono ?_;rintro e w1 ⟨rfl,hb1⟩;rw [str_size,HR.out];have hx1:=hx.go hb1 hz0;have hbb:=Below.trans hb (hb1.mono (by omega));have hz1:g+1≤w1.heap.size:=hx1.room;have hc0:w1.cell? ⟨g,0,none⟩=some (.int .i64 k):=hx1.cell 0 _ rfl;have HX1:=lj hx1;have HB1:=lj hbb;clear hx hb hb1 hx1 hbb
 go_wp2_with fail
 refine (layout_any k _).mono ?_;rintro e w2 ⟨rfl,hb2⟩;rw [HK.out];have hb3:Below w2.heap.size w2 (w2.alloc (.cells #[.int .i64 (nu k),.int .i64 (tx k)] 119)):=(Below.refl _ _).alloc (Nat.le_refl _) _;have hb23:=Below.trans hb2 (hb3.mono hb2.size);have hz2:g+1≤w2.heap.size:=Nat.le_trans hz1 hb2.size;have HL:=lj (Bx.new w2 _ rfl #[.int .i64 (nu k),.int .i64 (tx k)] 119);have HX2:=lj (HX1.out.go hb23 hz1);have HB2:=lj (Below.trans HB1.out (hb23.mono (by omega)));clear hb2 hb3 hb23 HX1 HB1 hc0 hz1
 go_wp2_with fail
 generalize w2.alloc (.cells #[.int .i64 (nu k),.int .i64 (tx k)] 119)=w3 at *;generalize w2.heap.size=gl at *;have hz3:gl+1≤w3.heap.size:=HL.out.room;have hn2:nu k≤2:=nu_le k
 obtain ⟨R,hR⟩:∃ R:Nat,R=6 * nu k:=⟨_,rfl⟩
 have HRR:=lj hR;rw [← hR] at hN hm;have hsl:=str_size t
 obtain ⟨T,hT⟩:∃ T:Nat,T=t.length:=⟨_,rfl⟩
 rw [← hT] at hsl hN hm;have HN:=lj hN;clear hR hT hN;have C0:Hid (w3.cell? ⟨gl,0,none⟩=some (.int .i64 (nu k))):=lj (HL.out.cell 0 _ rfl);have C1:Hid (w3.cell? ⟨gl,1,none⟩=some (.int .i64 (tx k))):=lj (HL.out.cell 1 _ rfl);have C2:Hid (w3.cell? ⟨g,3,none⟩=some (.string (str t))):=lj (HX2.out.cell 3 _ rfl);have hw1:IntKind.i64.wrap (5+(R:Int))=5+(R:Int):=IntWalk.i64_in _ (by omega);have hw2:IntKind.i64.wrap (5+(R:Int)+(T:Int))=5+(R:Int)+(T:Int):=IntWalk.i64_in _ (by omega)
 go_region_held3 (fun w'=>w'.cell? ⟨gl,0,none⟩=some (.int .i64 (nu k))∧w'.cell? ⟨gl,1,none⟩=some (.int .i64 (tx k))∧w'.cell? ⟨g,3,none⟩=some (.string (str t)))
  (first | exact ⟨q50,q51,q52⟩ | exact ⟨C0.out,C1.out,C2.out⟩)
  (first
   | (go_at_call 62; refine (lhead_any (nu k) (tx k) R _ hn2 HRR.out).mono ?_; rintro e w5 ⟨rfl,hb5⟩; have hb5:Below w3.heap.size w3.drew w5:=hb5; have HB5:=lj (below_back hb5); have q50:=(hb5.cell (p:=⟨gl,0,none⟩) (by simp; omega)).trans C0.out; have q51:=(hb5.cell (p:=⟨gl,1,none⟩) (by simp; omega)).trans C1.out; have q52:=(hb5.cell (p:=⟨g,3,none⟩) (by simp; omega)).trans C2.out; clear hb5))
 rename_i hh
 clear hh hw1 hw2 q50 q51 q52;go_wp2;go_ret;have hg:=HG.out;subst hg;exact ⟨ret_int (by have:=HN.out; omega),Below.trans HB2.out (HB5.out.mono (by omega))⟩
end
section
open Go.RowKit
def startOf (n room:Nat) (back:Int):Nat:=max (n - (max back 0).toNat) (n - room)
abbrev VV (p s:Nat):Array Value:=#[.int .i64 p,.int .i64 s]
section
variable {z:Zo} {w w':World} {gr gk room g p s:Nat} {L:Bs}
theorem start_any (h:Ring z w gr gk room L) (back:Int) (hb:back≤9223372036854775807) :
  Calls Tryz.prog 144 #[.pointer (some ⟨gr,z.o,none⟩),.int .i64 back] w fun e w'=>e = .returned (.int .i64 (startOf L.length room back:Nat))∧∃ m,w'=w.drewN m:=by
 have HS:=lj (show ((startOf L.length room back:Nat):Int)=max ((L.length:Int) - max back 0) ((L.length - room:Nat):Int) from by unfold startOf; omega);have HE:=lj (end_ring h);have HB:=lj (base_ring h);have hN:=h.few;generalize startOf L.length room back=s at *
 obtain ⟨n,hn⟩:∃ n,L.length=n:=⟨_,rfl⟩
 obtain ⟨b,hbb⟩:∃ b,n - room=b:=⟨_,rfl⟩
 rw [hn,hbb] at HS HB;rw [hn] at HE hN
 have hbn:b≤n:=by omega
 clear h hn hbb
 rcases (show back<0∨(0≤back∧(n:Int) - back<b)∨(0≤back∧(b:Int)≤(n:Int) - back) by omega) with h1 | ⟨h1,h2⟩ | ⟨h1,h2⟩
 all_goals
  go_enter Tryz.func144,Tryz.ntmps144
  go_wp2_with fail
  refine HE.out.mono ?_;rintro e w1 ⟨rfl,rfl⟩
  go_wp2_with fail
  refine HB.out.mono ?_;rintro e w1 ⟨rfl,m,rfl⟩;go_wp2;go_ret;exact ⟨ret_int (by have:=HS.out; omega),m,rfl⟩
theorem vnew_no (h:Ring z w gr gk room L) (back:Int) (hb:back≤9223372036854775807) :
  Calls Tryz.prog 119 #[.pointer (some ⟨gr,z.o,none⟩),.int .i64 back,.bool false] w fun e w' =>
   e = .returned (.pointer (some ⟨w.heap.size,0,none⟩))∧Bx w.heap.size w' (VV (startOf L.length room back) 0)∧Only (fun _=>False) w w':=by
 have HS:=lj (start_any h back hb);clear h;generalize startOf L.length room back=s at *
 go_enter Tryz.func119,Tryz.ntmps119
 go_wp2_with fail
 refine HS.out.mono ?_;rintro e w1 ⟨rfl,m,rfl⟩;go_wp2;go_ret;exact ⟨rfl,Bx.new (w.drewN m) w.heap.size rfl _ _,((Only.refl (fun _=>False) w).drewN m).alloc _⟩
theorem vnew_yes (h:Ring z w gr gk room L) (back:Int) (hb:back≤9223372036854775807) :
  Calls Tryz.prog 119 #[.pointer (some ⟨gr,z.o,none⟩),.int .i64 back,.bool true] w fun e w' =>
   ∃ r,e = .returned (.pointer (some ⟨w.heap.size,0,none⟩))∧IsLine (L.length - room) L (startOf L.length room back:Nat) r∧Bx w.heap.size w' (VV r 0)∧Only (fun _=>False) w w':=by
 have HS:=lj (start_any h back hb);have HR:=lj h;clear h;generalize startOf L.length room back=s at *
 go_enter Tryz.func119,Tryz.ntmps119
 go_wp2_with fail
 refine HS.out.mono ?_;rintro e w1 ⟨rfl,m,rfl⟩
 go_upto_region 3 with fail
 have hO:=((Only.refl (fun _=>False) w).drewN m).alloc (.cells #[.int .i64 s,.int .i64 0] 149);have HB:=lj (Bx.new (w.drewN m) w.heap.size rfl #[.int .i64 s,.int .i64 0] 149);have HR1:=lj (HR.out.keep hO (fun h=>h) (fun h=>h));have HO:=lj hO;clear hO HR HS;generalize (w.drewN m).alloc (.cells #[.int .i64 s,.int .i64 0] 149)=W at *;have hc:=HB.out.cell 0 (.int .i64 s) rfl
 go_wp2_with fail
 refine (line_ring HR1.out s).mono ?_;rintro e w2 ⟨r,rfl,hl,m2,rfl⟩;have hx:=HB.out.drewN m2;have hf:=hx.free 0;have hc:=hx.cell 0 (.int .i64 s) rfl;have HX:=lj (hx.set 0 (.int .i64 r));have HO2:=lj (HO.out.drewN m2);have HL:=lj hl;clear hx hl HB HR1 HO;generalize W.drewN m2=W2 at *;go_wp2;go_ret;exact ⟨r,rfl,HL.out,HX.out,HO2.out.trans' (Bx.only w.heap.size W2 0 (.int .i64 r)) (fun i hi=>.inr (by omega))⟩
theorem vat_any (h:Bx g w (VV p s)):Calls Tryz.prog 122 #[.pointer (some ⟨g,0,none⟩)] w fun e w'=>e = .returned (.int .i64 p)∧w=w':=by
 have hc:=h.cell 0 (.int .i64 p) rfl;clear h
 go_enter Tryz.func122,Tryz.ntmps122
 go_wp2;go_ret;exact ⟨rfl,rfl⟩
end
abbrev MG (p b:Nat):Value:=.agg #[.int .i64 7,.int .i64 p,.int .i64 b,.string (str [])]
abbrev ME:Value:=.agg #[.int .i64 12,.int .i64 0,.int .i64 0,.string (str [])]
abbrev MD (p:Nat) (t:Bs):Value:=.agg #[.int .i64 6,.int .i64 p,.int .i64 0,.string (str t)]
abbrev MZ:Value:=.agg #[.int .i64 0,.int .i64 0,.int .i64 0,.string (str [])]
theorem rt_gap {p b:Nat} (h1:p≤1099511627776) (h2:b≤1099511627776):Ms.rt 7 p b 0=true:=by
 rw [Ms.rt_iff]
 refine ⟨by decide,?_,?_,by decide⟩ <;> simp [Ms.okN,Ms.nu] <;> omega
section
variable {z:Zo} {w w':World} {gr gk room g p s:Nat} {L:Bs}
theorem only4 (w:World) (G:Nat) (a b c d:Value):Only (fun k=>k=G) w ((((w.setCell ⟨G,0,none⟩ a).setCell ⟨G,1,none⟩ b).setCell ⟨G,2,none⟩ c).setCell ⟨G,3,none⟩ d):=
 ((((Only.refl (fun k=>k=G) w).setCell (p:=⟨G,0,none⟩) rfl a).setCell (p:=⟨G,1,none⟩) rfl b).setCell (p:=⟨G,2,none⟩) rfl c).setCell (p:=⟨G,3,none⟩) rfl d
def mz:Obj:=.cells #[.int .i64 0,.int .i64 0,.int .i64 0,.string ⟨#[]⟩] 38
def mg (p b:Nat):Obj:=.cells #[.int .i64 7,.int .i64 p,.int .i64 b,.string ⟨#[]⟩] 38
theorem vmiss_no (h:Bx g w (VV p s)) (b:Nat) (room strikes:Int) (h1:p≤1099511627776) (h2:b≤1099511627776) (hno:strikes≤s∨room<17) :
  Calls Tryz.prog 99 #[.pointer (some ⟨g,0,none⟩),.int .i64 b,.int .i64 room,.int .i64 strikes] w fun e w'=>e = .returned ME∧Only (fun _=>False) w w':=by
 have hc0:=h.cell 0 (.int .i64 p) rfl;have hc1:=h.cell 1 (.int .i64 s) rfl;have hg:g<w.heap.size:=h.room;have HR:=lj (rt_gap h1 h2);have HO:=lj (((Only.refl (fun _=>False) w).alloc mz).alloc (mg p b));clear h h1 h2
 by_cases hs:strikes≤s
 ·have hd:decide ((s:Int) ≥ strikes)=true:=by simpa using hs
  clear hno
  go_enter Tryz.func99,Tryz.ntmps99
  go_wp2;refine bodyPost_ret (v:=ME) (by simp [results,Tryz.results99,go_sem]; rfl) rfl ⟨rfl,?_⟩;exact ((Only.refl (fun _=>False) w).alloc _).alloc _
 ·have hd:decide ((s:Int) ≥ strikes)=false:=by simp; omega
  have hr:room<17:=by omega
  go_enter Tryz.func99,Tryz.ntmps99
  go_wp2_with fail
  have hz:Bx w.heap.size ((w.alloc mz).alloc (mg p b)) #[.int .i64 0,.int .i64 0,.int .i64 0,.string ⟨#[]⟩]:=(Bx.new w w.heap.size rfl _ _).keep ((Only.refl (fun _=>False) _).alloc _) (fun h=>h)
  have hw:w.heap.size+2=((w.alloc mz).alloc (mg p b)).heap.size:=by simp
  refine (size_yes 7 p b [] 17 rfl ((w.alloc mz).alloc (mg p b)) HR.out).mono ?_;rintro e w2 ⟨rfl,hb2⟩;have HZ:=lj (hz.go hb2 (by omega));have HO2:=lj (HO.out.trans (only_of_below hb2));have z0:=HZ.out.cell 0 _ rfl;have z1:=HZ.out.cell 1 _ rfl;have z2:=HZ.out.cell 2 _ rfl;have z3:=HZ.out.cell 3 _ rfl;have f0:=HZ.out.free
  have hG:w.heap.size<w2.heap.size:=by have:=hb2.size; omega
  clear hz hb2 HZ HO hc0 hc1;generalize hGe:w.heap.size=G at *;have HGe:=lj hGe;clear hGe;go_wp2;refine bodyPost_ret (v:=ME) (by simp [results,Tryz.results99,go_sem,z0,z1,z2,z3]; rfl) rfl ⟨rfl,?_⟩;exact HO2.out.trans' (only4 w2 G _ _ _ _) (fun i hi=>.inr (by rw [HGe.out,hi]; exact Nat.le_refl _))
theorem vmiss_yes (h:Bx g w (VV p s)) (b:Nat) (room strikes:Int) (h1:p≤1099511627776) (h2:b≤1099511627776) (hs:(s:Int)<strikes) (hr:17≤room) (hs2:s≤1000000) :
  Calls Tryz.prog 99 #[.pointer (some ⟨g,0,none⟩),.int .i64 b,.int .i64 room,.int .i64 strikes] w fun e w'=>e = .returned (MG p b)∧Bx g w' (VV b (s+1))∧Only (fun k=>k=g) w w':=by
 have hc0:=h.cell 0 (.int .i64 p) rfl;have hc1:=h.cell 1 (.int .i64 s) rfl;have hg:g<w.heap.size:=h.room;have HR:=lj (rt_gap h1 h2);have HO:=lj (((Only.refl (fun _=>False) w).alloc mz).alloc (mg p b));have HX:=lj h;clear h h1 h2
 have hd:decide ((s:Int) ≥ strikes)=false:=by simp; omega
 go_enter Tryz.func99,Tryz.ntmps99
 go_wp2_with fail
 have hz:Bx w.heap.size ((w.alloc mz).alloc (mg p b)) #[.int .i64 0,.int .i64 0,.int .i64 0,.string ⟨#[]⟩]:=(Bx.new w w.heap.size rfl _ _).keep ((Only.refl (fun _=>False) _).alloc _) (fun h=>h);have hm:Bx (w.heap.size+1) ((w.alloc mz).alloc (mg p b)) #[.int .i64 7,.int .i64 p,.int .i64 b,.string ⟨#[]⟩]:=Bx.new (w.alloc mz) _ (by simp) _ _
 have hw:w.heap.size+2=((w.alloc mz).alloc (mg p b)).heap.size:=by simp
 refine (size_yes 7 p b [] 17 rfl ((w.alloc mz).alloc (mg p b)) HR.out).mono ?_;rintro e w2 ⟨rfl,hb2⟩;have HZ:=lj (hz.go hb2 (by omega));have HM:=lj (hm.go hb2 (by omega));have HO2:=lj (HO.out.trans (only_of_below hb2));have HX2:=lj (HX.out.keep HO2.out (fun h=>h));have z0:=HZ.out.cell 0 _ rfl;have z1:=HZ.out.cell 1 _ rfl;have z2:=HZ.out.cell 2 _ rfl;have z3:=HZ.out.cell 3 _ rfl;have f0:=HZ.out.free;have m0:=HM.out.cell 0 _ rfl;have m1:=HM.out.cell 1 _ rfl;have m2:=HM.out.cell 2 _ rfl;have m3:=HM.out.cell 3 _ rfl;have g0:=HX2.out.cell 0 (.int .i64 p) rfl;have g1:=HX2.out.cell 1 (.int .i64 s) rfl;have f1:=HX2.out.free
 have hG:w.heap.size<w2.heap.size:=by have:=hb2.size; omega
 clear hz hm hb2 HZ HM HO HX hc0 hc1;generalize hGe:w.heap.size=G at *
 have n1:¬ g=G:=by omega
 have n2:¬ g=G+1:=by omega
 have HGe:=lj hGe;clear hGe;go_wp2;refine bodyPost_ret (v:=MG p b) (by simp [results,Tryz.results99,go_sem,z0,z1,z2,z3]; rfl) rfl ⟨rfl,?_,?_⟩
 ·exact ((HX2.out.set 0 (.int .i64 b)).set 1 (.int .i64 (s+1:Nat))).keep (only4 _ G _ _ _ _) (fun e=>n1 e)
 ·exact (HO2.out.mono (T:=fun k=>k=g) (fun _ _ h=>h.elim)).trans' ((((Only.refl (fun k=>k=g∨k=G) w2).setCell (p:=⟨g,0,none⟩) (.inl rfl) _).setCell (p:=⟨g,1,none⟩) (.inl rfl) _).trans ((only4 _ G _ _ _ _).mono fun k _ hk=>.inr hk))
   (fun i hi=>hi.imp (fun h=>h) (fun h=>by rw [HGe.out,h]; exact Nat.le_refl _))
end
end
section
open Go.RowKit
open Fr Ms Au
def asv (o:Bs) (sk:Int) (s:St):Array Value:=#[.string (str o),.int .i64 sk,.bool s.bg,.bool s.en,.int .i64 (s.up:Nat),.int .i64 (s.gp:Nat)]
theorem str_beq (l m:Bs):((str l).toList == (str m).toList)=decide (l=m):=by
 by_cases h:l=m
 ·subst h; simp
 ·rw [str_ne h]; simp [h]
theorem pre_any (s p:Bs) (w:World) :
  Calls Tryz.prog 88 #[.string (str s),.string (str p)] w fun e w'=>e = .returned (.bool (decide (s.take p.length=p)))∧w'=w:=by
 have h1:=str_size s;have h2:=str_size p;have hcut:=s_cut s 0 p.length;rw [List.drop_zero] at hcut
 by_cases hl:p.length≤s.length
 ·go_enter Tryz.func88,Tryz.ntmps88
  go_wp2;go_ret;exact ⟨ret_bool (str_beq _ _),rfl⟩
 ·have hfin:decide (s.take p.length=p)=false:=by
   simp;intro h;have:=congrArg List.length h;simp at this;omega
  rw [hfin]
  go_enter Tryz.func88,Tryz.ntmps88
  go_wp2;go_ret;exact ⟨rfl,rfl⟩
theorem hpre_any (s p:Bs) (w:World) :
  Calls Tryz.prog 66 #[.string (str s),.string (str p)] w fun e w'=>e = .returned (.bool (decide (s.take p.length=p)))∧w'=w:=by
 go_enter Tryz.func66,Tryz.ntmps66
 go_wp2_with fail
 refine (pre_any s p w).mono ?_;rintro e w1 ⟨rfl,hw⟩;obtain rfl:=hw.symm;go_wp2;go_ret;exact ⟨rfl,rfl⟩
theorem mhas_any {g:Nat} {w:World} {o:Bs} {sk:Int} {s:St} (h:Bx g w (asv o sk s)) (n:Int) :
  Calls Tryz.prog 65 #[.pointer (some ⟨g,0,none⟩),.int .i64 n] w fun e w'=>e = .returned (.bool (decide (n≤(o.length:Nat))))∧w'=w:=by
 have c0:=h.cell 0 (.string (str o)) rfl;have HS:=lj (str_size o)
 go_enter Tryz.func65,Tryz.ntmps65
 go_wp2;go_ret;exact ⟨ret_bool (by rw [HS.out]),rfl⟩
section
variable {g:Nat} {w:World} {o:Bs} {sk:Int} {s:St}
theorem mbeg_any (h:Bx g w (asv o sk s)) (k a b:Int) (t:Bs) :
  Calls Tryz.prog 37 #[.pointer (some ⟨g,0,none⟩),.agg #[.int .i64 k,.int .i64 a,.int .i64 b,.string (str t)]] w fun e w'=>e = .returned (.bool (begB o ⟨k,a,b,t⟩))∧Below w.heap.size w w':=by
 have hb:Below w.heap.size w (w.alloc (.cells #[.int .i64 k,.int .i64 a,.int .i64 b,.string (str t)] 38)):=(Below.refl _ _).alloc (Nat.le_refl _) _;have HN:=lj (Bx.new w _ rfl #[.int .i64 k,.int .i64 a,.int .i64 b,.string (str t)] 38);have HG:=lj (h.go hb h.room);have HB:=lj hb;have HR:=lj (show begB o ⟨k,a,b,t⟩=(decide (k=13) || (decide (k=5) && decide (b≤o.length))) from rfl);clear hb h
 by_cases h13:k=13
 ·subst h13
  go_enter Tryz.func37,Tryz.ntmps37
  go_wp2;go_ret;exact ⟨ret_bool (by rw [HR.out]; simp),HB.out⟩
 ·have d13:(k == 13)=false:=by simp [h13]
  by_cases h5:k=5
  ·subst h5
   go_enter Tryz.func37,Tryz.ntmps37
   go_wp2_with fail
   refine (mhas_any HG.out b).mono ?_;rintro e w1 ⟨rfl,hw⟩;obtain rfl:=hw.symm;go_wp2;go_ret;exact ⟨ret_bool (by rw [HR.out]; simp),HB.out⟩
  ·have d5:(k == 5)=false:=by simp [h5]
   have HF:=lj (show begB o ⟨k,a,b,t⟩=false by rw [HR.out]; simp [h13,h5]);clear h13 h5
   go_enter Tryz.func37,Tryz.ntmps37
   go_wp2;go_ret;exact ⟨ret_bool HF.out.symm,HB.out⟩
theorem mdata_any (h:Bx g w (asv o sk s)) (hu:s.up≤o.length) (k a b:Int) (t:Bs) :
    Calls Tryz.prog 38 #[.pointer (some ⟨g,0,none⟩),.agg #[.int .i64 k,.int .i64 a,.int .i64 b,.string (str t)]] w fun e w'=>e = .returned (.bool (dataB o s ⟨k,a,b,t⟩))∧Below w.heap.size w w':=by
  have hb:Below w.heap.size w (w.alloc (.cells #[.int .i64 k,.int .i64 a,.int .i64 b,.string (str t)] 38)):=(Below.refl _ _).alloc (Nat.le_refl _) _;have HN:=lj (Bx.new w _ rfl #[.int .i64 k,.int .i64 a,.int .i64 b,.string (str t)] 38);have HG:=lj (h.go hb h.room);have HB:=lj hb;have HR:=lj (show dataB o s ⟨k,a,b,t⟩=(decide (a=s.up) && (!decide (t=[]) && decide ((o.drop s.up).take t.length=t))) from rfl);clear hb h;have HS:=lj (str_size o);have HT:=lj (s_cut o s.up o.length);rw [List.take_length] at HT
  go_enter Tryz.func38,Tryz.ntmps38
  go_upto_region 1 with fail
  generalize w.alloc (.cells #[.int .i64 k,.int .i64 a,.int .i64 b,.string (str t)] 38)=w1 at *;have c0:=HG.out.cell 0 (.string (str o)) rfl;have c4:=HG.out.cell 4 (.int .i64 (s.up:Nat)) rfl;have m1:=HN.out.cell 1 (.int .i64 a) rfl;have m3:=HN.out.cell 3 (.string (str t)) rfl
  by_cases ha:a=s.up
  · by_cases ht:t=[]
    · subst ht
      have hx:(str ([]:Bs)).toList=[]:=by simp [str]
      have HF:=lj (show dataB o s ⟨k,a,b,[]⟩=false by rw [HR.out]; simp)
      have hd:(a == (s.up:Nat))=true:=by simp [ha]
      clear ha
      go_quiet (fail)
      go_wp2;go_ret;exact ⟨ret_bool HF.out.symm,below_drewN HB.out _⟩
    · have hx:(str t).toList.isEmpty=false:=by
        rcases t with _ | ⟨c,t⟩
        · exact absurd rfl ht
        · rw [ByteArray.toList_eq]; rfl
      have hx2:((str t).toList == (str ([]:Bs)).toList)=false:=str_ne ht;have HF:=lj (show dataB o s ⟨k,a,b,t⟩=decide ((o.drop s.up).take t.length=t) by rw [HR.out]; simp [ha,ht])
      have hd:(a == (s.up:Nat))=true:=by simp [ha]
      have hs:=HS.out;have hcut:=HT.out;clear ha ht HR
      go_quiet ((go_at_call 66; exact Calls.quiet_of_same (hpre_any _ _ _)))
      go_wp2;go_ret;exact ⟨ret_bool HF.out.symm,below_drewN HB.out _⟩
  · have hd:(a == (s.up:Nat))=false:=by simp [ha]
    have HF:=lj (show dataB o s ⟨k,a,b,t⟩=false by rw [HR.out]; simp [ha]);clear ha
    go_quiet (fail)
    go_wp2;go_ret;exact ⟨ret_bool HF.out.symm,below_drewN HB.out _⟩
theorem mgap_any (h:Bx g w (asv o sk s)) (k a b:Int) (t:Bs) :
  Calls Tryz.prog 39 #[.pointer (some ⟨g,0,none⟩),.agg #[.int .i64 k,.int .i64 a,.int .i64 b,.string (str t)]] w fun e w'=>e = .returned (.bool (gapB o sk s ⟨k,a,b,t⟩))∧Below w.heap.size w w':=by
 have hb:Below w.heap.size w (w.alloc (.cells #[.int .i64 k,.int .i64 a,.int .i64 b,.string (str t)] 38)):=(Below.refl _ _).alloc (Nat.le_refl _) _;have HN:=lj (Bx.new w _ rfl #[.int .i64 k,.int .i64 a,.int .i64 b,.string (str t)] 38);have HG:=lj (h.go hb h.room);have HB:=lj hb;have HR:=lj (show gapB o sk s ⟨k,a,b,t⟩=(decide (a=s.up) && (decide (a<b) && (decide (b≤o.length) && decide ((s.gp:Int)<sk)))) from rfl);clear hb h
 go_enter Tryz.func39,Tryz.ntmps39
 go_upto_region 1 with fail
 generalize w.alloc (.cells #[.int .i64 k,.int .i64 a,.int .i64 b,.string (str t)] 38)=w1 at *;have c1:=HG.out.cell 1 (.int .i64 sk) rfl;have c4:=HG.out.cell 4 (.int .i64 (s.up:Nat)) rfl;have c5:=HG.out.cell 5 (.int .i64 (s.gp:Nat)) rfl;have m1:=HN.out.cell 1 (.int .i64 a) rfl;have m2:=HN.out.cell 2 (.int .i64 b) rfl
 obtain ⟨d1,h1⟩:∃ d,decide (a=s.up)=d:=⟨_,rfl⟩
 obtain ⟨d2,h2⟩:∃ d,decide (a<b)=d:=⟨_,rfl⟩
 obtain ⟨d3,h3⟩:∃ d,decide (b≤o.length)=d:=⟨_,rfl⟩
 rw [h1,h2,h3] at HR
 have e1:(a == (s.up:Nat))=d1:=by rw [← h1]; rfl
 have e2:decide (b > a)=d2:=by rw [← h2]
 have H3:=lj h3;clear h1 h2 h3;cases d1
 ·go_quiet (fail)
  go_wp2;go_ret;exact ⟨ret_bool (by rw [HR.out]; rfl),below_drewN HB.out _⟩
 cases d2
 ·go_quiet (fail)
  go_wp2;go_ret;exact ⟨ret_bool (by rw [HR.out]; rfl),below_drewN HB.out _⟩
 have HH:=lj (fun (n:Nat)=>show Calls Tryz.prog 65 #[.pointer (some ⟨g,0,none⟩),.int .i64 b] (w1.drewN n) fun e w'=>e = .returned (.bool d3)∧w'=w1.drewN n from by rw [← H3.out]; exact mhas_any (HG.out.drewN n) b);cases d3
 ·go_quiet ((go_at_call 65; exact Calls.quiet_of_same (HH.out _)))
  go_wp2;go_ret;exact ⟨ret_bool (by rw [HR.out]; rfl),below_drewN HB.out _⟩
 ·go_quiet ((go_at_call 65; exact Calls.quiet_of_same (HH.out _)))
  go_wp2;go_ret;exact ⟨ret_bool (by rw [HR.out]; simp),below_drewN HB.out _⟩
theorem amay_any (h:Bx g w (asv o sk s)) (hu:s.up≤o.length) (k a b:Int) (t:Bs) :
  Calls Tryz.prog 18 #[.pointer (some ⟨g,0,none⟩),.agg #[.int .i64 k,.int .i64 a,.int .i64 b,.string (str t)]] w fun e w'=>e = .returned (.bool (mayB o sk s ⟨k,a,b,t⟩))∧Below w.heap.size w w':=by
 have hb:Below w.heap.size w (w.alloc (.cells #[.int .i64 k,.int .i64 a,.int .i64 b,.string (str t)] 38)):=(Below.refl _ _).alloc (Nat.le_refl _) _;have HN:=lj (Bx.new w _ rfl #[.int .i64 k,.int .i64 a,.int .i64 b,.string (str t)] 38);have HG:=lj (h.go hb h.room);have HB:=lj hb;have HU:=lj hu;have hsz:=h.room;have HR:=lj (show mayB o sk s ⟨k,a,b,t⟩=(rt k a b (str t).size && (!s.en && (if s.bg then (if k≤5 then false else if k=6 then dataB o s ⟨k,a,b,t⟩ else if k=7 then gapB o sk s ⟨k,a,b,t⟩ else true) else begB o ⟨k,a,b,t⟩))) by rw [str_size]; rfl);clear hb h hu
 obtain ⟨q,hq⟩:∃ q,mayB o sk s ⟨k,a,b,t⟩=q:=⟨_,rfl⟩
 rw [hq] at HR;rw [hq];clear hq
 go_enter Tryz.func18,Tryz.ntmps18
 go_upto_region 1 with fail
 have hs2:(w.alloc (.cells #[.int .i64 k,.int .i64 a,.int .i64 b,.string (str t)] 38)).heap.size=w.heap.size+1:=by simp
 generalize w.alloc (.cells #[.int .i64 k,.int .i64 a,.int .i64 b,.string (str t)] 38)=w1 at *;have HS2:=lj hs2;clear hs2;have m0:=HN.out.cell 0 (.int .i64 k) rfl;have m1:=HN.out.cell 1 (.int .i64 a) rfl;have m2:=HN.out.cell 2 (.int .i64 b) rfl;have m3:=HN.out.cell 3 (.string (str t)) rfl;have c3:=HG.out.cell 3 (.bool s.en) rfl;have c2:=HG.out.cell 2 (.bool s.bg) rfl
 go_wp2_with fail
 refine (mright_any k a b (str t) w1).mono ?_;rintro e w2 ⟨rfl,hb2⟩;have HG2:=lj (HG.out.go hb2 (by have:=HS2.out; omega));have HN2:=lj (HN.out.go hb2 (by have:=HS2.out; omega));have HB2:=lj (HB.out.trans (hb2.mono (by have:=HS2.out; omega)));clear hb2 m0 m1 m2 m3 c2 c3;have m0:=HN2.out.cell 0 (.int .i64 k) rfl;have m1:=HN2.out.cell 1 (.int .i64 a) rfl;have m2:=HN2.out.cell 2 (.int .i64 b) rfl;have m3:=HN2.out.cell 3 (.string (str t)) rfl;have c3:=HG2.out.cell 3 (.bool s.en) rfl;have c2:=HG2.out.cell 2 (.bool s.bg) rfl;have hr2:=HB2.out.size;have HK:=lj (fun h:rt k a b (str t).size=true=>(rt_k h).1);generalize rt k a b (str t).size=r at *;cases r
 ·go_wp2
  go_ret;exact ⟨ret_bool (by rw [HR.out]; rfl),HB2.out⟩
 have hk1:=HK.out rfl;clear HK
 obtain ⟨en,hen⟩:∃ v,s.en=v:=⟨_,rfl⟩
 rw [hen] at HR c3;clear hen;cases en
 rotate_left
 ·go_wp2
  go_ret;exact ⟨ret_bool (by rw [HR.out]; rfl),HB2.out⟩
 obtain ⟨bg,hbg⟩:∃ v,s.bg=v:=⟨_,rfl⟩
 rw [hbg] at HR c2;clear hbg;cases bg
 ·go_wp2_with fail
  refine (mbeg_any HG2.out k a b t).mono ?_;rintro e w3 ⟨rfl,hb3⟩;have HB3:=lj (HB2.out.trans (hb3.mono hr2));clear hb3;go_wp2;go_ret;exact ⟨ret_bool (by rw [HR.out]; rfl),HB3.out⟩
 by_cases h5:1≤k∧k≤5
 ·rcases (show k=1∨k=2∨k=3∨k=4∨k=5 by omega) with rfl | rfl | rfl | rfl | rfl
  all_goals
   go_wp2;go_ret;exact ⟨ret_bool (by rw [HR.out]; rfl),HB2.out⟩
 have hk6:6≤k:=by omega
 clear h5 hk1
 have e1:(k == 1)=false:=by simp; omega
 have e2:(k == 2)=false:=by simp; omega
 have e3:(k == 3)=false:=by simp; omega
 have e4:(k == 4)=false:=by simp; omega
 have e5:(k == 5)=false:=by simp; omega
 by_cases h6:k=6
 ·subst h6
  clear e1 e2 e3 e4 e5
  go_wp2_with fail
  refine (mdata_any HG2.out HU.out 6 a b t).mono ?_;rintro e w3 ⟨rfl,hb3⟩;have HB3:=lj (HB2.out.trans (hb3.mono hr2));clear hb3;go_wp2;go_ret;exact ⟨ret_bool (by rw [HR.out]; rfl),HB3.out⟩
 by_cases h7:k=7
 ·subst h7
  clear e1 e2 e3 e4 e5 h6
  go_wp2_with fail
  refine (mgap_any HG2.out 7 a b t).mono ?_;rintro e w3 ⟨rfl,hb3⟩;have HB3:=lj (HB2.out.trans (hb3.mono hr2));clear hb3;go_wp2;go_ret;exact ⟨ret_bool (by rw [HR.out]; rfl),HB3.out⟩
 ·have e6:(k == 6)=false:=by simp [h6]
  have e7:(k == 7)=false:=by simp [h7]
  have HF:=lj (show true=q by rw [HR.out]; simp [h6,h7]; omega);clear h6 h7;go_wp2;go_ret;exact ⟨ret_bool HF.out,HB2.out⟩
def TkGives (g:Nat) (o:Bs) (sk:Int) (s:St) (w:World) (e:Ending) (w':World):Prop:=e = .returned (.tuple #[])∧Bx g w' (asv o sk s)∧Only (fun b=>b=g) w w'
theorem tk_of {e:Ending} {w w':World} {vs:Array Value} (he:e = .returned (.tuple #[])) (hv:Bx g w' vs) (hvs:vs=asv o sk s) (ho:Only (fun b=>b=g) w w'):TkGives g o sk s w e w':=⟨he,hvs ▸ hv,ho⟩
theorem take_any (h:Bx g w (asv o sk s)) (k a b:Int) (t:Bs) (hb0:0≤b) (hsum:s.up+t.length≤140737488355328) (hgp:s.gp≤140737488355328) :
  Calls Tryz.prog 19 #[.pointer (some ⟨g,0,none⟩),.agg #[.int .i64 k,.int .i64 a,.int .i64 b,.string (str t)]] w (TkGives g o sk (takeS s ⟨k,a,b,t⟩) w):=by
 have hO:Only (fun b=>b=g) w (w.alloc (.cells #[.int .i64 k,.int .i64 a,.int .i64 b,.string (str t)] 38)):=(Only.refl _ w).alloc _;have HN:=lj (Bx.new w _ rfl #[.int .i64 k,.int .i64 a,.int .i64 b,.string (str t)] 38);have hr:=h.room;have HG:=lj (h.go ((Below.refl w.heap.size w).alloc (Nat.le_refl _) (.cells #[.int .i64 k,.int .i64 a,.int .i64 b,.string (str t)] 38)) hr);have HO:=lj hO
 have hbN:b=(b.toNat:Nat):=by omega
 have HBN:=lj hbN;have HT:=lj (str_size t)
 have hts:(str t).size≤140737488355328:=by rw [str_size]; omega
 have hts2:(s.up:Int)+(str t).size≤140737488355328:=by rw [str_size]; omega
 clear hO h hbN hb0 hsum
 go_enter Tryz.func19,Tryz.ntmps19
 go_upto_region 1 with fail
 generalize w.alloc (.cells #[.int .i64 k,.int .i64 a,.int .i64 b,.string (str t)] 38)=w1 at *
 obtain ⟨gm,hgm⟩:∃ gm,w.heap.size=gm:=⟨_,rfl⟩
 rw [hgm] at HN hr;simp only [hgm];clear hgm
 have hne:gm≠g:=by omega
 have m0:=HN.out.cell 0 (.int .i64 k) rfl;have m2:=HN.out.cell 2 (.int .i64 b) rfl;have m3:=HN.out.cell 3 (.string (str t)) rfl;have c2:=HG.out.cell 2 (.bool s.bg) rfl;have c3:=HG.out.cell 3 (.bool s.en) rfl;have c4:=HG.out.cell 4 (.int .i64 (s.up:Nat)) rfl;have c5:=HG.out.cell 5 (.int .i64 (s.gp:Nat)) rfl;have f2:=HG.out.free 2;have f3:=HG.out.free 3;have f4:=HG.out.free 4;have f5:=HG.out.free 5
 rcases (show k=5∨k=6∨k=7∨k=12∨k=13∨(k≠5∧k≠6∧k≠7∧k≠12∧k≠13) by omega) with rfl | rfl | rfl | rfl | rfl | ⟨n5,n6,n7,n12,n13⟩
 ·go_wp2
  refine bodyPost_ret (v:=.tuple #[]) (by simp [results,Tryz.results19,go_sem]) rfl (tk_of rfl ((HG.out.set 2 _).set 4 _) ?_ ((HO.out.setCell (p:=⟨g,2,none⟩) rfl _).setCell (p:=⟨g,4,none⟩) rfl _));simp [asv,takeS];have:=HBN.out;omega
 ·go_wp2
  go_region
  go_wp2;refine bodyPost_ret (v:=.tuple #[]) (by simp [results,Tryz.results19,go_sem]) rfl (tk_of rfl (((HG.out.set 2 _).set 4 _).drewN 1) ?_ ((HO.out.setCell (p:=⟨g,2,none⟩) rfl _).setCell (p:=⟨g,4,none⟩) rfl _).drew);simp [asv,takeS,HT.out]
 ·go_wp2
  refine bodyPost_ret (v:=.tuple #[]) (by simp [results,Tryz.results19,go_sem]) rfl (tk_of rfl (((HG.out.set 2 _).set 4 _).set 5 _) ?_ (((HO.out.setCell (p:=⟨g,2,none⟩) rfl _).setCell (p:=⟨g,4,none⟩) rfl _).setCell (p:=⟨g,5,none⟩) rfl _));simp [asv,takeS];have:=HBN.out;omega
 ·go_wp2
  refine bodyPost_ret (v:=.tuple #[]) (by simp [results,Tryz.results19,go_sem]) rfl (tk_of rfl ((HG.out.set 2 _).set 3 _) ?_ ((HO.out.setCell (p:=⟨g,2,none⟩) rfl _).setCell (p:=⟨g,3,none⟩) rfl _));simp [asv,takeS]
 ·go_wp2
  refine bodyPost_ret (v:=.tuple #[]) (by simp [results,Tryz.results19,go_sem]) rfl (tk_of rfl ((HG.out.set 2 _).set 3 _) ?_ ((HO.out.setCell (p:=⟨g,2,none⟩) rfl _).setCell (p:=⟨g,3,none⟩) rfl _));simp [asv,takeS]
 ·have e1:(k == 5)=false:=by simp [n5]
  have e2:(k == 6)=false:=by simp [n6]
  have e3:(k == 7)=false:=by simp [n7]
  have e4:(k == 12)=false:=by simp [n12]
  have e5:(k == 13)=false:=by simp [n13]
  have HF:=lj (show takeS s ⟨k,a,b,t⟩=⟨true,s.en,s.up,s.gp⟩ by simp [takeS,n5,n6,n7,n12,n13]);clear n5 n6 n7 n12 n13;go_wp2;refine bodyPost_ret (v:=.tuple #[]) (by simp [results,Tryz.results19,go_sem]) rfl (tk_of rfl (HG.out.set 2 _) ?_ (HO.out.setCell (p:=⟨g,2,none⟩) rfl _));rw [HF.out];simp [asv]
end
end
end Go.Proofs.YtdpagmcickkbmaaGreatDoor
