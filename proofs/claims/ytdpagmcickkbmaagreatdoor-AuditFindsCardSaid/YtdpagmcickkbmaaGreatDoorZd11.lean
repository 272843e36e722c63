/- PLinew PRingx -/
import Derived.Deep.LoopGhost
import Derived.Test.YtdpagmcickkbmaaGreatDoorZd10
namespace Go.Proofs.YtdpagmcickkbmaaGreatDoor
set_option maxRecDepth 100000
open Go.Lib renaming hid → lj
section
open Go.RowKit
open Rg
def Begins (b0:Nat) (L:Bs) (off:Int) (i:Nat):Prop:=off≤i∧(i=0∨(b0<i∧L[i - 1]?=some 10#8))
def IsLine (b0:Nat) (L:Bs) (off:Int) (r:Nat):Prop:=
 r≤L.length∧(r<L.length→b0≤r∧Begins b0 L off r)∧∀ i,b0≤i→i<r→¬ Begins b0 L off i
theorem quiet_add_left {P:Program} {f:FuncId} {args:Array Value} {w:World} {a n:Nat} {v:Value}
  (h:Calls P f args (w.drewN (a+n)) fun e w'=>e = .returned v∧w.drewN (a+n)=w') :
  Calls P f args (w.drewN (a+n)) fun e w''=>e = .returned v∧∃ m,w''=w.drewN (a+m):=
 h.mono fun _ _ ⟨he,hm⟩=>⟨he,n,hm.symm⟩
set_option maxHeartbeats 1000000 in
theorem line_any {z:Zo} {gr gk room:Nat} {c L:Bs} (off:Int) (w:World) (h:Raw z w gr gk room c L.length) (hI:Inv room c L) :
  Calls Tryz.prog 145 #[.pointer (some ⟨gr,z.o,none⟩),.int .i64 off] w fun e w'=>∃ r:Nat,e = .returned (.int .i64 r)∧IsLine (L.length - room) L off r∧∃ m,w'=w.drewN m:=by
 have HR:=lj h;have he:=h.end_;have hk:=h.kept;have h3:=h.few;have h1:=h.pos;have h2:=h.small;have HI:=lj hI;have hB:=base_any w h;clear h hI;generalize hE:L.length=E at *;have HE:=lj hE;clear hE;generalize hb0:E - room=b0 at *;have HB0:=lj hb0;clear hb0;have HB:=lj hB;clear hB
 by_cases hA:off≤0∧b0=0
 ·obtain ⟨ho,rfl⟩:=hA
  go_enter Tryz.func145,Tryz.ntmps145
  go_wp2_with fail
  refine HB.out.mono ?_;rintro e w' ⟨rfl,m,rfl⟩;go_wp2;go_ret;refine ⟨0,rfl,⟨by omega,fun _=>⟨by omega,by omega,.inl rfl⟩,fun i _ hi=>absurd hi (by omega)⟩,m,rfl⟩
 have hb0le:b0≤1099511627776:=by have:=HB0.out; omega
 have hg:decide (off≤0)=true∧((b0:Int) == 0)=false∨decide (off≤0)=false:=by
  by_cases h:off≤0
  ·exact .inl ⟨by simpa using h,by simp; omega⟩
  ·exact .inr (by simp; omega)
 have hfree:∀ a:Int,(a=off∨a=(b0:Int)+1)→off≤a→(b0:Int)+1≤a→∀ i:Nat,b0≤i→(i:Int)<a→¬ Begins b0 L off i:=by
  intro a ha1 ha2 ha3 i hi hik hbg;obtain ⟨hb1,hb2⟩:=hbg
  rcases hb2 with hb2 | ⟨hb2,_⟩
  ·subst hb2
   exact hA ⟨by omega,by omega⟩
  ·omega
 have HF:=lj hfree;clear hfree hA
 rcases (show off<(b0:Int)+1∨(b0:Int)+1≤off by omega) with hcase | hcase
 all_goals
  rcases hg with ⟨hg1,hg2⟩ | hg1
 all_goals
  go_enter Tryz.func145,Tryz.ntmps145
  go_wp2_with fail
  refine HB.out.mono ?_;rintro e w' ⟨rfl,m,rfl⟩;go_wp2
 all_goals
  generalize hWm:w.drewN m=wm
  have hRm:Raw z wm gr gk room c E:=by rw [← hWm]; exact HR.out.drewN m
  have hWm':∃ m,wm=w.drewN m:=⟨m,hWm.symm⟩
  have HWm:=lj hWm';have HRm:=lj hRm;have hem:=hRm.end_;have hkm:=hRm.kept;clear hWm hWm' hRm he hk
 all_goals
  go_loopw [6] (fun i wr=>∃ a:Int,i = .int .i64 a∧(b0:Int)+1≤a∧off≤a∧(∀ i:Nat,b0≤i→(i:Int)<a→¬ Begins b0 L off i)∧∃ m,wr=wm.drewN m) (fun i _=>(E - intOf i).toNat)
  case atStart=>exact ⟨_,rfl,by omega,by omega,HF.out _ (by omega) (by omega) (by omega),0,rfl⟩
  case round =>
   obtain ⟨a,rfl,ha1,ha2,hfr,m2,rfl⟩:=hrel
   obtain ⟨k,rfl⟩:∃ k:Nat,a=(k:Int)+1:=⟨(a - 1).toNat,by omega⟩
   have HFr:=lj hfr;clear hfr
   by_cases hlt:k+1<E
   ·have hcell:=HRm.out.cell (k % room) (Nat.mod_lt _ h1)
    have hkr:=Nat.mod_lt k h1;have hval:c[k % room]?=L[k]?:=HI.out.2 k (by rw [HE.out]; omega) (by rw [HE.out]; have:=HB0.out; omega);have HV:=lj hval;clear hval;generalize hx:c[k % room]?.getD 0#8=x at *;have HX:=lj hx;clear hx;go_wp2
    go_quiet ((go_at_call 91; first | exact quiet_left (place_any k _ (HRm.out.drewN _) (by omega)) | exact quiet_add_left (place_any k _ (HRm.out.drewN _) (by omega))))
    have hLk:L[k]?=some x:=by
     have h1':k<L.length:=by rw [HE.out]; omega
     have h2':=HV.out;rw [List.getElem?_eq_getElem h1'] at h2' ⊢;rw [← HX.out,h2'];rfl
    have HLk:=lj hLk;clear hLk;cases hx10:((x.toNat:Int) == 10)
    ·have hnot:∀ i:Nat,b0≤i→(i:Int)<(k:Int)+1+1→¬ Begins b0 L off i:=by
      intro i hi hik
      by_cases h:(i:Int)<(k:Int)+1
      ·exact HFr.out i hi h
      ·obtain rfl:i=k+1:=by omega
       rintro ⟨_,hb | ⟨_,hb⟩⟩
       ·omega
       ·rw [Nat.add_sub_cancel,HLk.out] at hb
        injection hb with hb
        subst hb;simp at hx10
     have HN:=lj hnot;clear hnot;go_wp2;go_roundw
     case rel=>exact ⟨(k:Int)+1+1,rfl,by omega,by omega,HN.out,m2+nq,by first | rfl | rw [World.drewN_drewN]⟩
     case measure=>simp [intOf]; omega
    ·have hbeg:b0≤k+1∧Begins b0 L off (k+1):=by
      refine ⟨by omega,by omega,.inr ⟨by omega,?_⟩⟩
      have e:x=10#8:=by
       apply BitVec.eq_of_toNat_eq
       simp at hx10;simp;omega
      rw [Nat.add_sub_cancel,HLk.out,e]
     have HG:=lj hbeg;clear hbeg;go_wp2;go_ret;obtain ⟨m',hm'⟩:=HWm.out;refine ⟨k+1,ret_int (by omega),⟨by rw [HE.out]; omega,fun _=>HG.out,fun i hi hik=>HFr.out i hi (by omega)⟩,m'+(m2+nq),by rw [hm',World.drewN_drewN,World.drewN_drewN]⟩
   ·go_wp2
    go_ret;obtain ⟨m',hm'⟩:=HWm.out;refine ⟨E,rfl,⟨by rw [HE.out]; omega,fun h=>absurd h (by rw [HE.out]; omega),fun i hi hik=>HFr.out i hi (by omega)⟩,m'+m2,by rw [hm',World.drewN_drewN]⟩
end
section
open Go.RowKit
open Rg
def Ring (z:Zo) (w:World) (gr gk room:Nat) (L:Bs):Prop:=∃ c,Raw z w gr gk room c L.length∧Inv room c L
section
variable {z:Zo} {w w':World} {gr gk room:Nat} {L:Bs}
theorem Ring.keep {z:Zo} {S:Nat→Prop} (h:Ring z w gr gk room L) (hO:Only S w w') (h1:¬ S gr) (h2:¬ S gk):Ring z w' gr gk room L:=by
 obtain ⟨c,h,hI⟩:=h;exact ⟨c,h.keep hO h1 h2,hI⟩
theorem Ring.drewN (h:Ring z w gr gk room L) (n:Nat):Ring z (w.drewN n) gr gk room L:=by
 obtain ⟨c,h,hI⟩:=h;exact ⟨c,h.drewN n,hI⟩
theorem Ring.few (h:Ring z w gr gk room L):L.length≤1099511627776:=by
 obtain ⟨c,h,hI⟩:=h;exact h.few
theorem base_ring (h:Ring z w gr gk room L) :
  Calls Tryz.prog 98 #[.pointer (some ⟨gr,z.o,none⟩)] w fun e w'=>e = .returned (.int .i64 (L.length - room:Nat))∧∃ m,w'=w.drewN m:=by
 obtain ⟨c,h,hI⟩:=h;exact base_any w h
theorem end_ring (h:Ring z w gr gk room L):Calls Tryz.prog 166 #[.pointer (some ⟨gr,z.o,none⟩)] w fun e w'=>e = .returned (.int .i64 L.length)∧w=w':=by
 obtain ⟨c,h,hI⟩:=h;exact end_any w h
theorem append_ring (h:Ring z w gr gk room L) {B:Nat} (a:Option Addr) (n cap:Nat) (l:Bs) (hl:Bytes w B a n l) (ha:Away n a gr gk) (hcap:n≤cap)
  (hB:B≤w.heap.size) (hE:L.length+n≤1099511627776) :
  Calls Tryz.prog 45 #[.pointer (some ⟨gr,z.o,none⟩),.slice a n cap] w fun e w'=>e = .returned (.bool true)∧Ring z w' gr gk room (L ++ l)∧Only (fun k=>k=gr∨k=gk) w w':=by
 obtain ⟨c,h,hI⟩:=h
 refine (append_any a n cap l w h hl ha hcap hB hE).mono fun e w' ⟨he,hr,ho⟩=>⟨he,⟨_,?_,inv_append room h.pos c L l hI⟩,ho⟩
 have hn:=hl.1;rw [← hn] at hr;rw [List.length_append];exact hr
theorem line_ring (h:Ring z w gr gk room L) (off:Int) :
  Calls Tryz.prog 145 #[.pointer (some ⟨gr,z.o,none⟩),.int .i64 off] w fun e w'=>∃ r:Nat,e = .returned (.int .i64 r)∧IsLine (L.length - room) L off r∧∃ m,w'=w.drewN m:=by
 obtain ⟨c,h,hI⟩:=h;exact line_any off w h hI
theorem only_none (w w':World) {n:Nat} (h:w'=w.drewN n):Only (fun _=>False) w w':=by rw [h]; exact (Only.refl _ w).drewN n
theorem read_ring (h:Ring z w gr gk room L) (off:Nat) (n:Int) (count:Nat) (hlo:L.length≤off+room) (hhi:off≤L.length) (hc:count=(min n ((L.length:Int) - off)).toNat) :
  Calls Tryz.prog 115 #[.pointer (some ⟨gr,z.o,none⟩),.int .i64 off,.int .i64 n] w fun e w'=>∃ a,e = .returned (.tuple #[.slice a count count,.bool true]) ∧
   Bytes w' (w.heap.size+1) a count ((L.drop off).take count)∧(∀ p,a=some p→p.block=w.heap.size)∧Only (fun _=>False) w w':=by
 obtain ⟨c,h,hI⟩:=h
 by_cases h0:count=0
 ·subst h0
  refine (read_none off n w h hlo hhi (by omega)).mono fun e w' hh=>?_
  obtain ⟨he,m,hw⟩:=hh;refine ⟨none,he,by rw [List.take_zero]; exact Bytes.nil _,?_,only_none _ _ hw⟩;intro p hp;cases hp
 ·refine (read_some off count n w h (by omega) hlo (by omega) (by omega)).mono fun e w' ⟨he,hg,ho⟩=>⟨_,he,?_,fun p hp=>by injection hp with hp; rw [← hp],ho⟩
  rw [read_eq room h.pos c L hI off count hlo (by omega) _ (by simp)] at hg
  have hlen:((L.drop off).take count).length=count:=by simp; omega
  refine ⟨hlen,fun hn=>⟨_,0,rfl,by omega,fun i hi=>?_⟩⟩;rw [cell_of_row _ _ _ _ _ _ hg];simp only [Nat.zero_add];generalize hX:(L.drop off).take count=X at *;simp [List.getElem?_eq_getElem (show i<X.length by omega),by8]
end
end
end Go.Proofs.YtdpagmcickkbmaaGreatDoor
