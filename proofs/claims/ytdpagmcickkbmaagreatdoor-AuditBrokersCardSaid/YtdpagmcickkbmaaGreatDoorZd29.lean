/- PAuf PAul PAuh PAug -/
import Derived.Deep.CutBlock
import Derived.Test.YtdpagmcickkbmaaGreatDoorZd16
import Derived.Test.YtdpagmcickkbmaaGreatDoorZd23
namespace Go.Proofs.YtdpagmcickkbmaaGreatDoor
set_option maxRecDepth 100000
open Go.Lib renaming hid → lj
section
open Go.RowKit
open Fr Ms Au
structure MsIn (w:World) (B:Nat) (a:Option Addr) (L:List M):Prop where
 outer:0<L.length→∃ b off,a=some ⟨b,off,none⟩∧b<B∧∀ r m,L[r]?=some m→w.cell? ⟨b,off+r * 4,none⟩=some (.int .i64 m.k)∧w.cell? ⟨b,off+r * 4+1,none⟩=some (.int .i64 m.a)∧w.cell? ⟨b,off+r * 4+2,none⟩=some (.int .i64 m.b)∧w.cell? ⟨b,off+r * 4+3,none⟩=some (.string (str m.t))
 inner:∀ m∈L,m.t.length≤maxLen
theorem MsIn.below {w w':World} {B:Nat} {a:Option Addr} {L:List M} (h:MsIn w B a L) (hb:Below B w w'):MsIn w' B a L:=
  ⟨fun hn=>by
    obtain ⟨b,off,e,hlt,hc⟩:=h.outer hn
    exact ⟨b,off,e,hlt,fun r m hr=>⟨(hb.cell (p:=⟨b,off+r * 4,none⟩) hlt).trans (hc r m hr).1,(hb.cell (p:=⟨b,off+r * 4+1,none⟩) hlt).trans (hc r m hr).2.1,(hb.cell (p:=⟨b,off+r * 4+2,none⟩) hlt).trans (hc r m hr).2.2.1,(hb.cell (p:=⟨b,off+r * 4+3,none⟩) hlt).trans (hc r m hr).2.2.2⟩⟩,
   h.inner⟩
theorem MsIn.take {w:World} {B:Nat} {a:Option Addr} {L:List M} (h:MsIn w B a L) (k:Nat):MsIn w B a (L.take k):=by
 refine ⟨fun hn=>?_,fun m hm=>h.inner m (List.mem_of_mem_take hm)⟩;obtain ⟨b,off,e,hlt,hc⟩:=h.outer (by simp at hn; omega);refine ⟨b,off,e,hlt,fun r m hr=>hc r m ?_⟩;rw [List.getElem?_take] at hr
 split at hr
 ·exact hr
 ·simp at hr
def FGives (o:Bs) (sk:Int) (L:List M) (w:World) (e:Ending) (w':World):Prop:=∃ r:Int,e = .returned (.int .i64 r)∧IsFirst o sk L r∧Below w.heap.size w w'
theorem f_at {o:Bs} {sk:Int} {L:List M} {w w':World} {k:Nat} {m:M} (hm:L[k]?=some m) (hg:good o sk L k) (hf:mayB o sk (run (L.take k)) m=false) (hb:Below w.heap.size w w'):FGives o sk L w (.returned (.int .i64 (k:Nat))) w':=
 ⟨_,rfl,.inl ⟨k,m,hm,rfl,hg,hf⟩,hb⟩
theorem f_no {o:Bs} {sk:Int} {L:List M} {w w':World} (hg:good o sk L L.length) (hb:Below w.heap.size w w'):FGives o sk L w (.returned (.int .i64 (-1))) w':=⟨_,rfl,.inr ⟨rfl,hg⟩,hb⟩
theorem may_sum {o:Bs} {sk:Int} {s:St} {m:M} (h:mayB o sk s m=true):m.t.length≤2042∧0≤m.b:=by
 have hk:=(mayB_iff.1 h).1;exact ⟨Nat.le_trans (rt_n hk) (tx_le _),(rt_b hk).1⟩
set_option maxHeartbeats 1000000 in
theorem first_any {w:World} {a:Option Addr} {L:List M} (h:MsIn w w.heap.size a L) (cap:Nat) (hn:L.length≤140737488355328) (o:Bs) (ho:o.length≤1099511627776) (sk:Int) :
  Calls Tryz.prog 11 #[.slice a L.length cap,.string (str o),.int .i64 sk] w (FGives o sk L w):=by
 have HL:=lj h;have HBx:=lj (show Bx w.heap.size (w.alloc (.cells #[.string (str o),.int .i64 sk,.bool false,.bool false,.int .i64 0,.int .i64 0] 55)) (asv o sk st0) from Bx.new w _ rfl _ _);have HB:=lj ((Below.refl w.heap.size w).alloc (Nat.le_refl _) (.cells #[.string (str o),.int .i64 sk,.bool false,.bool false,.int .i64 0,.int .i64 0] 55));have HO:=lj ho;clear h ho
 go_enter Tryz.func11,Tryz.ntmps11
 go_upto_region 2 with fail
 generalize w.alloc (.cells #[.string (str o),.int .i64 sk,.bool false,.bool false,.int .i64 0,.int .i64 0] 55)=w1 at *
 obtain ⟨g,hg⟩:∃ g,w.heap.size=g:=⟨_,rfl⟩
 rw [hg] at HBx HL HB;simp only [hg];have HBel:=lj hg;clear hg
 obtain ⟨n,hln⟩:∃ n,L.length=n:=⟨_,rfl⟩
 rw [hln] at hn;simp only [hln];have HLn:=lj hln;clear hln
 go_wp2_with fail
 go_loopw [15] (fun i wr=>∃ k:Nat,k≤n∧i = .int .i64 (k:Nat)∧good o sk L k∧Bx g wr (asv o sk (run (L.take k)))∧Below g w wr) (fun i _=>n - (intOf i).toNat)
 case atStart=>exact ⟨0,by omega,rfl,good_zero _ _ _,HBx.out,HB.out⟩
 case round =>
  obtain ⟨k,hk,rfl,hgood,hbx,hb⟩:=hrel;have HG:=lj hgood;have HX:=lj hbx;have HBe:=lj hb;clear hgood hbx hb HBx HB
  by_cases hlt:k<n
  ·obtain ⟨m,hm⟩:∃ m,L[k]?=some m:=⟨_,List.getElem?_eq_getElem (by have:=HLn.out; omega)⟩
   obtain ⟨b,off,ea,hbB,hc⟩:=(HL.out.below HBe.out).outer (by have:=HLn.out; omega);subst ea;obtain ⟨hc0,hc1,hc2,hc3⟩:=hc k m hm;clear hc;obtain ⟨K,x,y,t⟩:=m;simp only at hc0 hc1 hc2 hc3;have HM:=lj hm;clear hm;have HUp:=lj (up_good (by have:=HLn.out; omega) HG.out)
   go_upto_region 5 with fail
   have hgw:=HX.out.room;have HX1:=lj (HX.out.go ((Below.refl wr.heap.size wr).alloc (Nat.le_refl _) (.cells #[.int .i64 K,.int .i64 x,.int .i64 y,.string (str t)] 38)) hgw);have HN1:=lj (Bx.new wr _ rfl #[.int .i64 K,.int .i64 x,.int .i64 y,.string (str t)] 38);have HB1:=lj (HBe.out.alloc (by omega) (.cells #[.int .i64 K,.int .i64 x,.int .i64 y,.string (str t)] 38))
   have hs1:(wr.alloc (.cells #[.int .i64 K,.int .i64 x,.int .i64 y,.string (str t)] 38)).heap.size=wr.heap.size+1:=by simp
   generalize wr.alloc (.cells #[.int .i64 K,.int .i64 x,.int .i64 y,.string (str t)] 38)=w2 at *
   obtain ⟨gm,hgm⟩:∃ gm,wr.heap.size=gm:=⟨_,rfl⟩
   rw [hgm] at hs1 hgw HN1;simp only [hgm];clear hgm hc0 hc1 hc2 hc3 HX;have HS1:=lj hs1;clear hs1;have m0:=HN1.out.cell 0 (.int .i64 K) rfl;have m1:=HN1.out.cell 1 (.int .i64 x) rfl;have m2:=HN1.out.cell 2 (.int .i64 y) rfl;have m3:=HN1.out.cell 3 (.string (str t)) rfl
   go_wp2_with fail
   refine (amay_any HX1.out HUp.out.1 K x y t).mono ?_;rintro e w3 ⟨rfl,hb3⟩;have HX3:=lj (HX1.out.go hb3 (by have:=HS1.out; omega));have HN3:=lj (HN1.out.go hb3 (by have:=HS1.out; omega));have HB3:=lj (HB1.out.trans (hb3.mono (by have:=HS1.out; omega)));clear hb3 m0 m1 m2 m3;have m0:=HN3.out.cell 0 (.int .i64 K) rfl;have m1:=HN3.out.cell 1 (.int .i64 x) rfl;have m2:=HN3.out.cell 2 (.int .i64 y) rfl;have m3:=HN3.out.cell 3 (.string (str t)) rfl
   obtain ⟨q,hq⟩:∃ q,mayB o sk (run (L.take k)) ⟨K,x,y,t⟩=q:=⟨_,rfl⟩
   simp only [hq];cases q
   ·have HQ:=lj hq
    clear hq;go_wp2;go_ret;exact f_at HM.out HG.out HQ.out (by rw [HBel.out]; exact HB3.out)
   ·have HQ:=lj hq
    clear hq
    go_wp2_with fail
    refine (take_any HX3.out K x y t (may_sum HQ.out).2 (by have:=(may_sum HQ.out).1; have:=HUp.out.1; have:=HO.out; simp at *; omega) (by have:=HUp.out.2; omega)).mono ?_;rintro e w4 ⟨rfl,hx4,ho4⟩;have HX4:=lj hx4;have HB4:=lj (HB3.out.trans (ho4.below (by have:=HB3.out.size; have:=HX3.out.room; omega) (fun j hj=>by omega)));clear hx4 ho4
    go_wp2_with fail
    go_roundw
    case rel=>exact ⟨k+1,by omega,by go_num,good_succ HG.out HM.out HQ.out,by rw [run_snoc L k _ HM.out]; exact HX4.out,HB4.out⟩
    case measure=>simp [intOf]; omega
  ·go_wp2
   go_ret;exact f_no (by rw [show L.length=k by have:=HLn.out; omega]; exact HG.out) (by rw [HBel.out]; exact HBe.out)
end
section
open Go.RowKit
open Fr Ms Au
theorem run_bg {P:List M} (h:(run P).bg=false):P=[]:=by
 rcases P with _ | ⟨m,P⟩
 ·rfl
 ·have:=bg_run (l:=m :: P) (k:=P.length) (by simp)
  rw [List.take_of_length_le (by simp)] at this;rw [h] at this;cases this
theorem run_bg1 {P:List M} (h:P≠[]):(run P).bg=true:=by
 rcases hb:(run P).bg
 ·exact absurd (run_bg hb) h
 ·rfl
theorem take_bg {P:List M} {j:Nat} (hj:j≤P.length) (h:(run (P.take j)).bg=false):j=0:=by
 have h1:=congrArg List.length (run_bg h);rw [List.length_take,List.length_nil] at h1;omega
set_option maxHeartbeats 2000000 in
theorem lmay_any {w:World} {a:Option Addr} {P:List M} (h:MsIn w w.heap.size a P) (cap:Nat) (hn:P.length≤140737488355328) (o:Bs) (ho:o.length≤1099511627776) (sk:Int) (hg:good o sk P P.length) (k x y:Int) (t:Bs) :
  Calls Tryz.prog 20 #[.slice a P.length cap,.agg #[.int .i64 k,.int .i64 x,.int .i64 y,.string (str t)],.string (str o),.int .i64 sk] w fun e w'=>e = .returned (.bool (mayB o sk (run P) ⟨k,x,y,t⟩))∧Below w.heap.size w w':=by
 have hb:Below w.heap.size w (w.alloc (.cells #[.int .i64 k,.int .i64 x,.int .i64 y,.string (str t)] 38)):=(Below.refl _ _).alloc (Nat.le_refl _) _;have HN:=lj (Bx.new w _ rfl #[.int .i64 k,.int .i64 x,.int .i64 y,.string (str t)] 38);have HB:=lj hb;have HL:=lj h;have HGd:=lj hg;have HO:=lj ho;have HR:=lj (show mayB o sk (run P) ⟨k,x,y,t⟩=(rt k x y (str t).size && (!(run P).en && (if (run P).bg then (if k≤5 then false else if k=6 then dataB o (run P) ⟨k,x,y,t⟩ else if k=7 then gapB o sk (run P) ⟨k,x,y,t⟩ else true) else begB o ⟨k,x,y,t⟩))) by rw [str_size]; rfl);clear hb h hg ho
 obtain ⟨q,hq⟩:∃ q,mayB o sk (run P) ⟨k,x,y,t⟩=q:=⟨_,rfl⟩
 rw [hq] at HR;rw [hq];clear hq
 obtain ⟨n,hln⟩:∃ n,P.length=n:=⟨_,rfl⟩
 rw [hln] at hn HGd;simp only [hln];have HLn:=lj hln;clear hln
 go_enter Tryz.func20,Tryz.ntmps20
 go_upto_region 1 with fail
 have hs2:(w.alloc (.cells #[.int .i64 k,.int .i64 x,.int .i64 y,.string (str t)] 38)).heap.size=w.heap.size+1:=by simp
 generalize w.alloc (.cells #[.int .i64 k,.int .i64 x,.int .i64 y,.string (str t)] 38)=w1 at *
 obtain ⟨gm,hgm⟩:∃ gm,w.heap.size=gm:=⟨_,rfl⟩
 rw [hgm] at hs2 HN HB HL;simp only [hgm];have HGm:=lj hgm;have HS2:=lj hs2;clear hs2 hgm;have m0:=HN.out.cell 0 (.int .i64 k) rfl;have m1:=HN.out.cell 1 (.int .i64 x) rfl;have m2:=HN.out.cell 2 (.int .i64 y) rfl;have m3:=HN.out.cell 3 (.string (str t)) rfl
 go_wp2_with fail
 refine (lmright_any k x y (str t) w1).mono ?_;rintro e w2 ⟨rfl,hb2⟩;have HN2:=lj (HN.out.go hb2 (by have:=HS2.out; omega));have HB2:=lj (HB.out.trans (hb2.mono (by have:=HS2.out; omega)));clear hb2 m0 m1 m2 m3;have m0:=HN2.out.cell 0 (.int .i64 k) rfl;have m1:=HN2.out.cell 1 (.int .i64 x) rfl;have m2:=HN2.out.cell 2 (.int .i64 y) rfl;have m3:=HN2.out.cell 3 (.string (str t)) rfl;have HK:=lj (fun h:rt k x y (str t).size=true=>(⟨rt_n h,tx_le k⟩:(str t).size≤tx k∧tx k≤2042));generalize rt k x y (str t).size=r at *;cases r
 ·go_wp2
  go_ret;exact ⟨ret_bool (by rw [HR.out]; rfl),by rw [HGm.out]; exact HB2.out⟩
 have hts:(str t).size≤2042:=by have:=HK.out rfl; omega
 clear HK
 by_cases h4:k≤4
 ·have HF:=lj (show false=q by
   rw [HR.out]
   rcases (run P).en <;> rcases (run P).bg <;> simp [begB] <;> omega)
  go_wp2;go_ret;exact ⟨ret_bool HF.out,by rw [HGm.out]; exact HB2.out⟩
 have h5:5≤k:=by omega
 clear h4
 go_wp2_with fail
 go_loopw [9,10,25] (fun u p i wr=>∃ j:Nat,j≤n∧i = .int .i64 (j:Nat)∧u = .int .i64 ((run (P.take j)).up:Nat)∧p = .int .i64 ((run (P.take j)).gp:Nat)∧(run (P.take j)).en=false∧Bx gm wr #[.int .i64 k,.int .i64 x,.int .i64 y,.string (str t)]∧Below gm w wr) (fun _ _ i _=>n - (intOf i).toNat)
 case atStart=>exact ⟨0,by omega,rfl,rfl,rfl,rfl,HN2.out,HB2.out⟩
 case round =>
  obtain ⟨j,hj,rfl,rfl,rfl,hen,hbx,hb⟩:=hrel;have HEn:=lj hen;have HX:=lj hbx;have HBe:=lj hb;clear hen hbx hb m0 m1 m2 m3 HN2 HB2
  by_cases hlt:j<n
  ·obtain ⟨m,hm⟩:∃ m,P[j]?=some m:=⟨_,List.getElem?_eq_getElem (by have:=HLn.out; omega)⟩
   obtain ⟨b,off,ea,hbB,hc⟩:=(HL.out.below HBe.out).outer (by have:=HLn.out; omega);subst ea;obtain ⟨hc0,hc1,hc2,hc3⟩:=hc j m hm;have hmay:=HGd.out j m hlt hm;have hue:=up_eq hmay;have hsum:=may_sum hmay;have hst:=run_snoc P j m hm;have hup:=up_good (by have:=HLn.out; omega) (good_le HGd.out (Nat.le_of_lt hlt));have hrtA:=rt_a (mayB_iff.1 hmay).1;clear hc;obtain ⟨K,A,B,T⟩:=m;simp only at hc0 hc1 hc2 hc3 hue hsum hrtA
   have hTs:(str T).size≤2042:=by rw [str_size]; exact hsum.1
   have HTs:=lj (str_size T);have HM:=lj hm;have HMay:=lj hmay;have HUe:=lj hue;have HSt:=lj hst;have HUp:=lj hup
   have hgp:(run (P.take j)).gp≤140737488355328:=by have:=hup.2; omega
   have hgp1:(run (P.take (j+1))).gp=if K=7 then (run (P.take j)).gp+1 else (run (P.take j)).gp:=by rw [hst]; rfl
   have hen1:(run (P.take (j+1))).en=(decide (K=12) || decide (K=13)):=by rw [hst]; simp [takeS,HEn.out]
   have hj0:K=5→j=0:=fun h=>take_bg (by have:=HLn.out; omega) (hue.1 h).1
   have HG1:=lj hgp1;have HE1:=lj hen1;have HJ0:=lj hj0;rw [← hst] at hue;have HU1:=lj hue;clear hm hmay hue hst hup hsum hgp1 hen1 hj0;have hgw:=HX.out.room;have HX1:=lj (HX.out.go ((Below.refl wr.heap.size wr).alloc (Nat.le_refl _) (.cells #[.int .i64 K,.int .i64 A,.int .i64 B,.string (str T)] 38)) hgw);have HN1:=lj (Bx.new wr _ rfl #[.int .i64 K,.int .i64 A,.int .i64 B,.string (str T)] 38);have HB1:=lj (HBe.out.alloc (by omega) (.cells #[.int .i64 K,.int .i64 A,.int .i64 B,.string (str T)] 38))
   go_upto_region 8 with fail
   generalize wr.alloc (.cells #[.int .i64 K,.int .i64 A,.int .i64 B,.string (str T)] 38)=w3 at *
   obtain ⟨gn,hgn⟩:∃ gn,wr.heap.size=gn:=⟨_,rfl⟩
   rw [hgn] at HN1;simp only [hgn];clear hgn hgw hc0 hc1 hc2 hc3 HX HBe;have n0:=HN1.out.cell 0 (.int .i64 K) rfl;have n1:=HN1.out.cell 1 (.int .i64 A) rfl;have n2:=HN1.out.cell 2 (.int .i64 B) rfl;have n3:=HN1.out.cell 3 (.string (str T)) rfl
   rcases (show K=5∨K=6∨K=7∨K=12∨K=13∨(K≠5∧K≠6∧K≠7∧K≠12∧K≠13) by omega) with rfl | rfl | rfl | rfl | rfl | ⟨n5,n6,n7,n12,n13⟩
   ·obtain rfl:=HJ0.out rfl
    go_wp2;go_roundw
    case rel=>exact ⟨1,by omega,rfl,by rw [(HU1.out.1 rfl).2],by rw [HG1.out]; rfl,by rw [HE1.out]; rfl,HX1.out,HB1.out⟩
    case measure=>simp [intOf]; omega
   ·go_wp2
    go_roundw
    case rel=>exact ⟨j+1,by omega,by go_num,by rw [HU1.out.2.1 rfl,HTs.out],by rw [HG1.out]; rfl,by rw [HE1.out]; rfl,HX1.out,HB1.out⟩
    case measure=>simp [intOf]; omega
   ·go_wp2
    go_roundw
    case rel=>exact ⟨j+1,by omega,by go_num,by rw [HU1.out.2.2.1 rfl],by rw [HG1.out]; go_num,by rw [HE1.out]; rfl,HX1.out,HB1.out⟩
    case measure=>simp [intOf]; omega
   ·have HF:=lj (show false=q by
     rw [HR.out];have:=en_mono (l:=P) (j:=j+1) (by rw [HE1.out]; rfl) (show j+1≤P.length by have:=HLn.out; omega);rw [List.take_length] at this
     rw [this]; rfl)
    go_wp2;go_ret;exact ⟨ret_bool HF.out,by rw [HGm.out]; exact HB1.out⟩
   ·have HF:=lj (show false=q by
     rw [HR.out];have:=en_mono (l:=P) (j:=j+1) (by rw [HE1.out]; rfl) (show j+1≤P.length by have:=HLn.out; omega);rw [List.take_length] at this
     rw [this]; rfl)
    go_wp2;go_ret;exact ⟨ret_bool HF.out,by rw [HGm.out]; exact HB1.out⟩
   ·have e1:(K == 5)=false:=by simp [n5]
    have e2:(K == 6)=false:=by simp [n6]
    have e3:(K == 7)=false:=by simp [n7]
    have e4:(K == 12)=false:=by simp [n12]
    have e5:(K == 13)=false:=by simp [n13]
    have HF:=lj (show (run (P.take (j+1))).up=(run (P.take j)).up∧(run (P.take (j+1))).gp=(run (P.take j)).gp∧(run (P.take (j+1))).en=false by
     rw [HE1.out,HG1.out]
     exact ⟨by rw [HSt.out]; exact HUe.out.2.2.2 n5 n6 n7,by simp [n7],by simp [n12,n13]⟩)
    clear n5 n6 n7 n12 n13;go_wp2;go_roundw
    case rel=>exact ⟨j+1,by omega,by go_num,by rw [HF.out.1],by rw [HF.out.2.1],HF.out.2.2,HX1.out,HB1.out⟩
    case measure=>simp [intOf]; omega
  ·obtain rfl:j=n:=by omega
   have hP:P.take j=P:=by rw [← HLn.out,List.take_length]
   rw [hP] at HEn;rw [HEn.out] at HR;simp only [hP]
   have hup:(run P).up≤o.length∧(run P).gp≤j:=by
    have:=up_good (show j≤P.length by have:=HLn.out; omega) HGd.out;rw [hP] at this;exact this
   have HUp:=lj hup
   have hgp:(run P).gp≤140737488355328:=by have:=hup.2; omega
   have hul:(run P).up≤1099511627776:=by have:=HO.out; omega
   have HOs:=lj (str_size o);have HTs:=lj (str_size t);have m0:=HX.out.cell 0 (.int .i64 k) rfl;have m1:=HX.out.cell 1 (.int .i64 x) rfl;have m2:=HX.out.cell 2 (.int .i64 y) rfl;have m3:=HX.out.cell 3 (.string (str t)) rfl;clear hup hP hlt hj
   by_cases hk5:k=5
   ·subst hk5
    by_cases hj:j=0
    ·subst hj
     have hPn:P=[]:=List.eq_nil_of_length_eq_zero HLn.out;have HF:=lj (show decide (y≤((str o).size:Nat))=q by rw [HR.out,hPn,HOs.out]; simp [run,st0,begB]);clear hPn;go_wp2;go_ret;exact ⟨ret_bool HF.out,by rw [HGm.out]; exact HBe.out⟩
    ·have HF:=lj (show false=q by
      rw [HR.out,run_bg1 (P:=P) (by intro h; rw [h] at HLn; exact hj HLn.out.symm)]; rfl)
     go_wp2;go_ret;exact ⟨ret_bool HF.out,by rw [HGm.out]; exact HBe.out⟩
   have e5:(k == 5)=false:=by simp [hk5]
   by_cases hj:j=0
   ·subst hj
    have hPn:P=[]:=List.eq_nil_of_length_eq_zero HLn.out;have HF:=lj (show (k == 13)=q by rw [HR.out,hPn]; simp [run,st0,begB,hk5]; rfl);clear hPn hk5;go_wp2;go_ret;exact ⟨ret_bool HF.out,by rw [HGm.out]; exact HBe.out⟩
   have hbg:=run_bg1 (P:=P) (by intro h; rw [h] at HLn; exact hj HLn.out.symm);rw [hbg,if_pos rfl] at HR
   have hk6:¬ k≤5:=by omega
   rw [if_neg hk6] at HR;clear hbg hk5 hk6
   by_cases h6:k=6
   ·subst h6
    have HF:=lj (show q=(decide (x=(run P).up) && (!decide (t=[]) && decide ((o.drop (run P).up).take t.length=t))) by rw [HR.out]; rfl)
    obtain ⟨up,hu⟩:∃ u,(run P).up=u:=⟨_,rfl⟩
    rw [hu] at hul HUp HF;simp only [hu];clear hu HR
    by_cases ha:x=up
    ·have hd1:(x == (up:Nat))=true:=by simp [ha]
     by_cases ht:t=[]
     ·have HF2:=lj (show false=q by rw [HF.out,ht]; simp)
      subst ht
      have hx:(str ([]:Bs)).toList=[]:=by simp [str]
      clear ha
      go_wp2_with fail
      go_quiet (fail)
      go_wp2;go_ret;exact ⟨ret_bool HF2.out,by rw [HGm.out]; exact below_drewN HBe.out _⟩
     have hx:(str t).toList.isEmpty=false:=by
      rcases t with _ | ⟨c,t⟩
      ·exact absurd rfl ht
      ·rw [ByteArray.toList_eq]; rfl
     have HF2:=lj (show q=decide ((o.drop up).take t.length=t) by rw [HF.out]; simp [ha,ht]);clear HF ha ht
     by_cases hl:up+t.length≤o.length
     ·have hcut:(str o).extract up (up+(str t).size)=str ((o.drop up).take t.length):=by rw [HTs.out,s_cut,List.drop_take]; simp
      have hl2:up+(str t).size≤(str o).size:=by rw [HTs.out,HOs.out]; exact hl
      clear hl;have HF3:=lj (show ((str ((o.drop up).take t.length)).toList == (str t).toList)=q by rw [HF2.out,str_beq])
      go_wp2_with fail
      rw [show ((up:Int)+((str t).size:Nat))=((up+(str t).size:Nat):Int) by push_cast; rfl];have hle:up≤up+(str t).size:=Nat.le_add_right _ _;generalize up+(str t).size=E at *
      go_quiet (fail)
      go_wp2;go_ret;exact ⟨ret_bool HF3.out,by rw [HGm.out]; exact below_drewN HBe.out _⟩
     ·have hl2:¬ up+(str t).size≤(str o).size:=by rw [HTs.out,HOs.out]; exact hl
      have HF3:=lj (show false=q by
       rw [HF2.out]
       symm
       simp;intro h;have:=congrArg List.length h;rw [List.length_take,List.length_drop] at this;have:=HUp.out.1
       omega)
      clear hl
      go_wp2_with fail
      rw [show ((up:Int)+((str t).size:Nat))=((up+(str t).size:Nat):Int) by push_cast; rfl];have hle:up≤up+(str t).size:=Nat.le_add_right _ _;generalize up+(str t).size=E at *
      go_quiet (fail)
      go_wp2;go_ret;exact ⟨ret_bool HF3.out,by rw [HGm.out]; exact below_drewN HBe.out _⟩
    ·have hd1:(x == (up:Nat))=false:=by simp [ha]
     have HF2:=lj (show false=q by rw [HF.out]; simp [ha]);clear ha
     go_wp2_with fail
     go_quiet (fail)
     go_wp2;go_ret;exact ⟨ret_bool HF2.out,by rw [HGm.out]; exact below_drewN HBe.out _⟩
   by_cases h7:k=7
   ·subst h7
    have HF:=lj (show q=(decide (x=(run P).up) && (decide (x<y) && (decide (y≤o.length) && decide (((run P).gp:Int)<sk)))) by rw [HR.out]; rfl);rw [← HOs.out] at HF
    obtain ⟨up,hu⟩:∃ u,(run P).up=u:=⟨_,rfl⟩
    rw [hu] at hul HUp HF;simp only [hu]
    obtain ⟨gp,hp⟩:∃ u,(run P).gp=u:=⟨_,rfl⟩
    rw [hp] at hgp HUp HF;simp only [hp];clear hu hp HR
    by_cases ha:x=up
    ·have hd1:(x == (up:Nat))=true:=by simp [ha]
     have HF2:=lj (show (decide (y > (up:Nat)) && (decide (y≤((str o).size:Nat)) && decide ((gp:Int)<sk)))=q by rw [HF.out,ha]; simp);clear HF ha
     obtain ⟨d2,h2⟩:∃ d,decide (y > (up:Nat))=d:=⟨_,rfl⟩
     obtain ⟨d3,h3⟩:∃ d,decide (y≤((str o).size:Nat))=d:=⟨_,rfl⟩
     rw [h2,h3] at HF2;cases d2
     ·go_wp2
      go_ret;exact ⟨ret_bool (by rw [← HF2.out]; rfl),by rw [HGm.out]; exact HBe.out⟩
     cases d3
     ·go_wp2
      go_ret;exact ⟨ret_bool (by rw [← HF2.out]; rfl),by rw [HGm.out]; exact HBe.out⟩
     ·go_wp2
      go_ret;exact ⟨ret_bool (by rw [← HF2.out]; simp),by rw [HGm.out]; exact HBe.out⟩
    ·have hd1:(x == (up:Nat))=false:=by simp [ha]
     have HF2:=lj (show false=q by rw [HF.out]; simp [ha]);clear ha;go_wp2;go_ret;exact ⟨ret_bool HF2.out,by rw [HGm.out]; exact HBe.out⟩
   ·have e6:(k == 6)=false:=by simp [h6]
    have e7:(k == 7)=false:=by simp [h7]
    have HF:=lj (show true=q by rw [HR.out]; simp [h6,h7]);clear h6 h7;go_wp2;go_ret;exact ⟨ret_bool HF.out,by rw [HGm.out]; exact HBe.out⟩
end
section
open Go.RowKit
open Fr Ms Au
set_option maxHeartbeats 1000000 in
theorem lfirst_any {w:World} {a:Option Addr} {L:List M} (h:MsIn w w.heap.size a L) (cap:Nat) (hn:L.length≤140737488355328) (hcap:L.length≤cap) (o:Bs) (ho:o.length≤1099511627776) (sk:Int) :
  Calls Tryz.prog 12 #[.slice a L.length cap,.string (str o),.int .i64 sk] w (FGives o sk L w):=by
 have HL:=lj h;have HO:=lj ho;have HB:=lj (Below.refl w.heap.size w);clear h ho
 obtain ⟨g,hg⟩:∃ g,w.heap.size=g:=⟨_,rfl⟩
 rw [hg] at HL HB;have HBel:=lj hg;clear hg
 obtain ⟨n,hln⟩:∃ n,L.length=n:=⟨_,rfl⟩
 rw [hln] at hn hcap;simp only [hln];have HLn:=lj hln;clear hln
 go_enter Tryz.func12,Tryz.ntmps12
 go_wp2_with fail
 go_loopw [11] (fun i wr=>∃ k:Nat,k≤n∧i = .int .i64 (k:Nat)∧good o sk L k∧Below g w wr) (fun i _=>n - (intOf i).toNat)
 case atStart=>exact ⟨0,by omega,rfl,good_zero _ _ _,HB.out⟩
 case round =>
  obtain ⟨k,hk,rfl,hgood,hb⟩:=hrel;have HG:=lj hgood;have HBe:=lj hb;clear hgood hb HB
  by_cases hlt:k<n
  ·obtain ⟨m,hm⟩:∃ m,L[k]?=some m:=⟨_,List.getElem?_eq_getElem (by have:=HLn.out; omega)⟩
   obtain ⟨b,off,ea,hbB,hc⟩:=(HL.out.below HBe.out).outer (by have:=HLn.out; omega);subst ea;obtain ⟨hc0,hc1,hc2,hc3⟩:=hc k m hm;clear hc;obtain ⟨K,x,y,t⟩:=m;simp only at hc0 hc1 hc2 hc3;have HM:=lj hm;clear hm;have hgw:=HBe.out.size;rw [HBel.out] at hgw;have HN1:=lj (Bx.new wr _ rfl #[.int .i64 K,.int .i64 x,.int .i64 y,.string (str t)] 38);have HB1:=lj (HBe.out.alloc (by omega) (.cells #[.int .i64 K,.int .i64 x,.int .i64 y,.string (str t)] 38))
   go_upto_region 4 with fail
   generalize wr.alloc (.cells #[.int .i64 K,.int .i64 x,.int .i64 y,.string (str t)] 38)=w2 at *
   obtain ⟨gm,hgm⟩:∃ gm,wr.heap.size=gm:=⟨_,rfl⟩
   rw [hgm] at HN1;simp only [hgm];clear hgm hgw hc0 hc1 hc2 hc3;have m0:=HN1.out.cell 0 (.int .i64 K) rfl;have m1:=HN1.out.cell 1 (.int .i64 x) rfl;have m2:=HN1.out.cell 2 (.int .i64 y) rfl;have m3:=HN1.out.cell 3 (.string (str t)) rfl;have hs1:=HN1.out.room;have HLC:=lj (show (L.take k).length=k by rw [List.length_take]; have:=HLn.out; omega)
   have HC:=lj (fun W (hW:Below g w W)=>by
    have:=lmay_any ((HL.out.below hW).take k |> fun h=>(⟨fun hn=>let ⟨b,off,e,hb,hc⟩:=h.outer hn; ⟨b,off,e,by have:=hW.size; rw [HBel.out] at this; omega,hc⟩,h.inner⟩:MsIn W W.heap.size _ (L.take k))) cap (by rw [HLC.out]; omega) o HO.out sk (by
     rw [HLC.out];intro i m hi hm;rw [List.getElem?_take,if_pos hi] at hm;rw [List.take_take,Nat.min_eq_left (Nat.le_of_lt hi)]
     exact HG.out i m hi hm) K x y t
    rw [HLC.out] at this
    exact this)
   obtain ⟨q,hq⟩:∃ q,mayB o sk (run (L.take k)) ⟨K,x,y,t⟩=q:=⟨_,rfl⟩
   rw [hq] at HC;have HQ:=lj hq;have HD:=lj (HC.out w2.drew (show Below g w w2.drew from below_drewN HB1.out 1));clear hq
   go_region_held (fun w'=>w'.cell? ⟨gm,0,none⟩=some (.int .i64 K)∧w'.cell? ⟨gm,1,none⟩=some (.int .i64 x)∧w'.cell? ⟨gm,2,none⟩=some (.int .i64 y)∧w'.cell? ⟨gm,3,none⟩=some (.string (str t)))
    (first | exact ⟨HNa.out.cell 0 _ rfl,HNa.out.cell 1 _ rfl,HNa.out.cell 2 _ rfl,HNa.out.cell 3 _ rfl⟩ | exact ⟨m0,m1,m2,m3⟩)
    (first | (go_at_call 20; refine HD.out.mono ?_; rintro e wa ⟨rfl,hba⟩; have hba:Below w2.heap.size w2.drew wa:=hba; have HBa:=lj (below_back hba); have HNa:=lj (HN1.out.go HBa.out hs1); clear hba) | fail)
   have HBf:=lj (Below.trans HB1.out (HBa.out.mono (by have:=HB1.out.size; rw [HBel.out] at this; exact this)));cases q
   ·go_wp2
    go_ret;exact f_at HM.out HG.out HQ.out (by rw [HBel.out]; exact HBf.out)
   ·go_wp2
    go_roundw
    case rel=>exact ⟨k+1,by omega,by go_num,good_succ HG.out HM.out HQ.out,HBf.out⟩
    case measure=>simp [intOf]; omega
  ·go_wp2
   go_ret;exact f_no (by rw [show L.length=k by have:=HLn.out; omega]; exact HG.out) (by rw [HBel.out]; exact HBe.out)
end
section
open Go.RowKit
open Fr Ms Au
theorem two_msgs (w:World) (m n:M) (hm:m.t.length≤maxLen) (hn:n.t.length≤maxLen) :
  MsIn (w.alloc (.cells #[.int .i64 m.k,.int .i64 m.a,.int .i64 m.b,.string (str m.t),.int .i64 n.k,.int .i64 n.a,.int .i64 n.b,.string (str n.t)] 38)) (w.heap.size+1) (some ⟨w.heap.size,0,none⟩) [m,n]:=by
 refine ⟨fun _=>⟨w.heap.size,0,rfl,by omega,fun r x hr=>?_⟩,fun x hx=>?_⟩
 ·have hB:=Bx.new w _ rfl #[.int .i64 m.k,.int .i64 m.a,.int .i64 m.b,.string (str m.t),.int .i64 n.k,.int .i64 n.a,.int .i64 n.b,.string (str n.t)] 38
  rcases r with _ | _ | r
  ·simp at hr
   subst hr;exact ⟨hB.cell 0 _ rfl,hB.cell 1 _ rfl,hB.cell 2 _ rfl,hB.cell 3 _ rfl⟩
  ·simp at hr
   subst hr;exact ⟨hB.cell 4 _ rfl,hB.cell 5 _ rfl,hB.cell 6 _ rfl,hB.cell 7 _ rfl⟩
  ·simp at hr
 ·simp at hx
  rcases hx with rfl | rfl
  ·exact hm
  ·exact hn
def mW:M:=⟨5,1,0,[111#8,119#8,110#8,101#8,114#8]⟩
def mD:M:=⟨6,1,0,[98#8]⟩
def mE:M:=⟨6,0,0,[97#8,98#8]⟩
def oAbc:Bs:=[97#8,98#8,99#8]
theorem wd_first:IsFirst oAbc 0 [mW,mD] 1:=by
 refine .inl ⟨1,mD,rfl,rfl,?_,by decide⟩;intro j m hj hm
 obtain rfl:j=0:=by omega
 simp at hm;subst hm
 decide
theorem we_first:IsFirst oAbc 0 [mW,mE] (-1):=by
 refine .inr ⟨rfl,?_⟩;intro j m hj hm
 rcases j with _ | _ | j
 ·simp at hm
  subst hm
  decide
 ·simp at hm
  subst hm
  decide
 ·exact absurd hj (by simp)
theorem ex_any (w:World) (m n:M) (hm:m.t.length≤maxLen) (hn:n.t.length≤maxLen) (r:Int) (hF:IsFirst oAbc 0 [m,n] r) :
  Calls Tryz.prog 11 #[.slice (some ⟨w.heap.size,0,none⟩) 2 2,.string ⟨#[97,98,99]⟩,.int .i64 0]
   (w.alloc (.cells #[.int .i64 m.k,.int .i64 m.a,.int .i64 m.b,.string (str m.t),.int .i64 n.k,.int .i64 n.a,.int .i64 n.b,.string (str n.t)] 38)) fun e w'=>e = .returned (.int .i64 r)∧Below w.heap.size w w':=by
 have h:=two_msgs w m n hm hn;have hb:=(Below.refl w.heap.size w).alloc (Nat.le_refl _) (.cells #[.int .i64 m.k,.int .i64 m.a,.int .i64 m.b,.string (str m.t),.int .i64 n.k,.int .i64 n.a,.int .i64 n.b,.string (str n.t)] 38)
 have hs:(w.alloc (.cells #[.int .i64 m.k,.int .i64 m.a,.int .i64 m.b,.string (str m.t),.int .i64 n.k,.int .i64 n.a,.int .i64 n.b,.string (str n.t)] 38)).heap.size=w.heap.size+1:=by simp
 generalize w.alloc (.cells #[.int .i64 m.k,.int .i64 m.a,.int .i64 m.b,.string (str m.t),.int .i64 n.k,.int .i64 n.a,.int .i64 n.b,.string (str n.t)] 38)=W at *;rw [← hs] at h;refine (first_any h 2 (by simp) oAbc (by decide) 0).mono ?_;rintro e w' ⟨q,rfl,hq,hb2⟩;exact ⟨by rw [isFirst_one hq hF],hb.trans (hb2.mono (by omega))⟩
theorem lhd_any (w:World):Calls Tryz.prog 6 #[] w fun e w'=>e = .returned (.bool true)∧Below w.heap.size w w':=by
 go_enter Tryz.func6,Tryz.ntmps6
 go_upto_region 4 with fail
 have eW:str mW.t=⟨#[111,119,110,101,114]⟩:=rfl;have eD:str mD.t=⟨#[98]⟩:=rfl;have eE:str mE.t=⟨#[97,98]⟩:=rfl;have eO:str oAbc=⟨#[97,98,99]⟩:=rfl;rw [← eW,← eD,← eE];have HEO:=lj eO;clear eW eD eE eO;have b1:=(Below.refl w.heap.size w).alloc (Nat.le_refl _) (.cells #[.int .i64 5,.int .i64 1,.int .i64 0,.string (str mW.t)] 38);have x1:=Bx.new w _ rfl #[.int .i64 5,.int .i64 1,.int .i64 0,.string (str mW.t)] 38
 have s1:(w.alloc (.cells #[.int .i64 5,.int .i64 1,.int .i64 0,.string (str mW.t)] 38)).heap.size=w.heap.size+1:=by simp
 generalize w.alloc (.cells #[.int .i64 5,.int .i64 1,.int .i64 0,.string (str mW.t)] 38)=w1 at *;rw [← s1];have b2:=b1.alloc b1.size (.cells #[.int .i64 6,.int .i64 1,.int .i64 0,.string (str mD.t)] 38);have x2:=Bx.new w1 _ rfl #[.int .i64 6,.int .i64 1,.int .i64 0,.string (str mD.t)] 38;have x12:=x1.go ((Below.refl w1.heap.size w1).alloc (Nat.le_refl _) (.cells #[.int .i64 6,.int .i64 1,.int .i64 0,.string (str mD.t)] 38)) (by omega)
 have s2:(w1.alloc (.cells #[.int .i64 6,.int .i64 1,.int .i64 0,.string (str mD.t)] 38)).heap.size=w1.heap.size+1:=by simp
 generalize w1.alloc (.cells #[.int .i64 6,.int .i64 1,.int .i64 0,.string (str mD.t)] 38)=w2 at *;rw [← s2];have b3:=b2.alloc b2.size (.cells #[.int .i64 6,.int .i64 0,.int .i64 0,.string (str mE.t)] 38);have x3:=Bx.new w2 _ rfl #[.int .i64 6,.int .i64 0,.int .i64 0,.string (str mE.t)] 38;have x13:=x12.go ((Below.refl w2.heap.size w2).alloc (Nat.le_refl _) (.cells #[.int .i64 6,.int .i64 0,.int .i64 0,.string (str mE.t)] 38)) (by omega);have x23:=x2.go ((Below.refl w2.heap.size w2).alloc (Nat.le_refl _) (.cells #[.int .i64 6,.int .i64 0,.int .i64 0,.string (str mE.t)] 38)) (by omega)
 have s3:(w2.alloc (.cells #[.int .i64 6,.int .i64 0,.int .i64 0,.string (str mE.t)] 38)).heap.size=w2.heap.size+1:=by simp
 generalize w2.alloc (.cells #[.int .i64 6,.int .i64 0,.int .i64 0,.string (str mE.t)] 38)=w3 at *;have HX1:=lj x13;have HX2:=lj x23;have HX3:=lj x3;have HB3:=lj b3;have HS:=lj (show w.heap.size+3=w3.heap.size by omega);have HS2:=lj (show w1.heap.size<w3.heap.size∧w2.heap.size<w3.heap.size by omega);clear b1 b2 b3 x1 x2 x3 x12 x13 x23 s1 s2 s3;generalize w1.heap.size=g1 at *;generalize w2.heap.size=g2 at *
 obtain ⟨g0,hg0⟩:∃ g0,w.heap.size=g0:=⟨_,rfl⟩
 rw [hg0] at HX1 HB3 HS;simp only [hg0];have HG0:=lj hg0;clear hg0;have k0:=HX1.out.cell 0 _ rfl;have k1:=HX1.out.cell 1 _ rfl;have k2:=HX1.out.cell 2 _ rfl;have k3:=HX1.out.cell 3 _ rfl;have l0:=HX2.out.cell 0 _ rfl;have l1:=HX2.out.cell 1 _ rfl;have l2:=HX2.out.cell 2 _ rfl;have l3:=HX2.out.cell 3 _ rfl;simp at k0 k1 k2 k3 l0 l1 l2 l3;have j0:=HX3.out.cell 0 _ rfl;have j1:=HX3.out.cell 1 _ rfl;have j2:=HX3.out.cell 2 _ rfl;have j3:=HX3.out.cell 3 _ rfl;simp at j0 j1 j2 j3;clear HEO
 go_wp2_with fail
 refine (ex_any w3 mW mD (by decide) (by decide) 1 wd_first).mono ?_;rintro e w4 ⟨rfl,hb4⟩;have HX1b:=lj (HX1.out.go hb4 (by have:=HS.out; omega));have HX3b:=lj (HX3.out.go hb4 (by have:=HS2.out; omega));have HB4:=lj (HB3.out.trans (hb4.mono (by have:=HS.out; omega)));clear hb4 k0 k1 k2 k3 j0 j1 j2 j3 l0 l1 l2 l3;have k0:=HX1b.out.cell 0 _ rfl;have k1:=HX1b.out.cell 1 _ rfl;have k2:=HX1b.out.cell 2 _ rfl;have k3:=HX1b.out.cell 3 _ rfl;have j0:=HX3b.out.cell 0 _ rfl;have j1:=HX3b.out.cell 1 _ rfl;have j2:=HX3b.out.cell 2 _ rfl;have j3:=HX3b.out.cell 3 _ rfl;simp at k0 k1 k2 k3 j0 j1 j2 j3
 go_wp2_with fail
 refine (ex_any w4 mW mE (by decide) (by decide) (-1) we_first).mono ?_;rintro e w5 ⟨rfl,hb5⟩;have HB5:=lj (HB4.out.trans (hb5.mono (by have:=HB4.out.size; rw [HG0.out] at this; exact this)));clear hb5;go_wp2;go_ret;exact ⟨rfl,by rw [HG0.out]; exact HB5.out⟩
end
end Go.Proofs.YtdpagmcickkbmaaGreatDoor
