/- PAuf -/
import Derived.Deep.CutBlock
import Derived.Test.YtalichkdeekdcaaGreatDoorZd16
import Derived.Test.YtalichkdeekdcaaGreatDoorZd23
namespace Go.Proofs.YtalichkdeekdcaaGreatDoor
set_option maxRecDepth 100000
open Go.Lib renaming hid → lj
section
open Go.RowKit
open Fr Ms Au
structure MsIn (w:World) (B:Nat) (a:Option Addr) (L:List M):Prop where
 outer:0<L.length→∃ b off,a=some ⟨b,off,none⟩∧b<B∧∀ r m,L[r]?=some m→w.cell? ⟨b,off+r * 4,none⟩=some (.int .i64 m.k)∧w.cell? ⟨b,off+r * 4+1,none⟩=some (.int .i64 m.a)∧w.cell? ⟨b,off+r * 4+2,none⟩=some (.int .i64 m.b)∧w.cell? ⟨b,off+r * 4+3,none⟩=some (.string (str m.t))
 inner:∀ m∈L,m.t.length≤maxLen
theorem MsIn.below {w w':World} {B:Nat} {a:Option Addr} {L:List M} (h:MsIn w B a L) (hb:Below B w w'):MsIn w' B a L:=
  ⟨fun hn=>by
    obtain ⟨b,off,e,hlt,hc⟩:=h.outer hn
    exact ⟨b,off,e,hlt,fun r m hr=>⟨(hb.cell (p:=⟨b,off+r * 4,none⟩) hlt).trans (hc r m hr).1,(hb.cell (p:=⟨b,off+r * 4+1,none⟩) hlt).trans (hc r m hr).2.1,(hb.cell (p:=⟨b,off+r * 4+2,none⟩) hlt).trans (hc r m hr).2.2.1,(hb.cell (p:=⟨b,off+r * 4+3,none⟩) hlt).trans (hc r m hr).2.2.2⟩⟩,
   h.inner⟩
def FGives (o:Bs) (sk:Int) (L:List M) (w:World) (e:Ending) (w':World):Prop:=∃ r:Int,e = .returned (.int .i64 r)∧IsFirst o sk L r∧Below w.heap.size w w'
theorem f_at {o:Bs} {sk:Int} {L:List M} {w w':World} {k:Nat} {m:M} (hm:L[k]?=some m) (hg:good o sk L k) (hf:mayB o sk (run (L.take k)) m=false) (hb:Below w.heap.size w w'):FGives o sk L w (.returned (.int .i64 (k:Nat))) w':=
 ⟨_,rfl,.inl ⟨k,m,hm,rfl,hg,hf⟩,hb⟩
theorem f_no {o:Bs} {sk:Int} {L:List M} {w w':World} (hg:good o sk L L.length) (hb:Below w.heap.size w w'):FGives o sk L w (.returned (.int .i64 (-1))) w':=⟨_,rfl,.inr ⟨rfl,hg⟩,hb⟩
theorem may_sum {o:Bs} {sk:Int} {s:St} {m:M} (h:mayB o sk s m=true):m.t.length≤2042∧0≤m.b:=by
 have hk:=(mayB_iff.1 h).1;exact ⟨Nat.le_trans (rt_n hk) (tx_le _),(rt_b hk).1⟩
set_option maxHeartbeats 1000000 in
theorem first_any {w:World} {a:Option Addr} {L:List M} (h:MsIn w w.heap.size a L) (cap:Nat) (hn:L.length≤140737488355328) (o:Bs) (ho:o.length≤1099511627776) (sk:Int) :
  Calls Tryz.prog 19 #[.slice a L.length cap,.string (str o),.int .i64 sk] w (FGives o sk L w):=by
 have HL:=lj h;have HBx:=lj (show Bx w.heap.size (w.alloc (.cells #[.string (str o),.int .i64 sk,.bool false,.bool false,.int .i64 0,.int .i64 0] 87)) (asv o sk st0) from Bx.new w _ rfl _ _);have HB:=lj ((Below.refl w.heap.size w).alloc (Nat.le_refl _) (.cells #[.string (str o),.int .i64 sk,.bool false,.bool false,.int .i64 0,.int .i64 0] 87));have HO:=lj ho;clear h ho
 go_enter Tryz.func19,Tryz.ntmps19
 go_upto_region 2 with fail
 generalize w.alloc (.cells #[.string (str o),.int .i64 sk,.bool false,.bool false,.int .i64 0,.int .i64 0] 87)=w1 at *
 obtain ⟨g,hg⟩:∃ g,w.heap.size=g:=⟨_,rfl⟩
 rw [hg] at HBx HL HB;simp only [hg];have HBel:=lj hg;clear hg
 obtain ⟨n,hln⟩:∃ n,L.length=n:=⟨_,rfl⟩
 rw [hln] at hn;simp only [hln];have HLn:=lj hln;clear hln
 go_wp2_with fail
 go_loopw [15] (fun i wr=>∃ k:Nat,k≤n∧i = .int .i64 (k:Nat)∧good o sk L k∧Bx g wr (asv o sk (run (L.take k)))∧Below g w wr) (fun i _=>n - (intOf i).toNat)
 case atStart=>exact ⟨0,by omega,rfl,good_zero _ _ _,HBx.out,HB.out⟩
 case round =>
  obtain ⟨k,hk,rfl,hgood,hbx,hb⟩:=hrel;have HG:=lj hgood;have HX:=lj hbx;have HBe:=lj hb;clear hgood hbx hb HBx HB
  by_cases hlt:k<n
  ·obtain ⟨m,hm⟩:∃ m,L[k]?=some m:=⟨_,List.getElem?_eq_getElem (by have:=HLn.out; omega)⟩
   obtain ⟨b,off,ea,hbB,hc⟩:=(HL.out.below HBe.out).outer (by have:=HLn.out; omega);subst ea;obtain ⟨hc0,hc1,hc2,hc3⟩:=hc k m hm;clear hc;obtain ⟨K,x,y,t⟩:=m;simp only at hc0 hc1 hc2 hc3;have HM:=lj hm;clear hm;have HUp:=lj (up_good (by have:=HLn.out; omega) HG.out)
   go_upto_region 5 with fail
   have hgw:=HX.out.room;have HX1:=lj (HX.out.go ((Below.refl wr.heap.size wr).alloc (Nat.le_refl _) (.cells #[.int .i64 K,.int .i64 x,.int .i64 y,.string (str t)] 42)) hgw);have HN1:=lj (Bx.new wr _ rfl #[.int .i64 K,.int .i64 x,.int .i64 y,.string (str t)] 42);have HB1:=lj (HBe.out.alloc (by omega) (.cells #[.int .i64 K,.int .i64 x,.int .i64 y,.string (str t)] 42))
   have hs1:(wr.alloc (.cells #[.int .i64 K,.int .i64 x,.int .i64 y,.string (str t)] 42)).heap.size=wr.heap.size+1:=by simp
   generalize wr.alloc (.cells #[.int .i64 K,.int .i64 x,.int .i64 y,.string (str t)] 42)=w2 at *
   obtain ⟨gm,hgm⟩:∃ gm,wr.heap.size=gm:=⟨_,rfl⟩
   rw [hgm] at hs1 hgw HN1;simp only [hgm];clear hgm hc0 hc1 hc2 hc3 HX;have HS1:=lj hs1;clear hs1;have m0:=HN1.out.cell 0 (.int .i64 K) rfl;have m1:=HN1.out.cell 1 (.int .i64 x) rfl;have m2:=HN1.out.cell 2 (.int .i64 y) rfl;have m3:=HN1.out.cell 3 (.string (str t)) rfl
   go_wp2_with fail
   refine (amay_any HX1.out HUp.out.1 K x y t).mono ?_;rintro e w3 ⟨rfl,hb3⟩;have HX3:=lj (HX1.out.go hb3 (by have:=HS1.out; omega));have HN3:=lj (HN1.out.go hb3 (by have:=HS1.out; omega));have HB3:=lj (HB1.out.trans (hb3.mono (by have:=HS1.out; omega)));clear hb3 m0 m1 m2 m3;have m0:=HN3.out.cell 0 (.int .i64 K) rfl;have m1:=HN3.out.cell 1 (.int .i64 x) rfl;have m2:=HN3.out.cell 2 (.int .i64 y) rfl;have m3:=HN3.out.cell 3 (.string (str t)) rfl
   obtain ⟨q,hq⟩:∃ q,mayB o sk (run (L.take k)) ⟨K,x,y,t⟩=q:=⟨_,rfl⟩
   simp only [hq];cases q
   ·have HQ:=lj hq
    clear hq;go_wp2;go_ret;exact f_at HM.out HG.out HQ.out (by rw [HBel.out]; exact HB3.out)
   ·have HQ:=lj hq
    clear hq
    go_wp2_with fail
    refine (take_any HX3.out K x y t (may_sum HQ.out).2 (by have:=(may_sum HQ.out).1; have:=HUp.out.1; have:=HO.out; simp at *; omega) (by have:=HUp.out.2; omega)).mono ?_;rintro e w4 ⟨rfl,hx4,ho4⟩;have HX4:=lj hx4;have HB4:=lj (HB3.out.trans (ho4.below (by have:=HB3.out.size; have:=HX3.out.room; omega) (fun j hj=>by omega)));clear hx4 ho4
    go_wp2_with fail
    go_roundw
    case rel=>exact ⟨k+1,by omega,by go_num,good_succ HG.out HM.out HQ.out,by rw [run_snoc L k _ HM.out]; exact HX4.out,HB4.out⟩
    case measure=>simp [intOf]; omega
  ·go_wp2
   go_ret;exact f_no (by rw [show L.length=k by have:=HLn.out; omega]; exact HG.out) (by rw [HBel.out]; exact HBe.out)
end
end Go.Proofs.YtalichkdeekdcaaGreatDoor
