/- POrs POri -/
import Derived.Deep.RegionHeld
import Derived.Test.YtdpagmcickkbmaaGreatDoorZd36
namespace Go.Proofs.YtdpagmcickkbmaaGreatDoor
set_option maxRecDepth 100000
open Go.Lib renaming hid → lj
section
open Go.RowKit
open Dgs Orm
def PG (w:World) (s:Bs) (e:Ending) (w':World):Prop:=
 Below w.heap.size w w'∧((∃ k n,Is s k n∧e = .returned (.tuple #[.agg #[.int .i64 k,.int .i64 n],.int .i64 0]))∨((∀ k n,¬ Is s k n)∧e = .returned (.tuple #[.agg #[.int .i64 0,.int .i64 0],.int .i64 8])))
def rtB (k n:Int):Bool:=decide (Rt k n)
theorem rtB_yes {k n:Int} (h:Rt k n):rtB k n=true:=by unfold rtB; simp [h]
theorem rtB_no {k n:Int} (h:¬ Rt k n):rtB k n=false:=by unfold rtB; simp [h]
def RightGives (w:World) (b:Bool) (e:Ending) (w':World):Prop:=e = .returned (.bool b)∧Below w.heap.size w w'
theorem obox (w:World) (k n:Int):Below w.heap.size w (w.alloc (.cells #[.int .i64 k,.int .i64 n] 182)):=(Below.refl _ _).alloc (Nat.le_refl _) _
theorem oright_lo (k n:Int) (w:World) (h:k<1):Calls Tryz.prog 153 #[.agg #[.int .i64 k,.int .i64 n]] w (RightGives w false):=by
 have hb:=lj (obox w k n)
 go_enter Tryz.func153,Tryz.ntmps153
 go_wp2_with fail
 refine (kright_any k false (by simp <;> omega) _).mono ?_;rintro e w1 ⟨rfl,rfl⟩;go_wp2;go_ret;exact ⟨by simp,hb.out⟩
theorem oright_hi (k n:Int) (w:World) (h1:11<k):Calls Tryz.prog 153 #[.agg #[.int .i64 k,.int .i64 n]] w (RightGives w false):=by
 have hb:=lj (obox w k n)
 go_enter Tryz.func153,Tryz.ntmps153
 go_wp2_with fail
 refine (kright_any k false (by simp <;> omega) _).mono ?_;rintro e w1 ⟨rfl,rfl⟩;go_wp2;go_ret;exact ⟨by simp,hb.out⟩
theorem oright_z (k n:Int) (w:World) (h0:1≤k) (h1:k≤5) (h2:n=0):Calls Tryz.prog 153 #[.agg #[.int .i64 k,.int .i64 n]] w (RightGives w true):=by
 subst h2;have hb:=lj (obox w k 0)
 go_enter Tryz.func153,Tryz.ntmps153
 go_wp2_with fail
 refine (kright_any k true (by simp <;> omega) _).mono ?_;rintro e w1 ⟨rfl,rfl⟩
 go_wp2_with fail
 refine (khas_any k false (by simp <;> omega) _).mono ?_;rintro e w1 ⟨rfl,rfl⟩;go_wp2;go_ret;exact ⟨by simp <;> omega,hb.out⟩
theorem oright_nz (k n:Int) (w:World) (h0:1≤k) (h1:k≤5) (h2:(n == 0)=false):Calls Tryz.prog 153 #[.agg #[.int .i64 k,.int .i64 n]] w (RightGives w false):=by
 have hb:=lj (obox w k n)
 go_enter Tryz.func153,Tryz.ntmps153
 go_wp2_with fail
 refine (kright_any k true (by simp <;> omega) _).mono ?_;rintro e w1 ⟨rfl,rfl⟩
 go_wp2_with fail
 refine (khas_any k false (by simp <;> omega) _).mono ?_;rintro e w1 ⟨rfl,rfl⟩;go_wp2;go_ret;exact ⟨by simp <;> omega,hb.out⟩
theorem oright_neg (k n:Int) (w:World) (h0:6≤k) (h1:k≤11) (h2:n<0):Calls Tryz.prog 153 #[.agg #[.int .i64 k,.int .i64 n]] w (RightGives w false):=by
 have hb:=lj (obox w k n)
 go_enter Tryz.func153,Tryz.ntmps153
 go_wp2_with fail
 refine (kright_any k true (by simp <;> omega) _).mono ?_;rintro e w1 ⟨rfl,rfl⟩
 go_wp2_with fail
 refine (khas_any k true (by simp <;> omega) _).mono ?_;rintro e w1 ⟨rfl,rfl⟩;go_wp2;go_ret;exact ⟨by simp <;> omega,hb.out⟩
theorem oright_big (k n:Int) (w:World) (h0:6≤k) (h1:k≤11) (h2:0≤n) (h3:1099511627776<n):Calls Tryz.prog 153 #[.agg #[.int .i64 k,.int .i64 n]] w (RightGives w false):=by
 have hb:=lj (obox w k n)
 go_enter Tryz.func153,Tryz.ntmps153
 go_wp2_with fail
 refine (kright_any k true (by simp <;> omega) _).mono ?_;rintro e w1 ⟨rfl,rfl⟩
 go_wp2_with fail
 refine (khas_any k true (by simp <;> omega) _).mono ?_;rintro e w1 ⟨rfl,rfl⟩;go_wp2;go_ret;exact ⟨by simp <;> omega,hb.out⟩
theorem oright_ok (k n:Int) (w:World) (h0:6≤k) (h1:k≤11) (h2:0≤n) (h3:n≤1099511627776):Calls Tryz.prog 153 #[.agg #[.int .i64 k,.int .i64 n]] w (RightGives w true):=by
 have hb:=lj (obox w k n)
 go_enter Tryz.func153,Tryz.ntmps153
 go_wp2_with fail
 refine (kright_any k true (by simp <;> omega) _).mono ?_;rintro e w1 ⟨rfl,rfl⟩
 go_wp2_with fail
 refine (khas_any k true (by simp <;> omega) _).mono ?_;rintro e w1 ⟨rfl,rfl⟩;go_wp2;go_ret;exact ⟨by simp <;> omega,hb.out⟩
theorem oright_any (k n:Int) (w:World):Calls Tryz.prog 153 #[.agg #[.int .i64 k,.int .i64 n]] w fun e w'=>e = .returned (.bool (rtB k n))∧Below w.heap.size w w':=by
  rcases Int.lt_or_le k 1 with h1 | h1
  · rw [rtB_no fun r=>by have:=r.k0; omega]
    exact oright_lo k n w h1
  rcases Int.lt_or_le 11 k with h2 | h2
  · rw [rtB_no fun r=>by have:=r.k1; omega]
    exact oright_hi k n w h2
  rcases Int.lt_or_le 5 k with h5 | h5
  · rcases Int.lt_or_le n 0 with h3 | h3
    · rw [rtB_no fun r=>by have:=r.n0; omega]
      exact oright_neg k n w (by omega) h2 h3
    · rcases Int.lt_or_le 1099511627776 n with h4 | h4
      · rw [rtB_no fun r=>by have:=r.n1; omega]
        exact oright_big k n w (by omega) h2 h3 h4
      · rw [rtB_yes ⟨h1,h2,h3,h4,fun h=>by omega⟩]
        exact oright_ok k n w (by omega) h2 h3 h4
  · by_cases hn:n=0
    · rw [rtB_yes ⟨h1,h2,by omega,by omega,fun _=>hn⟩]
      exact oright_z k n w h1 h5 hn
    · rw [rtB_no fun r=>hn (r.z h5)]
      exact oright_nz k n w h1 h5 (by simp [hn])
theorem ostring_any (k n:Int) (w:World) (ht:TI w):Calls Tryz.prog 154 #[.agg #[.int .i64 k,.int .i64 n]] w (TextGives w (text k n)):=by
 have hbox:=lj (obox w k n)
 by_cases hr:Rt k n
 ·obtain ⟨j,rfl⟩:∃ j:Nat,k=j:=⟨k.toNat,by have:=hr.k0; omega⟩
  have h0:=hr.k0;have h1:=hr.k1;have n0:=hr.n0;have n1:=hr.n1;have hR:=lj (fun W=>oright_any (j:Int) n W);have HRT:=lj (rtB_yes hr);have HTX:=lj (text_of hr);have hz:=hr.z;have HT:=lj ht;have hx:Bx w.heap.size (w.alloc (.cells #[.int .i64 j,.int .i64 n] 182)) #[.int .i64 j,.int .i64 n]:=Bx.new w _ rfl _ _;have HX:=lj hx;clear hr ht hx
  by_cases h5:(j:Int)≤5
  ·have hs:tx j n=wd j:=tx_word (k:=j) (by omega)
   have HS:=lj hs;clear hs hz
   go_enter Tryz.func154,Tryz.ntmps154
   go_wp2_with fail
   refine (hR.out _).mono ?_;rintro e w1 ⟨rfl,hb1⟩;rw [HRT.out];have HB:=lj (Below.trans hbox.out (hb1.mono hbox.out.size));have hx1:=HX.out.go hb1 HX.out.room;have HX1:=lj hx1;have c0:w1.cell? ⟨w.heap.size,0,none⟩=some (.int .i64 j):=hx1.cell 0 _ rfl;have hw:w1.cell? ⟨1,j,none⟩=some (.string (str (wd j))):=(HT.out.below HB.out).words j (by omega);clear hb1 hx1
   go_wp2_with fail
   refine (khas_any (j:Int) false (by simp <;> omega) _).mono ?_;rintro e w2 ⟨rfl,rfl⟩;go_wp2;go_ret;exact ⟨by rw [HTX.out,HS.out]; rfl,HB.out⟩
  ·have hs:str (tx j n)=str (wd j) ++ ⟨#[32]⟩ ++ str (dgs n.toNat):=by
    rw [show tx j n=wd j ++ [32#8] ++ dgs n.toNat from tx_pre (k:=j) (by omega),str_app,str_app];rfl
   have HS:=lj hs;have hl:=str_size (dgs n.toNat);have hl2:=dgs_len n.toNat 12 (by omega);have hl3:=str_size (wd j);have hl4:=wd_len j;clear hs hz
   go_enter Tryz.func154,Tryz.ntmps154
   go_wp2_with fail
   refine (hR.out _).mono ?_;rintro e w1 ⟨rfl,hb1⟩;rw [HRT.out];have HB:=lj (Below.trans hbox.out (hb1.mono hbox.out.size));have hx1:=HX.out.go hb1 HX.out.room;have HX1:=lj hx1;have c0:w1.cell? ⟨w.heap.size,0,none⟩=some (.int .i64 j):=hx1.cell 0 _ rfl;have c1:w1.cell? ⟨w.heap.size,1,none⟩=some (.int .i64 n):=hx1.cell 1 _ rfl;have hw:w1.cell? ⟨1,j,none⟩=some (.string (str (wd j))):=(HT.out.below HB.out).words j (by omega);have HT1:=lj (HT.out.below HB.out);clear hb1 hx1
   go_wp2_with fail
   refine (khas_any (j:Int) true (by simp <;> omega) _).mono ?_;rintro e w2 ⟨rfl,rfl⟩
   go_upto_region 5 with fail
   have hf:=fmt_any n n0 (by omega) w1.drew (HT1.out.below (below_drew (Below.refl _ _)));have HF:=lj hf;have HTW:=lj (fun W (hb:Below w1.heap.size w1 W)=>(HT1.out.below hb).words j (by omega));rw [hl3.symm] at hl4;rw [hl.symm] at hl2;clear hl hl3 hf;generalize str (dgs n.toNat)=d at *;generalize str (wd j)=x at *
   have q1:¬ (9223372036854775807<x.size+1):=by omega
   have q2:¬ (9223372036854775807<x.size+1+d.size):=by omega
   go_region_held (fun w'=>w'.cell? ⟨w.heap.size,0,none⟩=some (.int .i64 j)∧w'.cell? ⟨w.heap.size,1,none⟩=some (.int .i64 n)∧w'.cell? ⟨1,j,none⟩=some (.string x))
    (first | exact ⟨HXa.out.cell 0 _ rfl,HXa.out.cell 1 _ rfl,HWa.out⟩ | exact ⟨c0,c1,hw⟩)
    (first
     | (go_at_call 172; refine HF.out.mono ?_; rintro e wa ⟨rfl,hba⟩; have hba:Below w1.heap.size w1.drew wa:=hba; have HXa:=lj (HX1.out.go (below_back hba) HX1.out.room); have HWa:=lj (HTW.out wa (below_back hba)); have HBa:=lj (Below.trans HB.out ((below_back hba).mono HB.out.size)); clear hba)
     | fail)
   all_goals
    rename_i hh
    clear hh;go_wp2;go_ret;exact ⟨by rw [HTX.out,HS.out]; rfl,HBa.out⟩
 ·have HR:=lj (fun W=>oright_any k n W)
  have HRT:=lj (rtB_no hr);have HTX:=lj (text_none hr);clear hr ht
  go_enter Tryz.func154,Tryz.ntmps154
  go_wp2_with fail
  refine (HR.out _).mono ?_;rintro e w1 ⟨rfl,hb1⟩;rw [HRT.out];have HB:=lj (Below.trans hbox.out (hb1.mono hbox.out.size));clear hb1;go_wp2;go_ret;exact ⟨by rw [HTX.out]; rfl,HB.out⟩
end
section
open Go.RowKit
open Dgs Orm
theorem only_kn {s:Bs} {k:Nat} {n:Int} (hk:(1≤k∧k≤11∧wd k=word s)∨(k=0∧∀ j,1≤j→j≤11→wd j≠word s)) (h5:k<6→n=0) (h6:6≤k→∀ u:Nat,u≤1099511627776→rest s=dgs u→n=u) :
  ∀ j m:Int,Is s j m→j=k∧m=n:=by
 intro j m h;have hw:=h.word;have j0:=h.1.k0;have j1:=h.1.k1
 rcases hk with ⟨k0,k1,e⟩ | ⟨_,e⟩
 ·have hj:=wd_inj _ _ k0 k1 (by omega) (by omega) (e.trans hw)
  have hjk:j=k:=by omega
  refine ⟨hjk,?_⟩;subst hjk
  by_cases hk:k<6
  ·rw [h5 hk]
   exact h.1.z (by omega)
  ·have hs:=h.2
   rw [tx_pre (k:=k) (by omega)] at hs
   have hr:rest s=dgs m.toNat:=by
    unfold rest;rw [← e,← hs];unfold pre;rw [List.append_assoc,List.drop_append,List.drop_eq_nil_of_le (by omega)];simp
   have:=h6 (by omega) m.toNat (by have:=h.1.n1; have:=h.1.n0; omega) hr;have:=h.1.n0;omega
 ·exact absurd hw.symm (e j.toNat (by omega) (by omega))
set_option maxHeartbeats 1000000 in
theorem oparse_any (s:Bs) (w:World) (ht:TI w) (hl:s.length≤100):Calls Tryz.prog 128 #[.string (str s)] w (PG w s):=by
 have HT:=lj ht;have hbl:=lj (obox w 0 0);have hx0:Bx w.heap.size (w.alloc (.cells #[.int .i64 0,.int .i64 0] 182)) #[.int .i64 0,.int .i64 0]:=Bx.new w _ rfl _ _;have HX0:=lj hx0;clear ht hx0
 go_enter Tryz.func128,Tryz.ntmps128
 go_wp2_with fail
 refine (cut_any s _ (by omega)).mono ?_;rintro e w1 ⟨f,rfl,m,rfl⟩;have HX1:=lj (HX0.out.drewN m);have HB1:=lj (below_drewN hbl.out m);clear HX0 hbl;generalize (w.alloc (.cells #[.int .i64 0,.int .i64 0] 182)).drewN m=W at *
 go_wp2_with fail
 refine (kof_any (word s) W (HT.out.below HB1.out)).mono ?_;rintro e w1 ⟨rfl,k,rfl,hk⟩;have HK:=lj hk;clear hk
 have hk1:k≤11:=by rcases HK.out with ⟨_,h,_⟩ | ⟨h,_⟩ <;> omega
 have ho:=obox W k 0;have Z0:=lj (HX1.out.go ho HX1.out.room);have Z1:=lj (Bx.new W _ rfl #[.int .i64 k,.int .i64 0] 182);have ZB:=lj (Below.trans HB1.out (ho.mono HB1.out.size));have c0:=Z1.out.cell 0 _ rfl;have c1:=Z1.out.cell 1 _ rfl
 have hsz:w.heap.size<W.heap.size:=by have:=HX1.out.room; omega
 clear ho
 go_upto_region 3 with fail
 clear HX1 HB1;generalize W.alloc (.cells #[.int .i64 k,.int .i64 0] 182)=W2 at *;generalize W.heap.size=g1 at *
 by_cases h6:k<6
 ·have HO:=lj (only_kn (n:=0) HK.out (fun _=>rfl) (fun h=>absurd h (by omega)))
  go_wp2_with fail
  refine (khas_any (k:Int) false (by simp <;> omega) _).mono ?_;rintro e w2 ⟨rfl,rfl⟩
  by_cases hr:Rt (k:Int) (0)
  ·have HRT:=lj (rtB_yes hr)
   have HTX:=lj (text_of hr);have HR:=lj hr;have hlen:=tx_len hr;have hsz1:=str_size (tx (k:Int) (0));have hsz2:=str_size s;clear hr
   go_wp2_with fail
   refine (oright_any (k:Int) (0) _).mono ?_;rintro e w5 ⟨rfl,hb5⟩;rw [HRT.out];have HY0:=lj (Z0.out.go hb5 Z0.out.room);have HY1:=lj (Z1.out.go hb5 Z1.out.room);have HBY:=lj (Below.trans ZB.out (hb5.mono ZB.out.size));have y0:=HY1.out.cell 0 _ rfl;have y1:=HY1.out.cell 1 _ rfl;clear hb5 c0 c1
   go_wp2_with fail
   refine (ostring_any (k:Int) (0) w5 (HT.out.below HBY.out)).mono ?_;rintro e w6 ⟨rfl,hb6⟩;rw [HTX.out];have HV0:=lj (HY0.out.go hb6 HY0.out.room);have HV1:=lj (HY1.out.go hb6 HY1.out.room);have HBV:=lj (Below.trans HBY.out (hb6.mono HBY.out.size));have v0:=HV1.out.cell 0 _ rfl;have v1:=HV1.out.cell 1 _ rfl;have z0:=HV0.out.cell 0 _ rfl;have z1:=HV0.out.cell 1 _ rfl;have g0:=HV0.out.free 0;have g1:=HV0.out.free 1;clear hb6 y0 y1
   by_cases he:tx (k:Int) (0)=s
   ·have HIS:=lj (show Is s k (0) from ⟨HR.out,he⟩)
    rw [he];clear hlen hsz1 he
    have heq:((str s).toList == (str s).toList)=true:=by simp
    go_wp2;have HQ:Bx w.heap.size ((w6.setCell ⟨w.heap.size,0,none⟩ (.int .i64 (k:Nat))).setCell ⟨w.heap.size,1,none⟩ (.int .i64 0)) #[.int .i64 k,.int .i64 0]:=(HV0.out.set 0 _).set 1 _;have HQB:Below w.heap.size w ((w6.setCell ⟨w.heap.size,0,none⟩ (.int .i64 (k:Nat))).setCell ⟨w.heap.size,1,none⟩ (.int .i64 0)):=(HBV.out.setCell (Nat.le_refl _) _).setCell (Nat.le_refl _) _;clear z0 z1 g0 g1;generalize (w6.setCell ⟨w.heap.size,0,none⟩ (.int .i64 (k:Nat))).setCell ⟨w.heap.size,1,none⟩ (.int .i64 0)=wf at *;have q0:wf.cell? ⟨w.heap.size,0,none⟩=some (.int .i64 (k:Nat)):=HQ.cell 0 _ rfl;have q1:wf.cell? ⟨w.heap.size,1,none⟩=some (.int .i64 0):=HQ.cell 1 _ rfl;exact bodyPost_ret (v:=.tuple #[.agg #[.int .i64 k,.int .i64 0],.int .i64 0]) (by simp [results,Tryz.results128,go_sem,q0,q1]) rfl ⟨HQB,.inl ⟨_,_,HIS.out,rfl⟩⟩
   ·have heq:=str_ne he
    have HNO:=lj (show ∀ j m:Int,¬ Is s j m from fun j m h=>by
     obtain ⟨rfl,rfl⟩:=HO.out j m h
     exact he h.2)
    clear he
    obtain ⟨x,hx⟩:∃ x,x=str (tx (k:Int) (0)):=⟨_,rfl⟩
    rw [← hx] at heq hsz1 ⊢;clear hx;go_wp2;have HQ:Bx w.heap.size ((w6.setCell ⟨w.heap.size,0,none⟩ (.int .i64 0)).setCell ⟨w.heap.size,1,none⟩ (.int .i64 0)) #[.int .i64 0,.int .i64 0]:=(HV0.out.set 0 _).set 1 _;have HQB:Below w.heap.size w ((w6.setCell ⟨w.heap.size,0,none⟩ (.int .i64 0)).setCell ⟨w.heap.size,1,none⟩ (.int .i64 0)):=(HBV.out.setCell (Nat.le_refl _) _).setCell (Nat.le_refl _) _;clear z0 z1 g0 g1;generalize (w6.setCell ⟨w.heap.size,0,none⟩ (.int .i64 0)).setCell ⟨w.heap.size,1,none⟩ (.int .i64 0)=wf at *;have q0:wf.cell? ⟨w.heap.size,0,none⟩=some (.int .i64 0):=HQ.cell 0 _ rfl;have q1:wf.cell? ⟨w.heap.size,1,none⟩=some (.int .i64 0):=HQ.cell 1 _ rfl;exact bodyPost_ret (v:=.tuple #[.agg #[.int .i64 0,.int .i64 0],.int .i64 8]) (by simp [results,Tryz.results128,go_sem,q0,q1]) rfl ⟨HQB,.inr ⟨HNO.out,rfl⟩⟩
  ·have HRT:=lj (rtB_no hr)
   have HNO:=lj (show ∀ j m:Int,¬ Is s j m from fun j m h=>by
    obtain ⟨rfl,rfl⟩:=HO.out j m h
    exact hr h.1)
   clear hr
   go_wp2_with fail
   refine (oright_any (k:Int) (0) _).mono ?_;rintro e w5 ⟨rfl,hb5⟩;rw [HRT.out];have HY0:=lj (Z0.out.go hb5 Z0.out.room);have HBY:=lj (Below.trans ZB.out (hb5.mono ZB.out.size));have z0:=HY0.out.cell 0 _ rfl;have z1:=HY0.out.cell 1 _ rfl;have g0:=HY0.out.free 0;have g1:=HY0.out.free 1;clear hb5 c0 c1;go_wp2;have HQ:Bx w.heap.size ((w5.setCell ⟨w.heap.size,0,none⟩ (.int .i64 0)).setCell ⟨w.heap.size,1,none⟩ (.int .i64 0)) #[.int .i64 0,.int .i64 0]:=(HY0.out.set 0 _).set 1 _;have HQB:Below w.heap.size w ((w5.setCell ⟨w.heap.size,0,none⟩ (.int .i64 0)).setCell ⟨w.heap.size,1,none⟩ (.int .i64 0)):=(HBY.out.setCell (Nat.le_refl _) _).setCell (Nat.le_refl _) _;clear z0 z1 g0 g1;generalize (w5.setCell ⟨w.heap.size,0,none⟩ (.int .i64 0)).setCell ⟨w.heap.size,1,none⟩ (.int .i64 0)=wf at *;have q0:wf.cell? ⟨w.heap.size,0,none⟩=some (.int .i64 0):=HQ.cell 0 _ rfl;have q1:wf.cell? ⟨w.heap.size,1,none⟩=some (.int .i64 0):=HQ.cell 1 _ rfl;exact bodyPost_ret (v:=.tuple #[.agg #[.int .i64 0,.int .i64 0],.int .i64 8]) (by simp [results,Tryz.results128,go_sem,q0,q1]) rfl ⟨HQB,.inr ⟨HNO.out,rfl⟩⟩
 ·go_wp2_with fail
  refine (khas_any (k:Int) true (by simp <;> omega) _).mono ?_;rintro e w2 ⟨rfl,rfl⟩
  go_wp2_with fail
  refine (pint_any (rest s) W2 (HT.out.below ZB.out) (by unfold rest; rw [List.length_drop]; omega)).mono ?_;rintro e w3 ⟨n,v,rfl,hn,hb3⟩;have HO:=lj (only_kn (n:=n) HK.out (fun h=>absurd h (by omega)) (fun _=>hn));have hy0:=Z0.out.go hb3 Z0.out.room;have hy1:=Z1.out.go hb3 Z1.out.room;have HN1:=lj hy1;have hf1:=hy1.free 1;have d1:=hy1.cell 1 _ rfl;have hz0:Bx w.heap.size (w3.setCell ⟨g1,1,none⟩ (.int .i64 n)) #[.int .i64 0,.int .i64 0]:=hy0.other (p:=⟨g1,1,none⟩) (by show ¬ g1=w.heap.size; omega) _;have hz1:Bx g1 (w3.setCell ⟨g1,1,none⟩ (.int .i64 n)) #[.int .i64 k,.int .i64 n]:=hy1.set 1 _;have hzb:Below w.heap.size w (w3.setCell ⟨g1,1,none⟩ (.int .i64 n)):=(Below.trans ZB.out (hb3.mono ZB.out.size)).setCell (by show w.heap.size≤g1; omega) _;clear Z0 Z1 ZB c0 c1;have Z0:=lj hz0;have Z1:=lj hz1;have ZB:=lj hzb;clear hn hb3 hy0 hy1 hz0 hz1 hzb
  go_upto_region 5 with fail
  clear HN1 hf1 d1;generalize w3.setCell ⟨g1,1,none⟩ (.int .i64 n)=W5 at *;have c0:=Z1.out.cell 0 _ rfl;have c1:=Z1.out.cell 1 _ rfl
  by_cases hr:Rt (k:Int) (n)
  ·have HRT:=lj (rtB_yes hr)
   have HTX:=lj (text_of hr);have HR:=lj hr;have hlen:=tx_len hr;have hsz1:=str_size (tx (k:Int) (n));have hsz2:=str_size s;clear hr
   go_wp2_with fail
   refine (oright_any (k:Int) (n) _).mono ?_;rintro e w5 ⟨rfl,hb5⟩;rw [HRT.out];have HY0:=lj (Z0.out.go hb5 Z0.out.room);have HY1:=lj (Z1.out.go hb5 Z1.out.room);have HBY:=lj (Below.trans ZB.out (hb5.mono ZB.out.size));have y0:=HY1.out.cell 0 _ rfl;have y1:=HY1.out.cell 1 _ rfl;clear hb5 c0 c1
   go_wp2_with fail
   refine (ostring_any (k:Int) (n) w5 (HT.out.below HBY.out)).mono ?_;rintro e w6 ⟨rfl,hb6⟩;rw [HTX.out];have HV0:=lj (HY0.out.go hb6 HY0.out.room);have HV1:=lj (HY1.out.go hb6 HY1.out.room);have HBV:=lj (Below.trans HBY.out (hb6.mono HBY.out.size));have v0:=HV1.out.cell 0 _ rfl;have v1:=HV1.out.cell 1 _ rfl;have z0:=HV0.out.cell 0 _ rfl;have z1:=HV0.out.cell 1 _ rfl;have g0:=HV0.out.free 0;have g1:=HV0.out.free 1;clear hb6 y0 y1
   by_cases he:tx (k:Int) (n)=s
   ·have HIS:=lj (show Is s k (n) from ⟨HR.out,he⟩)
    rw [he];clear hlen hsz1 he
    have heq:((str s).toList == (str s).toList)=true:=by simp
    go_wp2;have HQ:Bx w.heap.size ((w6.setCell ⟨w.heap.size,0,none⟩ (.int .i64 (k:Nat))).setCell ⟨w.heap.size,1,none⟩ (.int .i64 n)) #[.int .i64 k,.int .i64 n]:=(HV0.out.set 0 _).set 1 _;have HQB:Below w.heap.size w ((w6.setCell ⟨w.heap.size,0,none⟩ (.int .i64 (k:Nat))).setCell ⟨w.heap.size,1,none⟩ (.int .i64 n)):=(HBV.out.setCell (Nat.le_refl _) _).setCell (Nat.le_refl _) _;clear z0 z1 g0 g1;generalize (w6.setCell ⟨w.heap.size,0,none⟩ (.int .i64 (k:Nat))).setCell ⟨w.heap.size,1,none⟩ (.int .i64 n)=wf at *;have q0:wf.cell? ⟨w.heap.size,0,none⟩=some (.int .i64 (k:Nat)):=HQ.cell 0 _ rfl;have q1:wf.cell? ⟨w.heap.size,1,none⟩=some (.int .i64 n):=HQ.cell 1 _ rfl;exact bodyPost_ret (v:=.tuple #[.agg #[.int .i64 k,.int .i64 n],.int .i64 0]) (by simp [results,Tryz.results128,go_sem,q0,q1]) rfl ⟨HQB,.inl ⟨_,_,HIS.out,rfl⟩⟩
   ·have heq:=str_ne he
    have HNO:=lj (show ∀ j m:Int,¬ Is s j m from fun j m h=>by
     obtain ⟨rfl,rfl⟩:=HO.out j m h
     exact he h.2)
    clear he
    obtain ⟨x,hx⟩:∃ x,x=str (tx (k:Int) (n)):=⟨_,rfl⟩
    rw [← hx] at heq hsz1 ⊢;clear hx;go_wp2;have HQ:Bx w.heap.size ((w6.setCell ⟨w.heap.size,0,none⟩ (.int .i64 0)).setCell ⟨w.heap.size,1,none⟩ (.int .i64 0)) #[.int .i64 0,.int .i64 0]:=(HV0.out.set 0 _).set 1 _;have HQB:Below w.heap.size w ((w6.setCell ⟨w.heap.size,0,none⟩ (.int .i64 0)).setCell ⟨w.heap.size,1,none⟩ (.int .i64 0)):=(HBV.out.setCell (Nat.le_refl _) _).setCell (Nat.le_refl _) _;clear z0 z1 g0 g1;generalize (w6.setCell ⟨w.heap.size,0,none⟩ (.int .i64 0)).setCell ⟨w.heap.size,1,none⟩ (.int .i64 0)=wf at *;have q0:wf.cell? ⟨w.heap.size,0,none⟩=some (.int .i64 0):=HQ.cell 0 _ rfl;have q1:wf.cell? ⟨w.heap.size,1,none⟩=some (.int .i64 0):=HQ.cell 1 _ rfl;exact bodyPost_ret (v:=.tuple #[.agg #[.int .i64 0,.int .i64 0],.int .i64 8]) (by simp [results,Tryz.results128,go_sem,q0,q1]) rfl ⟨HQB,.inr ⟨HNO.out,rfl⟩⟩
  ·have HRT:=lj (rtB_no hr)
   have HNO:=lj (show ∀ j m:Int,¬ Is s j m from fun j m h=>by
    obtain ⟨rfl,rfl⟩:=HO.out j m h
    exact hr h.1)
   clear hr
   go_wp2_with fail
   refine (oright_any (k:Int) (n) _).mono ?_;rintro e w5 ⟨rfl,hb5⟩;rw [HRT.out];have HY0:=lj (Z0.out.go hb5 Z0.out.room);have HBY:=lj (Below.trans ZB.out (hb5.mono ZB.out.size));have z0:=HY0.out.cell 0 _ rfl;have z1:=HY0.out.cell 1 _ rfl;have g0:=HY0.out.free 0;have g1:=HY0.out.free 1;clear hb5 c0 c1;go_wp2;have HQ:Bx w.heap.size ((w5.setCell ⟨w.heap.size,0,none⟩ (.int .i64 0)).setCell ⟨w.heap.size,1,none⟩ (.int .i64 0)) #[.int .i64 0,.int .i64 0]:=(HY0.out.set 0 _).set 1 _;have HQB:Below w.heap.size w ((w5.setCell ⟨w.heap.size,0,none⟩ (.int .i64 0)).setCell ⟨w.heap.size,1,none⟩ (.int .i64 0)):=(HBY.out.setCell (Nat.le_refl _) _).setCell (Nat.le_refl _) _;clear z0 z1 g0 g1;generalize (w5.setCell ⟨w.heap.size,0,none⟩ (.int .i64 0)).setCell ⟨w.heap.size,1,none⟩ (.int .i64 0)=wf at *;have q0:wf.cell? ⟨w.heap.size,0,none⟩=some (.int .i64 0):=HQ.cell 0 _ rfl;have q1:wf.cell? ⟨w.heap.size,1,none⟩=some (.int .i64 0):=HQ.cell 1 _ rfl;exact bodyPost_ret (v:=.tuple #[.agg #[.int .i64 0,.int .i64 0],.int .i64 8]) (by simp [results,Tryz.results128,go_sem,q0,q1]) rfl ⟨HQB,.inr ⟨HNO.out,rfl⟩⟩
end
end Go.Proofs.YtdpagmcickkbmaaGreatDoor
