/- PSpk PSpi -/
import Derived.Deep.DeepCutAuto
import Derived.Test.YtdpagmcickkbmaaGreatDoorZd10
import Derived.Test.YtdpagmcickkbmaaGreatDoorZd15
namespace Go.Proofs.YtdpagmcickkbmaaGreatDoor
set_option maxRecDepth 100000
open Go.Lib renaming hid → lj
section
open Go.RowKit
open Sp
def cols (a:Int):Int:=if a<1 then 1 else if 500<a then 500 else a
def SV (a b:Nat) (s:Sp):Array Value:=#[.complex .f64 a b,.int .i64 (s.w - 1),.int .i64 s.q]
def SpotIs (z:Zo) (g:Nat) (w:World) (s:Sp):Prop:=g<w.heap.size∧∃ a b,RepC a b s.c s.r∧Bo z g w (SV a b s)
theorem SpotIs.keep {z:Zo} {g:Nat} {w w':World} {s:Sp} {S:Nat→Prop} (h:SpotIs z g w s) (ho:Only S w w') (hs:¬ S g):SpotIs z g w' s:=by
 obtain ⟨hl,a,b,hr,hx⟩:=h;exact ⟨Nat.lt_of_lt_of_le hl ho.size,a,b,hr,hx.keep ho hs⟩
theorem SpotIs.drewN {z:Zo} {g:Nat} {w:World} {s:Sp} (h:SpotIs z g w s) (k:Nat):SpotIs z g (w.drewN k) s:=h.keep ((Only.refl (fun _=>False) w).drewN k) (fun h=>h)
theorem snew_any (a:Int) (w:World) :
  Calls Tryz.prog 22 #[.int .i64 a] w fun e w'=>∃ g,e = .returned (.pointer (some ⟨g,0,none⟩))∧w.heap.size≤g∧SpotIs z0 g w' ⟨cols a,0,0,0⟩∧Below w.heap.size w w':=by
 have fin:∀ n:Int,n=cols a - 1→SpotIs z0 w.heap.size (w.alloc (.cells #[.complex .f64 0 0,.int .i64 n,.int .i64 0] 65)) ⟨cols a,0,0,0⟩:=by
  rintro n rfl;exact ⟨by simp,0,0,⟨rep_zero,rep_zero⟩,Bo.new w _ rfl _ _⟩
 rcases (show a<1∨(¬ a<1∧500<a)∨(¬ a<1∧¬ 500<a) by omega) with h | ⟨h1,h2⟩ | ⟨h1,h2⟩
 ·have hc:(0:Int)=cols a - 1:=by unfold cols; rw [if_pos h]; rfl
  have hf:=lj (fin _ hc);clear fin hc
  go_enter Tryz.func22,Tryz.ntmps22
  go_wp2;go_ret;exact ⟨_,rfl,Nat.le_refl _,hf.out,(Below.refl _ _).alloc (Nat.le_refl _) _⟩
 ·have hc:(499:Int)=cols a - 1:=by unfold cols; rw [if_neg h1,if_pos h2]; rfl
  have hf:=lj (fin _ hc);clear fin hc
  go_enter Tryz.func22,Tryz.ntmps22
  go_wp2;go_ret;exact ⟨_,rfl,Nat.le_refl _,hf.out,(Below.refl _ _).alloc (Nat.le_refl _) _⟩
 ·have hc:a - 1=cols a - 1:=by unfold cols; rw [if_neg h1,if_neg h2]
  have hf:=lj (fin _ hc);clear fin hc
  go_enter Tryz.func22,Tryz.ntmps22
  go_wp2;go_ret;exact ⟨_,rfl,Nat.le_refl _,hf.out,(Below.refl _ _).alloc (Nat.le_refl _) _⟩
theorem store_complex (P:Program) (a:Addr) (x y:Nat) (m:Mode) (w:World):(store a (.complex .f64 x y) m).run P w=stored P w a (.complex .f64 x y) m:=run_store P w a _ m rfl
def SGives (z:Zo) (g:Nat) (w:World) (s:Sp) (e:Ending) (w':World):Prop:=
 e = .returned (.tuple #[])∧Only (fun b=>b=g) w w'∧SpotIs z g w' s
theorem scol_any {z:Zo} (g:Nat) (s:Sp) (n:Int) (w:World) (hs:SpotIs z g w s) (hn:n.natAbs<9007199254740992) :
  Calls Tryz.prog 110 #[.pointer (some ⟨g,z.o,none⟩),.int .i64 n] w (SGives z g w { s with c:=n }):=by
 obtain ⟨hl,a,b,hr,hx⟩:=hs;have d0:w.cell? ⟨g,z.o,none⟩=some (.complex .f64 a b):=hx.cell0 _ rfl;have f0:=hx.free0;have HX:=lj hx;have HR:=lj (show RepC (floatOfInt .f64 n) b n s.r from ⟨rep_floatOfInt n hn,hr.2⟩);clear hx hr hn;have hst:=store_complex Tryz.prog
 go_enter Tryz.func110,Tryz.ntmps110
 go_wp2;exact bodyPost_ret (v:=.tuple #[]) (by simp [results,Tryz.results110,go_sem]) rfl ⟨rfl,(Only.refl (fun b=>b=g) w).setCell (p:=⟨g,z.o,none⟩) rfl _,by simpa using hl,_,_,HR.out,(HX.out).set 0 _⟩
def stp (s:Sp) (k:Nat):Sp:={ s with c:=min (max (s.c+ox k) 0) (s.w - 1),r:=max (s.r+oy k) 0 }
theorem ox_le (k:Nat) : -1≤ox k∧ox k≤1:=by unfold ox; split <;> omega
theorem oy_le (k:Nat) : -1≤oy k∧oy k≤1:=by unfold oy; split <;> omega
theorem sstep_any {z:Zo} (g:Nat) (s:Sp) (n k:Nat) (w:World) (hs:SpotIs z g w s) (hok:Ok s n) (hn:n≤1000000000) (hk:k≤3) (v:Int) (hv:v=k) :
  Calls Tryz.prog 109 #[.pointer (some ⟨g,z.o,none⟩),.int .i64 v] w (SGives z g w (stp s k)):=by
 subst hv;obtain ⟨hl,a,b,hr,hx⟩:=hs;obtain ⟨A,B,hA0,hB0,hW,hM⟩:=wayfar;have d0:w.cell? ⟨g,z.o,none⟩=some (.complex .f64 a b):=hx.cell0 _ rfl;have d1:w.cell? ⟨g,z.o+1,none⟩=some (.int .i64 (s.w - 1)):=hx.cell 1 _ rfl;have f0:=hx.free0;have hst:=store_complex Tryz.prog;have oxk:=ox_le k;have oyk:=oy_le k;have hc0:=hok.c0;have hc1:=hok.c1;have hw1:=hok.w1;have hr0:=hok.r0;have hr1:=hok.r1;obtain ⟨re,im,hadd,hto⟩:=repC_add hr (hW k hk) (by omega) (by omega)
 have hadd':=fun w=>run_complex_sum (P:=Tryz.prog) w .add (.inl rfl) 63 .f64 a b (A k) (B k) re im hadd
 obtain ⟨x1,hmx,hx1⟩:=rep_max (P:=Tryz.prog) hto.1 rep_zero;obtain ⟨x2,hmn,hx2⟩:=rep_min (P:=Tryz.prog) hx1 (rep_floatOfInt (s.w - 1) (by omega));obtain ⟨x3,hmy,hx3⟩:=rep_max (P:=Tryz.prog) hto.2 rep_zero;have HX:=lj hx;have HR:=lj (show RepC x2 x3 (stp s k).c (stp s k).r from ⟨hx2,hx3⟩);have HM:=lj hM;have HL:=lj hl;have HA:=lj (And.intro hA0 hB0);clear hx hr hx1 hx2 hx3 hto hadd hM hW hok oxk oyk hc0 hc1 hw1 hr0 hr1 hn hl hA0 hB0
 go_enter Tryz.func109,Tryz.ntmps109
 go_wp2
 go_loop [4,7] (fun v i=>∃ j:Nat,j≤k∧i = .int .i64 j∧v = .complex .f64 (A j) (B j)) (fun _ i=>k - (intOf i).toNat)
 case atStart=>exact ⟨0,by omega,rfl,by rw [HA.out.1,HA.out.2]⟩
 case round =>
  obtain ⟨j,hj,rfl,rfl⟩:=hrel
  by_cases hlt:j<k
  ·have hmul:=fun w=>run_complex_mul (P:=Tryz.prog) w 63 (A j) (B j) 0 4607182418800017408 _ _ (HM.out j (by omega))
   go_wp2
   go_round
   case rel=>exact ⟨j+1,by omega,by go_num,rfl⟩
   case measure=>simp [intOf]; omega
  ·obtain rfl:j=k:=by omega
   go_wp2;exact bodyPost_ret (v:=.tuple #[]) (by simp [results,Tryz.results109,go_sem]) rfl ⟨rfl,(Only.refl (fun b=>b=g) w).setCell (p:=⟨g,z.o,none⟩) rfl _,by simpa using HL.out,_,_,HR.out,(HX.out).set 0 _⟩
theorem Sp.Ok.col {s:Sp} {n:Nat} (h:Ok s n) (c:Int) (h0:0≤c) (h1:c<s.w):Ok { s with c:=c } n:=⟨h.w0,h.w1,h0,h1,h.r0,h.r1,h.q0⟩
theorem Sp.Ok.seq {s:Sp} {n:Nat} (h:Ok s n) (q:Int) (hq:q=0∨q=1∨q=2):Ok { s with q:=q } n:=⟨h.w0,h.w1,h.c0,h.c1,h.r0,h.r1,hq⟩
theorem conv_int (a:Nat) (n:Int) (h:Rep a n) (h0:0≤n) (h1:n≤1000000000000) (w:World):(convert 163 3 (.float .f64 a)).run Tryz.prog w = .ok (.int .i64 n) w:=
 run_convert_float_int w 163 3 .f64 .i64 a n (by rw [Tryz.underlying163]; rfl) Tryz.underlying3 (rep_int a n h (by omega) (by omega))
def sgn (s:Sp):Sp:=if s.c+1<s.w then { s with c:=s.c+1 } else { s with c:=0,r:=s.r+1 }
theorem stp_right (s:Sp) (n:Nat) (h:Ok s n) (hlt:s.c+1<s.w):stp s 0={ s with c:=s.c+1 }:=by
 obtain ⟨W,c,r,q⟩:=s;have h1:=h.c0;have h2:=h.r0;simp only at hlt h1 h2;simp only [stp,ox,oy,Sp.mk.injEq,true_and,and_true];omega
theorem stp_right0 (s:Sp) (n:Nat) (h:Ok s n) (hlt:¬ s.c+1<s.w):stp s 0=s:=by
 obtain ⟨W,c,r,q⟩:=s;have h1:=h.c0;have h2:=h.r0;have h3:=h.c1;simp only at hlt h1 h2 h3;simp only [stp,ox,oy,Sp.mk.injEq,true_and,and_true];omega
theorem stp_down (s:Sp) (n:Nat) (h:Ok s n):stp s 1={ s with r:=s.r+1 }:=by
 obtain ⟨W,c,r,q⟩:=s;have h1:=h.c0;have h2:=h.r0;have h3:=h.c1;simp only at h1 h2 h3;simp only [stp,ox,oy,Sp.mk.injEq,true_and,and_true];omega
theorem stp_left (s:Sp) (n:Nat) (h:Ok s n):stp s 2=if 0<s.c then { s with c:=s.c - 1 } else s:=by
 obtain ⟨W,c,r,q⟩:=s;have h1:=h.c0;have h2:=h.r0;have h3:=h.c1;simp only at h1 h2 h3
 split <;> rename_i h4 <;> simp only at h4 <;> simp only [stp,ox,oy,Sp.mk.injEq,true_and,and_true] <;> omega
theorem stp_up (s:Sp) (n:Nat) (h:Ok s n):stp s 3=if 0<s.r then { s with r:=s.r - 1 } else s:=by
 obtain ⟨W,c,r,q⟩:=s;have h1:=h.c0;have h2:=h.r0;have h3:=h.c1;simp only at h1 h2 h3
 split <;> rename_i h4 <;> simp only at h4 <;> simp only [stp,ox,oy,Sp.mk.injEq,true_and,and_true] <;> omega
theorem ssign_any {z:Zo} (g:Nat) (s:Sp) (n:Nat) (w:World) (hs:SpotIs z g w s) (hok:Ok s n) (hn:n≤1000000000) :
  Calls Tryz.prog 111 #[.pointer (some ⟨g,z.o,none⟩)] w (SGives z g w (sgn s)):=by
 have HS:=lj hs;have HK:=lj hok;have HN:=lj hn;obtain ⟨hl,a,b,hr,hx⟩:=hs;have d0:w.cell? ⟨g,z.o,none⟩=some (.complex .f64 a b):=hx.cell0 _ rfl;have d1:w.cell? ⟨g,z.o+1,none⟩=some (.int .i64 (s.w - 1)):=hx.cell 1 _ rfl;have hcv:=conv_int a s.c hr.1 hok.c0 (by have:=hok.c1; have:=hok.w1; omega);clear hx hr hl hok hn
 by_cases hlt:s.c<s.w - 1
 ·have HG:=lj (show stp s 0=sgn s by rw [stp_right s n HK.out (by omega)]; unfold sgn; rw [if_pos (by omega)])
  go_enter Tryz.func111,Tryz.ntmps111
  go_upto_region 0 with fail
  go_quiet (fail)
  go_wp2_with fail
  refine (sstep_any g s n 0 _ (HS.out.drewN _) HK.out HN.out (by omega) 0 rfl).mono ?_;rw [HG.out];rintro e w1 ⟨rfl,ho1,hs1⟩;have HO:=lj (And.intro ho1 hs1);clear ho1 hs1;go_wp2;exact bodyPost_ret (v:=.tuple #[]) (by simp [results,Tryz.results111,go_sem]) rfl ⟨rfl,((Only.refl _ w).drewN _).trans HO.out.1,HO.out.2⟩
 ·have HG:=lj (show stp { s with c:=0 } 1=sgn s by rw [stp_down _ n (HK.out.col 0 (by omega) (by have:=HK.out.w0; omega))]; unfold sgn; rw [if_neg (by omega)])
  go_enter Tryz.func111,Tryz.ntmps111
  go_upto_region 0 with fail
  go_quiet (fail)
  go_wp2_with fail
  refine (scol_any g s 0 _ (HS.out.drewN _) (by decide)).mono ?_;rintro e w1 ⟨rfl,ho1,hs1⟩;have HO:=lj ho1;have HS1:=lj hs1;clear ho1 hs1
  go_wp2_with fail
  refine (sstep_any g _ n 1 w1 HS1.out (HK.out.col 0 (by omega) (by have:=HK.out.w0; omega)) HN.out (by omega) 1 rfl).mono ?_;rw [HG.out];rintro e w2 ⟨rfl,ho2,hs2⟩;have HO2:=lj (And.intro ho2 hs2);clear ho2 hs2;go_wp2;exact bodyPost_ret (v:=.tuple #[]) (by simp [results,Tryz.results111,go_sem]) rfl ⟨rfl,((Only.refl _ w).drewN _).trans (HO.out.trans HO2.out.1),HO2.out.2⟩
theorem arrow_65 {z:Zo} (g:Nat) (s:Sp) (n b:Nat) (w:World) (hs:SpotIs z g w s) (hok:Ok s n) (hn:n≤1000000000) (h8:b<256) (hb:b=65) :
  Calls Tryz.prog 92 #[.pointer (some ⟨g,z.o,none⟩),.int .u8 b] w (SGives z g w (stp s 3)):=by
 have HS:=lj hs;have HK:=lj hok;have HN:=lj hn;clear hs hok hn;subst hb
 go_enter Tryz.func92,Tryz.ntmps92
 go_wp2_with fail
 refine (sstep_any g s n 3 w HS.out HK.out HN.out (by omega) 3 rfl).mono ?_;rintro e w1 ⟨rfl,ho1,hs1⟩;have HO:=lj (And.intro ho1 hs1);clear ho1 hs1;go_wp2;exact bodyPost_ret (v:=.tuple #[]) (by simp [results,Tryz.results92,go_sem]) rfl ⟨rfl,HO.out.1,HO.out.2⟩
theorem arrow_66 {z:Zo} (g:Nat) (s:Sp) (n b:Nat) (w:World) (hs:SpotIs z g w s) (hok:Ok s n) (hn:n≤1000000000) (h8:b<256) (hb:b=66) :
  Calls Tryz.prog 92 #[.pointer (some ⟨g,z.o,none⟩),.int .u8 b] w (SGives z g w (stp s 1)):=by
 have HS:=lj hs;have HK:=lj hok;have HN:=lj hn;clear hs hok hn;subst hb
 go_enter Tryz.func92,Tryz.ntmps92
 go_wp2_with fail
 refine (sstep_any g s n 1 w HS.out HK.out HN.out (by omega) 1 rfl).mono ?_;rintro e w1 ⟨rfl,ho1,hs1⟩;have HO:=lj (And.intro ho1 hs1);clear ho1 hs1;go_wp2;exact bodyPost_ret (v:=.tuple #[]) (by simp [results,Tryz.results92,go_sem]) rfl ⟨rfl,HO.out.1,HO.out.2⟩
theorem arrow_67 {z:Zo} (g:Nat) (s:Sp) (n b:Nat) (w:World) (hs:SpotIs z g w s) (hok:Ok s n) (hn:n≤1000000000) (h8:b<256) (hb:b=67) :
  Calls Tryz.prog 92 #[.pointer (some ⟨g,z.o,none⟩),.int .u8 b] w (SGives z g w (stp s 0)):=by
 have HS:=lj hs;have HK:=lj hok;have HN:=lj hn;clear hs hok hn;subst hb
 go_enter Tryz.func92,Tryz.ntmps92
 go_wp2_with fail
 refine (sstep_any g s n 0 w HS.out HK.out HN.out (by omega) 0 rfl).mono ?_;rintro e w1 ⟨rfl,ho1,hs1⟩;have HO:=lj (And.intro ho1 hs1);clear ho1 hs1;go_wp2;exact bodyPost_ret (v:=.tuple #[]) (by simp [results,Tryz.results92,go_sem]) rfl ⟨rfl,HO.out.1,HO.out.2⟩
theorem arrow_68 {z:Zo} (g:Nat) (s:Sp) (n b:Nat) (w:World) (hs:SpotIs z g w s) (hok:Ok s n) (hn:n≤1000000000) (h8:b<256) (hb:b=68) :
  Calls Tryz.prog 92 #[.pointer (some ⟨g,z.o,none⟩),.int .u8 b] w (SGives z g w (stp s 2)):=by
 have HS:=lj hs;have HK:=lj hok;have HN:=lj hn;clear hs hok hn;subst hb
 go_enter Tryz.func92,Tryz.ntmps92
 go_wp2_with fail
 refine (sstep_any g s n 2 w HS.out HK.out HN.out (by omega) 2 rfl).mono ?_;rintro e w1 ⟨rfl,ho1,hs1⟩;have HO:=lj (And.intro ho1 hs1);clear ho1 hs1;go_wp2;exact bodyPost_ret (v:=.tuple #[]) (by simp [results,Tryz.results92,go_sem]) rfl ⟨rfl,HO.out.1,HO.out.2⟩
theorem arrow_0 {z:Zo} (g:Nat) (s:Sp) (n b:Nat) (w:World) (hs:SpotIs z g w s) (hok:Ok s n) (hn:n≤1000000000) (_h8:b<256) (h65:b≠65) (h66:b≠66) (h67:b≠67) (h68:b≠68) :
  Calls Tryz.prog 92 #[.pointer (some ⟨g,z.o,none⟩),.int .u8 b] w (SGives z g w (s)):=by
 have HS:=lj hs;have HK:=lj hok;have HN:=lj hn;clear hs hok hn
 have n65:((b:Int) == 65)=false:=by simp; omega
 have n66:((b:Int) == 66)=false:=by simp; omega
 have n67:((b:Int) == 67)=false:=by simp; omega
 have n68:((b:Int) == 68)=false:=by simp; omega
 clear h65 h66 h67 h68
 go_enter Tryz.func92,Tryz.ntmps92
 go_wp2;exact bodyPost_ret (v:=.tuple #[]) (by simp [results,Tryz.results92,go_sem]) rfl ⟨rfl,Only.refl _ w,HS.out⟩
theorem arrow_any {z:Zo} (g:Nat) (s:Sp) (n b:Nat) (w:World) (hs:SpotIs z g w s) (hok:Ok s n) (hn:n≤1000000000) (h8:b<256) :
  Calls Tryz.prog 92 #[.pointer (some ⟨g,z.o,none⟩),.int .u8 b] w (SGives z g w (way s b)):=by
 unfold way
 by_cases h1:b=65
 ·rw [if_pos h1,← stp_up s n hok]; exact arrow_65 g s n b w hs hok hn h8 h1
 rw [if_neg h1]
 by_cases h2:b=66
 ·rw [if_pos h2,← stp_down s n hok]; exact arrow_66 g s n b w hs hok hn h8 h2
 rw [if_neg h2]
 by_cases h3:b=67
 ·rw [if_pos h3]
  by_cases hlt:s.c<s.w - 1
  ·rw [if_pos hlt,← stp_right s n hok (by omega)]; exact arrow_67 g s n b w hs hok hn h8 h3
  ·rw [if_neg hlt]
   have h:=arrow_67 g s n b w hs hok hn h8 h3
   rwa [stp_right0 s n hok (by omega)] at h
 rw [if_neg h3]
 by_cases h4:b=68
 ·rw [if_pos h4,← stp_left s n hok]; exact arrow_68 g s n b w hs hok hn h8 h4
 rw [if_neg h4];exact arrow_0 g s n b w hs hok hn h8 h1 h2 h3 h4
theorem one_13 {z:Zo} (g:Nat) (s:Sp) (n b:Nat) (w:World) (hs:SpotIs z g w s) (hok:Ok s n) (hn:n≤1000000000) (h8:b<256) (hb:b=13) :
  Calls Tryz.prog 93 #[.pointer (some ⟨g,z.o,none⟩),.int .u8 b] w (SGives z g w ({ s with c:=0 })):=by
 have HS:=lj hs;have HK:=lj hok;have HN:=lj hn;clear hs hok hn;subst hb
 go_enter Tryz.func93,Tryz.ntmps93
 go_wp2_with fail
 refine (scol_any g s 0 w HS.out (by decide)).mono ?_;rintro e w1 ⟨rfl,ho1,hs1⟩;have HO:=lj (And.intro ho1 hs1);clear ho1 hs1;go_wp2;exact bodyPost_ret (v:=.tuple #[]) (by simp [results,Tryz.results93,go_sem]) rfl ⟨rfl,HO.out.1,HO.out.2⟩
theorem one_10 {z:Zo} (g:Nat) (s:Sp) (n b:Nat) (w:World) (hs:SpotIs z g w s) (hok:Ok s n) (hn:n≤1000000000) (h8:b<256) (hb:b=10) :
  Calls Tryz.prog 93 #[.pointer (some ⟨g,z.o,none⟩),.int .u8 b] w (SGives z g w (stp s 1)):=by
 have HS:=lj hs;have HK:=lj hok;have HN:=lj hn;clear hs hok hn;subst hb
 go_enter Tryz.func93,Tryz.ntmps93
 go_wp2_with fail
 refine (sstep_any g s n 1 w HS.out HK.out HN.out (by omega) 1 rfl).mono ?_;rintro e w1 ⟨rfl,ho1,hs1⟩;have HO:=lj (And.intro ho1 hs1);clear ho1 hs1;go_wp2;exact bodyPost_ret (v:=.tuple #[]) (by simp [results,Tryz.results93,go_sem]) rfl ⟨rfl,HO.out.1,HO.out.2⟩
theorem one_8 {z:Zo} (g:Nat) (s:Sp) (n b:Nat) (w:World) (hs:SpotIs z g w s) (hok:Ok s n) (hn:n≤1000000000) (h8:b<256) (hb:b=8) :
  Calls Tryz.prog 93 #[.pointer (some ⟨g,z.o,none⟩),.int .u8 b] w (SGives z g w (stp s 2)):=by
 have HS:=lj hs;have HK:=lj hok;have HN:=lj hn;clear hs hok hn;subst hb
 go_enter Tryz.func93,Tryz.ntmps93
 go_wp2_with fail
 refine (sstep_any g s n 2 w HS.out HK.out HN.out (by omega) 2 rfl).mono ?_;rintro e w1 ⟨rfl,ho1,hs1⟩;have HO:=lj (And.intro ho1 hs1);clear ho1 hs1;go_wp2;exact bodyPost_ret (v:=.tuple #[]) (by simp [results,Tryz.results93,go_sem]) rfl ⟨rfl,HO.out.1,HO.out.2⟩
theorem one_27 {z:Zo} (g:Nat) (s:Sp) (n b:Nat) (w:World) (hs:SpotIs z g w s) (hok:Ok s n) (hn:n≤1000000000) (h8:b<256) (hb:b=27) :
  Calls Tryz.prog 93 #[.pointer (some ⟨g,z.o,none⟩),.int .u8 b] w (SGives z g w ({ s with q:=1 })):=by
 have HS:=lj hs;have HK:=lj hok;have HN:=lj hn;clear hs hok hn;subst hb;obtain ⟨hl,x,y,hr,hx⟩:=HS.out;have d2:w.cell? ⟨g,z.o+2,none⟩=some (.int .i64 s.q):=hx.cell 2 _ rfl;have f2:=hx.free 2;have HL:=lj (And.intro hl (And.intro hr hx));clear hl hr hx
 go_enter Tryz.func93,Tryz.ntmps93
 go_wp2;exact bodyPost_ret (v:=.tuple #[]) (by simp [results,Tryz.results93,go_sem]) rfl ⟨rfl,(Only.refl (fun b=>b=g) w).setCell (p:=⟨g,z.o+2,none⟩) rfl _,by simpa using HL.out.1,_,_,HL.out.2.1,HL.out.2.2.set 2 _⟩
theorem one_9 {z:Zo} (g:Nat) (s:Sp) (n b:Nat) (w:World) (hs:SpotIs z g w s) (hok:Ok s n) (hn:n≤1000000000) (h8:b<256) (hb:b=9) (hc:s.w - 1<s.c / 8 * 8+8) :
  Calls Tryz.prog 93 #[.pointer (some ⟨g,z.o,none⟩),.int .u8 b] w (SGives z g w ({ s with c:=s.w - 1 })):=by
 have HS:=lj hs;have HK:=lj hok;have HN:=lj hn;clear hs hok hn;subst hb;obtain ⟨hl,x,y,hr,hx⟩:=HS.out;have d0:w.cell? ⟨g,z.o,none⟩=some (.complex .f64 x y):=hx.cell0 _ rfl;have d1:w.cell? ⟨g,z.o+1,none⟩=some (.int .i64 (s.w - 1)):=hx.cell 1 _ rfl;have hc0:=HK.out.c0;have hc1:=HK.out.c1;have hw1:=HK.out.w1;have hw0:=HK.out.w0;have hcv:=conv_int x s.c hr.1 hc0 (by omega);have hq:s.c.tdiv 8=s.c / 8:=Int.tdiv_eq_ediv_of_nonneg hc0;clear hl hr hx
 go_enter Tryz.func93,Tryz.ntmps93
 go_wp2_with fail
 refine (scol_any g s (s.w - 1) w HS.out (by omega)).mono ?_;rintro e w1 ⟨rfl,ho1,hs1⟩;have HO:=lj (And.intro ho1 hs1);clear ho1 hs1;go_wp2;exact bodyPost_ret (v:=.tuple #[]) (by simp [results,Tryz.results93,go_sem]) rfl ⟨rfl,HO.out.1,HO.out.2⟩
theorem one_9b {z:Zo} (g:Nat) (s:Sp) (n b:Nat) (w:World) (hs:SpotIs z g w s) (hok:Ok s n) (hn:n≤1000000000) (h8:b<256) (hb:b=9) (hc:¬ s.w - 1<s.c / 8 * 8+8) :
  Calls Tryz.prog 93 #[.pointer (some ⟨g,z.o,none⟩),.int .u8 b] w (SGives z g w ({ s with c:=s.c / 8 * 8+8 })):=by
 have HS:=lj hs;have HK:=lj hok;have HN:=lj hn;clear hs hok hn;subst hb;obtain ⟨hl,x,y,hr,hx⟩:=HS.out;have d0:w.cell? ⟨g,z.o,none⟩=some (.complex .f64 x y):=hx.cell0 _ rfl;have d1:w.cell? ⟨g,z.o+1,none⟩=some (.int .i64 (s.w - 1)):=hx.cell 1 _ rfl;have hc0:=HK.out.c0;have hc1:=HK.out.c1;have hw1:=HK.out.w1;have hw0:=HK.out.w0;have hcv:=conv_int x s.c hr.1 hc0 (by omega);have hq:s.c.tdiv 8=s.c / 8:=Int.tdiv_eq_ediv_of_nonneg hc0;clear hl hr hx
 go_enter Tryz.func93,Tryz.ntmps93
 go_wp2_with fail
 refine (scol_any g s (s.c / 8 * 8+8) w HS.out (by omega)).mono ?_;rintro e w1 ⟨rfl,ho1,hs1⟩;have HO:=lj (And.intro ho1 hs1);clear ho1 hs1;go_wp2;exact bodyPost_ret (v:=.tuple #[]) (by simp [results,Tryz.results93,go_sem]) rfl ⟨rfl,HO.out.1,HO.out.2⟩
theorem one_s {z:Zo} (g:Nat) (s:Sp) (n b:Nat) (w:World) (hs:SpotIs z g w s) (hok:Ok s n) (hn:n≤1000000000) (h8:b<256) (h32:¬ b<32) (h127:b≠127) :
  Calls Tryz.prog 93 #[.pointer (some ⟨g,z.o,none⟩),.int .u8 b] w (SGives z g w (sgn s)):=by
 have HS:=lj hs;have HK:=lj hok;have HN:=lj hn;clear hs hok hn
 have n127:((b:Int) == 127)=false:=by simp; omega
 have n32:(32:Int)≤(b:Int):=by omega
 clear h127 h32
 go_enter Tryz.func93,Tryz.ntmps93
 go_wp2_with fail
 refine (ssign_any g s n w HS.out HK.out HN.out).mono ?_;rintro e w1 ⟨rfl,ho1,hs1⟩;have HO:=lj (And.intro ho1 hs1);clear ho1 hs1;go_wp2;exact bodyPost_ret (v:=.tuple #[]) (by simp [results,Tryz.results93,go_sem]) rfl ⟨rfl,HO.out.1,HO.out.2⟩
theorem one_lo {z:Zo} (g:Nat) (s:Sp) (n b:Nat) (w:World) (hs:SpotIs z g w s) (hok:Ok s n) (hn:n≤1000000000) (h8:b<256) (h13:b≠13) (h10:b≠10) (hb8:b≠8) (h9:b≠9) (h27:b≠27) (h32:b<32) :
  Calls Tryz.prog 93 #[.pointer (some ⟨g,z.o,none⟩),.int .u8 b] w (SGives z g w (s)):=by
 have HS:=lj hs;have HK:=lj hok;have HN:=lj hn;clear hs hok hn
 have n13:((b:Int) == 13)=false:=by simp; omega
 have n10:((b:Int) == 10)=false:=by simp; omega
 have n8:((b:Int) == 8)=false:=by simp; omega
 have n9:((b:Int) == 9)=false:=by simp; omega
 have n27:((b:Int) == 27)=false:=by simp; omega
 have n32:¬ (32:Int)≤(b:Int):=by omega
 clear h13 h10 hb8 h9 h27 h32
 go_enter Tryz.func93,Tryz.ntmps93
 go_wp2;exact bodyPost_ret (v:=.tuple #[]) (by simp [results,Tryz.results93,go_sem]) rfl ⟨rfl,Only.refl _ w,HS.out⟩
theorem one_del {z:Zo} (g:Nat) (s:Sp) (n b:Nat) (w:World) (hs:SpotIs z g w s) (hok:Ok s n) (hn:n≤1000000000) (h8:b<256) (hb:b=127) :
  Calls Tryz.prog 93 #[.pointer (some ⟨g,z.o,none⟩),.int .u8 b] w (SGives z g w (s)):=by
 have HS:=lj hs;have HK:=lj hok;have HN:=lj hn;clear hs hok hn;subst hb
 go_enter Tryz.func93,Tryz.ntmps93
 go_wp2;exact bodyPost_ret (v:=.tuple #[]) (by simp [results,Tryz.results93,go_sem]) rfl ⟨rfl,Only.refl _ w,HS.out⟩
theorem one_any {z:Zo} (g:Nat) (s:Sp) (n b:Nat) (w:World) (hs:SpotIs z g w s) (hok:Ok s n) (hn:n≤1000000000) (h8:b<256) :
  Calls Tryz.prog 93 #[.pointer (some ⟨g,z.o,none⟩),.int .u8 b] w (SGives z g w (Sp.lone s b)):=by
 unfold Sp.lone
 by_cases h1:b=27
 ·rw [if_pos h1]; exact one_27 g s n b w hs hok hn h8 h1
 rw [if_neg h1]
 by_cases h2:b=13
 ·rw [if_pos h2]; exact one_13 g s n b w hs hok hn h8 h2
 rw [if_neg h2]
 by_cases h3:b=10
 ·rw [if_pos h3,← stp_down s n hok]; exact one_10 g s n b w hs hok hn h8 h3
 rw [if_neg h3]
 by_cases h4:b=8
 ·rw [if_pos h4,← stp_left s n hok]; exact one_8 g s n b w hs hok hn h8 h4
 rw [if_neg h4]
 by_cases h5:b=9
 ·rw [if_pos h5]
  by_cases hc:s.w - 1<s.c / 8 * 8+8
  ·rw [if_pos hc]; exact one_9 g s n b w hs hok hn h8 h5 hc
  ·rw [if_neg hc]
   exact one_9b g s n b w hs hok hn h8 h5 hc
 rw [if_neg h5]
 by_cases h6:b<32
 ·rw [if_pos (.inl h6)]; exact one_lo g s n b w hs hok hn h8 h2 h3 h4 h5 h1 h6
 by_cases h7:b=127
 ·rw [if_pos (.inr h7)]; exact one_del g s n b w hs hok hn h8 h7
 rw [if_neg (by omega)];exact one_s g s n b w hs hok hn h8 h6 h7
end
section
open Go.RowKit
open Sp
theorem SpotIs.seq {z:Zo} {g:Nat} {w:World} {s:Sp} (h:SpotIs z g w s) (q:Int):SpotIs z g (w.setCell ⟨g,z.o+2,none⟩ (.int .i64 q)) { s with q:=q }:=by
 obtain ⟨hl,x,y,hr,hx⟩:=h;exact ⟨by simpa using hl,x,y,hr,hx.set 2 _⟩
theorem SpotIs.quit {z:Zo} {g:Nat} {w:World} {s:Sp} (h:SpotIs z g w s):SpotIs z g (w.setCell ⟨g,z.o+2,none⟩ (.int .i64 0)) { s with q:=0 }:=h.seq 0
theorem only_seq {z:Zo} (g:Nat) (w:World) (v:Value):Only (fun b=>b=g) w (w.setCell ⟨g,z.o+2,none⟩ v):=(Only.refl (fun b=>b=g) w).setCell (p:=⟨g,z.o+2,none⟩) rfl _
theorem put_0 {z:Zo} (g:Nat) (s:Sp) (n b:Nat) (w:World) (hs:SpotIs z g w s) (hok:Ok s n) (hn:n≤1000000000) (h8:b<256) (hq:s.q=0) :
  Calls Tryz.prog 73 #[.pointer (some ⟨g,z.o,none⟩),.int .u8 b] w (SGives z g w (Sp.lone { s with q:=0 } b)):=by
 have HS1:=lj (hs.quit);have HK:=lj (hok.seq 0 (.inl rfl));have HN:=lj hn;obtain ⟨hl,x,y,hr,hx⟩:=hs;have d2:w.cell? ⟨g,z.o+2,none⟩=some (.int .i64 s.q):=hx.cell 2 _ rfl;have f2:=hx.free 2;have HX:=lj (And.intro hl (And.intro hr hx));clear hl hr hx hok hn;rw [hq] at d2;clear hq
 go_enter Tryz.func73,Tryz.ntmps73
 go_wp2_with fail
 refine (one_any g { s with q:=0 } n b _ HS1.out HK.out HN.out h8).mono ?_;rintro e w1 ⟨rfl,ho1,hs1⟩;have HO:=lj (And.intro ho1 hs1);clear ho1 hs1;go_wp2;exact bodyPost_ret (v:=.tuple #[]) (by simp [results,Tryz.results73,go_sem]) rfl ⟨rfl,(only_seq g w _).trans HO.out.1,HO.out.2⟩
theorem put_2 {z:Zo} (g:Nat) (s:Sp) (n b:Nat) (w:World) (hs:SpotIs z g w s) (hok:Ok s n) (hn:n≤1000000000) (h8:b<256) (hq:s.q=2) :
  Calls Tryz.prog 73 #[.pointer (some ⟨g,z.o,none⟩),.int .u8 b] w (SGives z g w (Sp.way { s with q:=0 } b)):=by
 have HS1:=lj (hs.quit);have HK:=lj (hok.seq 0 (.inl rfl));have HN:=lj hn;obtain ⟨hl,x,y,hr,hx⟩:=hs;have d2:w.cell? ⟨g,z.o+2,none⟩=some (.int .i64 s.q):=hx.cell 2 _ rfl;have f2:=hx.free 2;have HX:=lj (And.intro hl (And.intro hr hx));clear hl hr hx hok hn;rw [hq] at d2;clear hq
 go_enter Tryz.func73,Tryz.ntmps73
 go_wp2_with fail
 refine (arrow_any g { s with q:=0 } n b _ HS1.out HK.out HN.out h8).mono ?_;rintro e w1 ⟨rfl,ho1,hs1⟩;have HO:=lj (And.intro ho1 hs1);clear ho1 hs1;go_wp2;exact bodyPost_ret (v:=.tuple #[]) (by simp [results,Tryz.results73,go_sem]) rfl ⟨rfl,(only_seq g w _).trans HO.out.1,HO.out.2⟩
theorem put_1 {z:Zo} (g:Nat) (s:Sp) (n b:Nat) (w:World) (hs:SpotIs z g w s) (hok:Ok s n) (hn:n≤1000000000) (h8:b<256) (hq:s.q=1) (hb:b=91) :
  Calls Tryz.prog 73 #[.pointer (some ⟨g,z.o,none⟩),.int .u8 b] w (SGives z g w ({ s with q:=2 })):=by
 have HS1:=lj (hs.quit);have HK:=lj (hok.seq 0 (.inl rfl));have HN:=lj hn;obtain ⟨hl,x,y,hr,hx⟩:=hs;have d2:w.cell? ⟨g,z.o+2,none⟩=some (.int .i64 s.q):=hx.cell 2 _ rfl;have f2:=hx.free 2;have HX:=lj (And.intro hl (And.intro hr hx));clear hl hr hx hok hn;subst hb;rw [hq] at d2;clear hq
 go_enter Tryz.func73,Tryz.ntmps73
 go_wp2;exact bodyPost_ret (v:=.tuple #[]) (by simp [results,Tryz.results73,go_sem]) rfl ⟨rfl,(only_seq g w _).trans (only_seq g _ _),HS1.out.seq 2⟩
theorem put_1b {z:Zo} (g:Nat) (s:Sp) (n b:Nat) (w:World) (hs:SpotIs z g w s) (hok:Ok s n) (hn:n≤1000000000) (_h8:b<256) (hq:s.q=1) (hb:b≠91) :
  Calls Tryz.prog 73 #[.pointer (some ⟨g,z.o,none⟩),.int .u8 b] w (SGives z g w ({ s with q:=0 })):=by
 have HS1:=lj (hs.quit);have HK:=lj (hok.seq 0 (.inl rfl));have HN:=lj hn;obtain ⟨hl,x,y,hr,hx⟩:=hs;have d2:w.cell? ⟨g,z.o+2,none⟩=some (.int .i64 s.q):=hx.cell 2 _ rfl;have f2:=hx.free 2;have HX:=lj (And.intro hl (And.intro hr hx));clear hl hr hx hok hn
 have n91:((b:Int) == 91)=false:=by simp; omega
 rw [hq] at d2;clear hq
 go_enter Tryz.func73,Tryz.ntmps73
 go_wp2;exact bodyPost_ret (v:=.tuple #[]) (by simp [results,Tryz.results73,go_sem]) rfl ⟨rfl,only_seq g w _,HS1.out⟩
theorem sput1_any {z:Zo} (g:Nat) (s:Sp) (n b:Nat) (w:World) (hs:SpotIs z g w s) (hok:Ok s n) (hn:n≤1000000000) (h8:b<256) :
  Calls Tryz.prog 73 #[.pointer (some ⟨g,z.o,none⟩),.int .u8 b] w (SGives z g w (nxt s b)):=by
 unfold nxt
 rcases hok.q0 with h | h | h
 ·rw [if_neg (by omega),if_neg (by omega)]
  have h2:=put_0 g s n b w hs hok hn h8 h
  rwa [show ({ s with q:=0 }:Sp)=s by rw [← h]] at h2
 ·rw [if_pos h]
  by_cases hb:b=91
  ·rw [if_pos hb]; exact put_1 g s n b w hs hok hn h8 h hb
  ·rw [if_neg hb]; exact put_1b g s n b w hs hok hn h8 h hb
 ·rw [if_neg (by omega),if_pos h]
  exact put_2 g s n b w hs hok hn h8 h
theorem nxts_take (s:Sp) (l:Bs) (k:Nat) (h:k<l.length):nxts s (l.take (k+1))=nxt (nxts s (l.take k)) (l[k]?.getD 0#8).toNat:=by
 rw [List.take_add_one,List.getElem?_eq_getElem h];exact nxts_snoc s (l.take k) l[k]
theorem sput_gives {z:Zo} (g:Nat) (s:Sp) (n:Nat) (a:Option Addr) (m cap B:Nat) (l:Bs) (w:World) (hs:SpotIs z g w s) (hok:Ok s n) (hn:n+m≤1000000) (hl:Bytes w B a m l) (hB:B≤w.heap.size) (hne:0<m→∀ p,a=some p→¬ p.block=g) :
  Calls Tryz.prog 46 #[.pointer (some ⟨g,z.o,none⟩),.slice a m cap] w (SGives z g w (nxts s l)):=by
 have HS:=lj hs;have HK:=lj hok;have HL:=lj (And.intro hl hne);clear hs hok hl hne
 have hm:m≤1000000:=by omega
 go_enter Tryz.func46,Tryz.ntmps46
 go_wp2
 go_loopw [8] (fun i wr=>∃ k:Nat,k≤m∧i = .int .i64 k∧Only (fun b=>b=g) w wr∧SpotIs z g wr (nxts s (l.take k))) (fun i _=>m - (intOf i).toNat)
 case atStart=>exact ⟨0,by omega,rfl,Only.refl _ _,HS.out⟩
 case round =>
  obtain ⟨k,hk,rfl,ho,hs⟩:=hrel;have HO:=lj ho;have HS1:=lj hs;clear ho hs
  by_cases hlt:k<m
  ·have HLw:=HL.out.1.only HO.out hB HL.out.2
   obtain ⟨hlen,hcl⟩:=HLw;obtain ⟨bb,off,rfl,hbB,hc⟩:=hcl (by omega);have hc0:=hc k hlt
   have hkl:k<l.length:=by omega
   have HT:=lj (nxts_take s l k hkl);have h8:(l[k]?.getD 0#8).toNat<256:=(l[k]?.getD 0#8).isLt;have HC:=lj hlen;clear hc hcl hlen;generalize (l[k]?.getD 0#8).toNat=x at *
   go_wp2_with fail
   refine (sput1_any g _ (n+(l.take k).length) x wr HS1.out (HK.out.nxts _) (by rw [List.length_take]; omega) h8).mono ?_;rw [← HT.out];rintro e w1 ⟨rfl,ho1,hs1⟩;have HO1:=lj (And.intro ho1 hs1);clear ho1 hs1;go_wp2;go_roundw
   case rel=>exact ⟨k+1,by omega,by go_num,HO.out.trans HO1.out.1,HO1.out.2⟩
   case measure=>simp [intOf]; omega
  ·obtain rfl:k=m:=by omega
   go_wp2;exact bodyPost_ret (v:=.tuple #[]) (by simp [results,Tryz.results46,go_sem]) rfl ⟨rfl,HO.out,by have:=HS1.out; rwa [List.take_of_length_le (by have:=HL.out.1.1; omega)] at this⟩
theorem sput_any {z:Zo} (g:Nat) (s:Sp) (n:Nat) (a:Option Addr) (m cap B:Nat) (l:Bs) (w:World) (hs:SpotIs z g w s) (hok:Ok s n) (hn:n+m≤1000000) (hl:Bytes w B a m l) (hB:B≤w.heap.size) (hne:0<m→∀ p,a=some p→¬ p.block=g) :
  Calls Tryz.prog 46 #[.pointer (some ⟨g,z.o,none⟩),.slice a m cap] w fun e w'=>e = .returned (.tuple #[])∧Only (fun b=>b=g) w w'∧SpotIs z g w' (nxts s l):=
 sput_gives g s n a m cap B l w hs hok hn hl hB hne
end
end Go.Proofs.YtdpagmcickkbmaaGreatDoor
