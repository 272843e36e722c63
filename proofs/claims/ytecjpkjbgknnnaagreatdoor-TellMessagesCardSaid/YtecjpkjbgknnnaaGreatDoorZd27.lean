/- PScg PScd -/
import Derived.Deep.CutBlock
import Derived.Test.YtecjpkjbgknnnaaGreatDoorZd07
import Derived.Test.YtecjpkjbgknnnaaGreatDoorZd26
namespace Go.Proofs.YtecjpkjbgknnnaaGreatDoor
set_option maxRecDepth 100000
open Go.Lib renaming hid → lj
section
open Go.RowKit
open Sc
def ptrs (gc:Nat):Array Value:=#[.pointer (some ⟨gc,0,none⟩),.pointer (some ⟨gc,1,none⟩),.pointer (some ⟨gc,2,none⟩),.pointer (some ⟨gc,3,none⟩),.pointer (some ⟨gc,4,none⟩),.pointer (some ⟨gc,5,none⟩),.pointer (some ⟨gc,6,none⟩),.pointer (some ⟨gc,7,none⟩)]
theorem parts_any (gc:Nat) (w:World) :
  Calls Tryz.prog 40 #[.pointer (some ⟨gc,0,none⟩)] w fun r w'=>r = .returned (.agg (ptrs gc))∧Below w.heap.size w w':=by
 have hmix:Tryz.prog.follows .mixedOrders=true:=by kernel_rfl
 unfold ptrs
 go_enter Tryz.func40,Tryz.ntmps40
 go_upto_region 1 with fail
 refine wp_region_held (S:=fun _=>True) hmix ?_
 change wpAnyH _ _ _ _ _ _ _ _ (World.drew _)
 have hS0:True:=trivial;refine wpAnyH_take (i:=0) (v:=.pointer (some ⟨gc,0,none⟩)) rfl (by kernel_rfl) (by kernel_rfl) (by kernel_rfl) (fun _ _ _ h=>h) (.inl ⟨by kernel_rfl,fun W hW=>?_⟩) hS0 ?_
 ·go_simp
 refine wpAnyH_take (i:=1) (v:=.pointer (some ⟨gc,0,none⟩)) rfl (by kernel_rfl) (by kernel_rfl) (by kernel_rfl) (fun _ _ _ h=>h) (.inl ⟨by kernel_rfl,fun W hW=>?_⟩) hS0 ?_
 ·go_simp
 refine wpAnyH_take (i:=2) (v:=.pointer (some ⟨gc,0,none⟩)) rfl (by kernel_rfl) (by kernel_rfl) (by kernel_rfl) (fun _ _ _ h=>h) (.inl ⟨by kernel_rfl,fun W hW=>?_⟩) hS0 ?_
 ·go_simp
 refine wpAnyH_take (i:=3) (v:=.pointer (some ⟨gc,0,none⟩)) rfl (by kernel_rfl) (by kernel_rfl) (by kernel_rfl) (fun _ _ _ h=>h) (.inl ⟨by kernel_rfl,fun W hW=>?_⟩) hS0 ?_
 ·go_simp
 refine wpAnyH_take (i:=4) (v:=.pointer (some ⟨gc,0,none⟩)) rfl (by kernel_rfl) (by kernel_rfl) (by kernel_rfl) (fun _ _ _ h=>h) (.inl ⟨by kernel_rfl,fun W hW=>?_⟩) hS0 ?_
 ·go_simp
 refine wpAnyH_take (i:=5) (v:=.pointer (some ⟨gc,1,none⟩)) rfl (by kernel_rfl) (by kernel_rfl) (by kernel_rfl) (fun _ _ _ h=>h) (.inl ⟨by kernel_rfl,fun W hW=>?_⟩) hS0 ?_
 ·go_simp
 refine wpAnyH_take (i:=6) (v:=.pointer (some ⟨gc,0,none⟩)) rfl (by kernel_rfl) (by kernel_rfl) (by kernel_rfl) (fun _ _ _ h=>h) (.inl ⟨by kernel_rfl,fun W hW=>?_⟩) hS0 ?_
 ·go_simp
 refine wpAnyH_take (i:=7) (v:=.pointer (some ⟨gc,0,none⟩)) rfl (by kernel_rfl) (by kernel_rfl) (by kernel_rfl) (fun _ _ _ h=>h) (.inl ⟨by kernel_rfl,fun W hW=>?_⟩) hS0 ?_
 ·go_simp
 refine wpAnyH_take (i:=8) (v:=.pointer (some ⟨gc,2,none⟩)) rfl (by kernel_rfl) (by kernel_rfl) (by kernel_rfl) (fun _ _ _ h=>h) (.inl ⟨by kernel_rfl,fun W hW=>?_⟩) hS0 ?_
 ·go_simp
 refine wpAnyH_take (i:=9) (v:=.pointer (some ⟨gc,0,none⟩)) rfl (by kernel_rfl) (by kernel_rfl) (by kernel_rfl) (fun _ _ _ h=>h) (.inl ⟨by kernel_rfl,fun W hW=>?_⟩) hS0 ?_
 ·go_simp
 refine wpAnyH_take (i:=10) (v:=.pointer (some ⟨gc,0,none⟩)) rfl (by kernel_rfl) (by kernel_rfl) (by kernel_rfl) (fun _ _ _ h=>h) (.inl ⟨by kernel_rfl,fun W hW=>?_⟩) hS0 ?_
 ·go_simp
 refine wpAnyH_take (i:=11) (v:=.pointer (some ⟨gc,3,none⟩)) rfl (by kernel_rfl) (by kernel_rfl) (by kernel_rfl) (fun _ _ _ h=>h) (.inl ⟨by kernel_rfl,fun W hW=>?_⟩) hS0 ?_
 ·go_simp
 refine wpAnyH_take (i:=12) (v:=.pointer (some ⟨gc,0,none⟩)) rfl (by kernel_rfl) (by kernel_rfl) (by kernel_rfl) (fun _ _ _ h=>h) (.inl ⟨by kernel_rfl,fun W hW=>?_⟩) hS0 ?_
 ·go_simp
 refine wpAnyH_take (i:=13) (v:=.pointer (some ⟨gc,0,none⟩)) rfl (by kernel_rfl) (by kernel_rfl) (by kernel_rfl) (fun _ _ _ h=>h) (.inl ⟨by kernel_rfl,fun W hW=>?_⟩) hS0 ?_
 ·go_simp
 refine wpAnyH_take (i:=14) (v:=.pointer (some ⟨gc,4,none⟩)) rfl (by kernel_rfl) (by kernel_rfl) (by kernel_rfl) (fun _ _ _ h=>h) (.inl ⟨by kernel_rfl,fun W hW=>?_⟩) hS0 ?_
 ·go_simp
 refine wpAnyH_take (i:=15) (v:=.pointer (some ⟨gc,0,none⟩)) rfl (by kernel_rfl) (by kernel_rfl) (by kernel_rfl) (fun _ _ _ h=>h) (.inl ⟨by kernel_rfl,fun W hW=>?_⟩) hS0 ?_
 ·go_simp
 refine wpAnyH_take (i:=16) (v:=.pointer (some ⟨gc,0,none⟩)) rfl (by kernel_rfl) (by kernel_rfl) (by kernel_rfl) (fun _ _ _ h=>h) (.inl ⟨by kernel_rfl,fun W hW=>?_⟩) hS0 ?_
 ·go_simp
 refine wpAnyH_take (i:=17) (v:=.pointer (some ⟨gc,5,none⟩)) rfl (by kernel_rfl) (by kernel_rfl) (by kernel_rfl) (fun _ _ _ h=>h) (.inl ⟨by kernel_rfl,fun W hW=>?_⟩) hS0 ?_
 ·go_simp
 refine wpAnyH_take (i:=18) (v:=.pointer (some ⟨gc,0,none⟩)) rfl (by kernel_rfl) (by kernel_rfl) (by kernel_rfl) (fun _ _ _ h=>h) (.inl ⟨by kernel_rfl,fun W hW=>?_⟩) hS0 ?_
 ·go_simp
 refine wpAnyH_take (i:=19) (v:=.pointer (some ⟨gc,0,none⟩)) rfl (by kernel_rfl) (by kernel_rfl) (by kernel_rfl) (fun _ _ _ h=>h) (.inl ⟨by kernel_rfl,fun W hW=>?_⟩) hS0 ?_
 ·go_simp
 refine wpAnyH_take (i:=20) (v:=.pointer (some ⟨gc,6,none⟩)) rfl (by kernel_rfl) (by kernel_rfl) (by kernel_rfl) (fun _ _ _ h=>h) (.inl ⟨by kernel_rfl,fun W hW=>?_⟩) hS0 ?_
 ·go_simp
 refine wpAnyH_take (i:=21) (v:=.pointer (some ⟨gc,0,none⟩)) rfl (by kernel_rfl) (by kernel_rfl) (by kernel_rfl) (fun _ _ _ h=>h) (.inl ⟨by kernel_rfl,fun W hW=>?_⟩) hS0 ?_
 ·go_simp
 refine wpAnyH_take (i:=22) (v:=.pointer (some ⟨gc,0,none⟩)) rfl (by kernel_rfl) (by kernel_rfl) (by kernel_rfl) (fun _ _ _ h=>h) (.inl ⟨by kernel_rfl,fun W hW=>?_⟩) hS0 ?_
 ·go_simp
 refine wpAnyH_take (i:=23) (v:=.pointer (some ⟨gc,7,none⟩)) rfl (by kernel_rfl) (by kernel_rfl) (by kernel_rfl) (fun _ _ _ h=>h) (.inl ⟨by kernel_rfl,fun W hW=>?_⟩) hS0 ?_
 ·go_simp
 refine wpAnyH_take (i:=24) (v:=.agg #[.pointer (some ⟨gc,0,none⟩),.pointer (some ⟨gc,1,none⟩),.pointer (some ⟨gc,2,none⟩),.pointer (some ⟨gc,3,none⟩),.pointer (some ⟨gc,4,none⟩),.pointer (some ⟨gc,5,none⟩),.pointer (some ⟨gc,6,none⟩),.pointer (some ⟨gc,7,none⟩)]) rfl (by kernel_rfl) (by kernel_rfl) (by kernel_rfl) (fun _ _ _ h=>h) (.inl ⟨by kernel_rfl,fun W hW=>?_⟩) hS0 ?_
 ·go_simp
 refine wpAnyH_all (rs:=[25]) (by kernel_rfl) (by simp) ?_;intro z hz;rw [List.mem_singleton.1 hz];clear hz;unfold wpOp
 go_simp
 refine .inl ?_;refine wpAnyH_done (by kernel_rfl) ?_ _;have hx:=Bx.new w _ rfl #[.pointer (some ⟨gc,0,none⟩),.pointer (some ⟨gc,1,none⟩),.pointer (some ⟨gc,2,none⟩),.pointer (some ⟨gc,3,none⟩),.pointer (some ⟨gc,4,none⟩),.pointer (some ⟨gc,5,none⟩),.pointer (some ⟨gc,6,none⟩),.pointer (some ⟨gc,7,none⟩)] 97;have hb:Below w.heap.size w (w.alloc (.cells #[.pointer (some ⟨gc,0,none⟩),.pointer (some ⟨gc,1,none⟩),.pointer (some ⟨gc,2,none⟩),.pointer (some ⟨gc,3,none⟩),.pointer (some ⟨gc,4,none⟩),.pointer (some ⟨gc,5,none⟩),.pointer (some ⟨gc,6,none⟩),.pointer (some ⟨gc,7,none⟩)] 97)):=(Below.refl _ _).alloc (Nat.le_refl _) _;have hx:=drew_pair ⟨hx,hb⟩;clear hb;generalize World.drew _=W at hx ⊢;go_wp2;have h0:=hx.1.cell 0 _ rfl;have h1:=hx.1.cell 1 _ rfl;have h2:=hx.1.cell 2 _ rfl;have h3:=hx.1.cell 3 _ rfl;have h4:=hx.1.cell 4 _ rfl;have h5:=hx.1.cell 5 _ rfl;have h6:=hx.1.cell 6 _ rfl;have h7:=hx.1.cell 7 _ rfl;exact bodyPost_ret (by simp [results,go_sem,h0,h1,h2,h3,h4,h5,h6,h7]) rfl ⟨rfl,hx.2⟩
def cf8 (f:Nat→Nat):Array Value:=#[.int .i64 (f 0),.int .i64 (f 1),.int .i64 (f 2),.int .i64 (f 3),.int .i64 (f 4),.int .i64 (f 5),.int .i64 (f 6),.int .i64 (f 7)]
def cof (l:Bs) (i:Nat):Nat:=nat ((l.drop (3 * i)).take 3)
def upto (l:Bs) (j:Nat) (i:Nat):Nat:=if i<j then cof l i else 0
theorem set8 {g B:Nat} {w0 w:World} {z:Nat→Nat} {f:Nat→Nat} (h:Bx g w (cf8 z)) (hb:Below B w0 w) (hB:B≤g) :
  Bx g ((((((((w.setCell ⟨g,0,none⟩ (.int .i64 (f 0))).setCell ⟨g,1,none⟩ (.int .i64 (f 1))).setCell ⟨g,2,none⟩ (.int .i64 (f 2))).setCell ⟨g,3,none⟩ (.int .i64 (f 3))).setCell ⟨g,4,none⟩ (.int .i64 (f 4))).setCell ⟨g,5,none⟩ (.int .i64 (f 5))).setCell ⟨g,6,none⟩ (.int .i64 (f 6))).setCell ⟨g,7,none⟩ (.int .i64 (f 7))) (cf8 f) ∧
  Below B w0 ((((((((w.setCell ⟨g,0,none⟩ (.int .i64 (f 0))).setCell ⟨g,1,none⟩ (.int .i64 (f 1))).setCell ⟨g,2,none⟩ (.int .i64 (f 2))).setCell ⟨g,3,none⟩ (.int .i64 (f 3))).setCell ⟨g,4,none⟩ (.int .i64 (f 4))).setCell ⟨g,5,none⟩ (.int .i64 (f 5))).setCell ⟨g,6,none⟩ (.int .i64 (f 6))).setCell ⟨g,7,none⟩ (.int .i64 (f 7))):=by
 have h0:Bx g _ #[.int .i64 (f 0:Nat),.int .i64 (z 1:Nat),.int .i64 (z 2:Nat),.int .i64 (z 3:Nat),.int .i64 (z 4:Nat),.int .i64 (z 5:Nat),.int .i64 (z 6:Nat),.int .i64 (z 7:Nat)]:=h.set 0 (.int .i64 (f 0:Nat));have h1:Bx g _ #[.int .i64 (f 0:Nat),.int .i64 (f 1:Nat),.int .i64 (z 2:Nat),.int .i64 (z 3:Nat),.int .i64 (z 4:Nat),.int .i64 (z 5:Nat),.int .i64 (z 6:Nat),.int .i64 (z 7:Nat)]:=h0.set 1 (.int .i64 (f 1:Nat));have h2:Bx g _ #[.int .i64 (f 0:Nat),.int .i64 (f 1:Nat),.int .i64 (f 2:Nat),.int .i64 (z 3:Nat),.int .i64 (z 4:Nat),.int .i64 (z 5:Nat),.int .i64 (z 6:Nat),.int .i64 (z 7:Nat)]:=h1.set 2 (.int .i64 (f 2:Nat));have h3:Bx g _ #[.int .i64 (f 0:Nat),.int .i64 (f 1:Nat),.int .i64 (f 2:Nat),.int .i64 (f 3:Nat),.int .i64 (z 4:Nat),.int .i64 (z 5:Nat),.int .i64 (z 6:Nat),.int .i64 (z 7:Nat)]:=h2.set 3 (.int .i64 (f 3:Nat));have h4:Bx g _ #[.int .i64 (f 0:Nat),.int .i64 (f 1:Nat),.int .i64 (f 2:Nat),.int .i64 (f 3:Nat),.int .i64 (f 4:Nat),.int .i64 (z 5:Nat),.int .i64 (z 6:Nat),.int .i64 (z 7:Nat)]:=h3.set 4 (.int .i64 (f 4:Nat));have h5:Bx g _ #[.int .i64 (f 0:Nat),.int .i64 (f 1:Nat),.int .i64 (f 2:Nat),.int .i64 (f 3:Nat),.int .i64 (f 4:Nat),.int .i64 (f 5:Nat),.int .i64 (z 6:Nat),.int .i64 (z 7:Nat)]:=h4.set 5 (.int .i64 (f 5:Nat));have h6:Bx g _ #[.int .i64 (f 0:Nat),.int .i64 (f 1:Nat),.int .i64 (f 2:Nat),.int .i64 (f 3:Nat),.int .i64 (f 4:Nat),.int .i64 (f 5:Nat),.int .i64 (f 6:Nat),.int .i64 (z 7:Nat)]:=h5.set 6 (.int .i64 (f 6:Nat));have h7:Bx g _ #[.int .i64 (f 0:Nat),.int .i64 (f 1:Nat),.int .i64 (f 2:Nat),.int .i64 (f 3:Nat),.int .i64 (f 4:Nat),.int .i64 (f 5:Nat),.int .i64 (f 6:Nat),.int .i64 (f 7:Nat)]:=h6.set 7 (.int .i64 (f 7:Nat));have b0:=hb.setCell (p:=⟨g,0,none⟩) hB (.int .i64 (f 0));have b1:=b0.setCell (p:=⟨g,1,none⟩) hB (.int .i64 (f 1));have b2:=b1.setCell (p:=⟨g,2,none⟩) hB (.int .i64 (f 2));have b3:=b2.setCell (p:=⟨g,3,none⟩) hB (.int .i64 (f 3));have b4:=b3.setCell (p:=⟨g,4,none⟩) hB (.int .i64 (f 4));have b5:=b4.setCell (p:=⟨g,5,none⟩) hB (.int .i64 (f 5));have b6:=b5.setCell (p:=⟨g,6,none⟩) hB (.int .i64 (f 6));have b7:=b6.setCell (p:=⟨g,7,none⟩) hB (.int .i64 (f 7));exact ⟨h7,b7⟩
theorem getc_any (a:Option Addr) (n cap:Nat) (l:Bs) (w:World) (hl:Bytes w w.heap.size a n l) (hn:24≤n) (hcap:n≤cap) (hm:cap≤9223372036854775807) :
  Calls Tryz.prog 26 #[.slice a n cap] w fun r w'=>r = .returned (.agg (cf8 (cof l)))∧Below w.heap.size w w':=by
 obtain ⟨b,off,rfl,hbB,_⟩:=hl.2 (by omega);have HL:=lj hl;clear hl;have hb1:Below w.heap.size w ((w.alloc (.cells #[.int .i64 0,.int .i64 0,.int .i64 0,.int .i64 0,.int .i64 0,.int .i64 0,.int .i64 0,.int .i64 0] 38)).alloc (.cells #[.int .i64 0,.int .i64 0,.int .i64 0,.int .i64 0,.int .i64 0,.int .i64 0,.int .i64 0,.int .i64 0] 38)):=((Below.refl _ _).alloc (Nat.le_refl _) _).alloc (by simp) _;have hx1:Bx (w.heap.size+1) ((w.alloc (.cells #[.int .i64 0,.int .i64 0,.int .i64 0,.int .i64 0,.int .i64 0,.int .i64 0,.int .i64 0,.int .i64 0] 38)).alloc (.cells #[.int .i64 0,.int .i64 0,.int .i64 0,.int .i64 0,.int .i64 0,.int .i64 0,.int .i64 0,.int .i64 0] 38)) (cf8 (upto l 0)):=Bx.new (w.alloc _) (w.heap.size+1) (by simp) _ _;have hx0:Bx w.heap.size ((w.alloc (.cells #[.int .i64 0,.int .i64 0,.int .i64 0,.int .i64 0,.int .i64 0,.int .i64 0,.int .i64 0,.int .i64 0] 38)).alloc (.cells #[.int .i64 0,.int .i64 0,.int .i64 0,.int .i64 0,.int .i64 0,.int .i64 0,.int .i64 0,.int .i64 0] 38)) (cf8 fun _=>0):=(Bx.new w _ rfl _ _).go ((Below.refl _ _).alloc (Nat.le_refl _) _) (by simp);have HB1:=lj hb1;have HX1:=lj hx1;have HX0:=lj hx0;clear hb1 hx1 hx0
 go_enter Tryz.func26,Tryz.ntmps26
 go_upto_region 2 with fail
 generalize (World.alloc _ _).alloc _=w1 at *
 obtain ⟨g,hg⟩:∃ g,w.heap.size=g:=⟨_,rfl⟩
 rw [hg] at HL HB1 HX1 HX0 hbB;simp only [hg];have HG:=lj hg;clear hg
 go_wp2_with fail
 refine (parts_any (g+1) w1).mono ?_;rintro e w2 ⟨rfl,hb2⟩;have HB2:=lj (Below.trans HB1.out (hb2.mono (by have:=HX0.out.room; omega)));have HX2:=lj (HX1.out.go hb2 HX1.out.room);have HX3:=lj (HX0.out.go hb2 HX0.out.room);clear hb2 HB1 HX1 HX0;unfold ptrs
 go_wp2_with fail
 go_loopw [7] (fun i wr=>∃ k:Nat,k≤8∧i = .int .i64 (k:Nat)∧Bx (g+1) wr (cf8 (upto l k))∧Bx g wr (cf8 fun _=>0)∧Below g w wr) (fun i _=>8 - (intOf i).toNat)
 case atStart=>exact ⟨0,by omega,rfl,HX2.out,HX3.out,HB2.out⟩
 case round =>
  obtain ⟨k,hk,rfl,hx,hx0,hb⟩:=hrel;have HX:=lj hx;have HY:=lj hx0;have HB:=lj hb;have HW:=lj hx.room;clear hx hx0 hb HX2 HX3 HB2
  rcases (show k=0∨k=1∨k=2∨k=3∨k=4∨k=5∨k=6∨k=7∨k=8 by omega) with rfl | rfl | rfl | rfl | rfl | rfl | rfl | rfl | rfl
  ·have HF:=lj (show Bytes wr g (some ⟨b,off+0,none⟩) 3 ((l.drop 0).take 3) from ((HL.out.below HB.out).cut2 (cap:=cap) (j:=0) (by omega) hcap (by omega)).take (by omega))
   have hc:=HX.out.cell 0 _ rfl;have hfz:=HX.out.free 0
   have hne:¬ cap=0:=by omega
   have hix:∀ W:World,(Instr.index 97 (.agg #[.pointer (some ⟨g+1,0,none⟩),.pointer (some ⟨g+1,1,none⟩),.pointer (some ⟨g+1,2,none⟩),.pointer (some ⟨g+1,3,none⟩),.pointer (some ⟨g+1,4,none⟩),.pointer (some ⟨g+1,5,none⟩),.pointer (some ⟨g+1,6,none⟩),.pointer (some ⟨g+1,7,none⟩)]) (.int .i64 0)).run Tryz.prog W = .ok (.pointer (some ⟨g+1,0,none⟩)) W:=fun _=>by kernel_rfl
   go_wp2_with fail
   refine (number_anyS _ 3 (cap) g ((l.drop 0).take 3) wr HF.out (by omega) (by omega)).mono ?_;rintro e w3 ⟨rfl,rfl⟩
   go_wp2_with fail
   go_roundw
   case rel=>exact ⟨1,by omega,by go_num,HX.out.set 0 _,HY.out.other (by simp) _,HB.out.setCell (by simp) _⟩
   case measure=>simp [intOf]
  ·have HF:=lj (show Bytes wr g (some ⟨b,off+3,none⟩) 3 ((l.drop 3).take 3) from ((HL.out.below HB.out).cut2 (cap:=cap) (j:=3) (by omega) hcap (by omega)).take (by omega))
   have hc:=HX.out.cell 1 _ rfl;have hfz:=HX.out.free 1
   have hne:¬ cap=3:=by omega
   have hix:∀ W:World,(Instr.index 97 (.agg #[.pointer (some ⟨g+1,0,none⟩),.pointer (some ⟨g+1,1,none⟩),.pointer (some ⟨g+1,2,none⟩),.pointer (some ⟨g+1,3,none⟩),.pointer (some ⟨g+1,4,none⟩),.pointer (some ⟨g+1,5,none⟩),.pointer (some ⟨g+1,6,none⟩),.pointer (some ⟨g+1,7,none⟩)]) (.int .i64 1)).run Tryz.prog W = .ok (.pointer (some ⟨g+1,1,none⟩)) W:=fun _=>by kernel_rfl
   go_wp2_with fail
   refine (number_anyS _ 3 (cap - 3) g ((l.drop 3).take 3) wr HF.out (by omega) (by omega)).mono ?_;rintro e w3 ⟨rfl,rfl⟩
   go_wp2_with fail
   go_roundw
   case rel=>exact ⟨2,by omega,by go_num,HX.out.set 1 _,HY.out.other (by simp) _,HB.out.setCell (by simp) _⟩
   case measure=>simp [intOf]
  ·have HF:=lj (show Bytes wr g (some ⟨b,off+6,none⟩) 3 ((l.drop 6).take 3) from ((HL.out.below HB.out).cut2 (cap:=cap) (j:=6) (by omega) hcap (by omega)).take (by omega))
   have hc:=HX.out.cell 2 _ rfl;have hfz:=HX.out.free 2
   have hne:¬ cap=6:=by omega
   have hix:∀ W:World,(Instr.index 97 (.agg #[.pointer (some ⟨g+1,0,none⟩),.pointer (some ⟨g+1,1,none⟩),.pointer (some ⟨g+1,2,none⟩),.pointer (some ⟨g+1,3,none⟩),.pointer (some ⟨g+1,4,none⟩),.pointer (some ⟨g+1,5,none⟩),.pointer (some ⟨g+1,6,none⟩),.pointer (some ⟨g+1,7,none⟩)]) (.int .i64 2)).run Tryz.prog W = .ok (.pointer (some ⟨g+1,2,none⟩)) W:=fun _=>by kernel_rfl
   go_wp2_with fail
   refine (number_anyS _ 3 (cap - 6) g ((l.drop 6).take 3) wr HF.out (by omega) (by omega)).mono ?_;rintro e w3 ⟨rfl,rfl⟩
   go_wp2_with fail
   go_roundw
   case rel=>exact ⟨3,by omega,by go_num,HX.out.set 2 _,HY.out.other (by simp) _,HB.out.setCell (by simp) _⟩
   case measure=>simp [intOf]
  ·have HF:=lj (show Bytes wr g (some ⟨b,off+9,none⟩) 3 ((l.drop 9).take 3) from ((HL.out.below HB.out).cut2 (cap:=cap) (j:=9) (by omega) hcap (by omega)).take (by omega))
   have hc:=HX.out.cell 3 _ rfl;have hfz:=HX.out.free 3
   have hne:¬ cap=9:=by omega
   have hix:∀ W:World,(Instr.index 97 (.agg #[.pointer (some ⟨g+1,0,none⟩),.pointer (some ⟨g+1,1,none⟩),.pointer (some ⟨g+1,2,none⟩),.pointer (some ⟨g+1,3,none⟩),.pointer (some ⟨g+1,4,none⟩),.pointer (some ⟨g+1,5,none⟩),.pointer (some ⟨g+1,6,none⟩),.pointer (some ⟨g+1,7,none⟩)]) (.int .i64 3)).run Tryz.prog W = .ok (.pointer (some ⟨g+1,3,none⟩)) W:=fun _=>by kernel_rfl
   go_wp2_with fail
   refine (number_anyS _ 3 (cap - 9) g ((l.drop 9).take 3) wr HF.out (by omega) (by omega)).mono ?_;rintro e w3 ⟨rfl,rfl⟩
   go_wp2_with fail
   go_roundw
   case rel=>exact ⟨4,by omega,by go_num,HX.out.set 3 _,HY.out.other (by simp) _,HB.out.setCell (by simp) _⟩
   case measure=>simp [intOf]
  ·have HF:=lj (show Bytes wr g (some ⟨b,off+12,none⟩) 3 ((l.drop 12).take 3) from ((HL.out.below HB.out).cut2 (cap:=cap) (j:=12) (by omega) hcap (by omega)).take (by omega))
   have hc:=HX.out.cell 4 _ rfl;have hfz:=HX.out.free 4
   have hne:¬ cap=12:=by omega
   have hix:∀ W:World,(Instr.index 97 (.agg #[.pointer (some ⟨g+1,0,none⟩),.pointer (some ⟨g+1,1,none⟩),.pointer (some ⟨g+1,2,none⟩),.pointer (some ⟨g+1,3,none⟩),.pointer (some ⟨g+1,4,none⟩),.pointer (some ⟨g+1,5,none⟩),.pointer (some ⟨g+1,6,none⟩),.pointer (some ⟨g+1,7,none⟩)]) (.int .i64 4)).run Tryz.prog W = .ok (.pointer (some ⟨g+1,4,none⟩)) W:=fun _=>by kernel_rfl
   go_wp2_with fail
   refine (number_anyS _ 3 (cap - 12) g ((l.drop 12).take 3) wr HF.out (by omega) (by omega)).mono ?_;rintro e w3 ⟨rfl,rfl⟩
   go_wp2_with fail
   go_roundw
   case rel=>exact ⟨5,by omega,by go_num,HX.out.set 4 _,HY.out.other (by simp) _,HB.out.setCell (by simp) _⟩
   case measure=>simp [intOf]
  ·have HF:=lj (show Bytes wr g (some ⟨b,off+15,none⟩) 3 ((l.drop 15).take 3) from ((HL.out.below HB.out).cut2 (cap:=cap) (j:=15) (by omega) hcap (by omega)).take (by omega))
   have hc:=HX.out.cell 5 _ rfl;have hfz:=HX.out.free 5
   have hne:¬ cap=15:=by omega
   have hix:∀ W:World,(Instr.index 97 (.agg #[.pointer (some ⟨g+1,0,none⟩),.pointer (some ⟨g+1,1,none⟩),.pointer (some ⟨g+1,2,none⟩),.pointer (some ⟨g+1,3,none⟩),.pointer (some ⟨g+1,4,none⟩),.pointer (some ⟨g+1,5,none⟩),.pointer (some ⟨g+1,6,none⟩),.pointer (some ⟨g+1,7,none⟩)]) (.int .i64 5)).run Tryz.prog W = .ok (.pointer (some ⟨g+1,5,none⟩)) W:=fun _=>by kernel_rfl
   go_wp2_with fail
   refine (number_anyS _ 3 (cap - 15) g ((l.drop 15).take 3) wr HF.out (by omega) (by omega)).mono ?_;rintro e w3 ⟨rfl,rfl⟩
   go_wp2_with fail
   go_roundw
   case rel=>exact ⟨6,by omega,by go_num,HX.out.set 5 _,HY.out.other (by simp) _,HB.out.setCell (by simp) _⟩
   case measure=>simp [intOf]
  ·have HF:=lj (show Bytes wr g (some ⟨b,off+18,none⟩) 3 ((l.drop 18).take 3) from ((HL.out.below HB.out).cut2 (cap:=cap) (j:=18) (by omega) hcap (by omega)).take (by omega))
   have hc:=HX.out.cell 6 _ rfl;have hfz:=HX.out.free 6
   have hne:¬ cap=18:=by omega
   have hix:∀ W:World,(Instr.index 97 (.agg #[.pointer (some ⟨g+1,0,none⟩),.pointer (some ⟨g+1,1,none⟩),.pointer (some ⟨g+1,2,none⟩),.pointer (some ⟨g+1,3,none⟩),.pointer (some ⟨g+1,4,none⟩),.pointer (some ⟨g+1,5,none⟩),.pointer (some ⟨g+1,6,none⟩),.pointer (some ⟨g+1,7,none⟩)]) (.int .i64 6)).run Tryz.prog W = .ok (.pointer (some ⟨g+1,6,none⟩)) W:=fun _=>by kernel_rfl
   go_wp2_with fail
   refine (number_anyS _ 3 (cap - 18) g ((l.drop 18).take 3) wr HF.out (by omega) (by omega)).mono ?_;rintro e w3 ⟨rfl,rfl⟩
   go_wp2_with fail
   go_roundw
   case rel=>exact ⟨7,by omega,by go_num,HX.out.set 6 _,HY.out.other (by simp) _,HB.out.setCell (by simp) _⟩
   case measure=>simp [intOf]
  ·have HF:=lj (show Bytes wr g (some ⟨b,off+21,none⟩) 3 ((l.drop 21).take 3) from ((HL.out.below HB.out).cut2 (cap:=cap) (j:=21) (by omega) hcap (by omega)).take (by omega))
   have hc:=HX.out.cell 7 _ rfl;have hfz:=HX.out.free 7
   have hne:¬ cap=21:=by omega
   have hix:∀ W:World,(Instr.index 97 (.agg #[.pointer (some ⟨g+1,0,none⟩),.pointer (some ⟨g+1,1,none⟩),.pointer (some ⟨g+1,2,none⟩),.pointer (some ⟨g+1,3,none⟩),.pointer (some ⟨g+1,4,none⟩),.pointer (some ⟨g+1,5,none⟩),.pointer (some ⟨g+1,6,none⟩),.pointer (some ⟨g+1,7,none⟩)]) (.int .i64 7)).run Tryz.prog W = .ok (.pointer (some ⟨g+1,7,none⟩)) W:=fun _=>by kernel_rfl
   go_wp2_with fail
   refine (number_anyS _ 3 (cap - 21) g ((l.drop 21).take 3) wr HF.out (by omega) (by omega)).mono ?_;rintro e w3 ⟨rfl,rfl⟩
   go_wp2_with fail
   go_roundw
   case rel=>exact ⟨8,by omega,by go_num,HX.out.set 7 _,HY.out.other (by simp) _,HB.out.setCell (by simp) _⟩
   case measure=>simp [intOf]
  ·have h0:wr.cell? ⟨g+1,0,none⟩=some (.int .i64 (cof l 0:Nat)):=HX.out.cell 0 _ rfl
   have h1:wr.cell? ⟨g+1,1,none⟩=some (.int .i64 (cof l 1:Nat)):=HX.out.cell 1 _ rfl;have h2:wr.cell? ⟨g+1,2,none⟩=some (.int .i64 (cof l 2:Nat)):=HX.out.cell 2 _ rfl;have h3:wr.cell? ⟨g+1,3,none⟩=some (.int .i64 (cof l 3:Nat)):=HX.out.cell 3 _ rfl;have h4:wr.cell? ⟨g+1,4,none⟩=some (.int .i64 (cof l 4:Nat)):=HX.out.cell 4 _ rfl;have h5:wr.cell? ⟨g+1,5,none⟩=some (.int .i64 (cof l 5:Nat)):=HX.out.cell 5 _ rfl;have h6:wr.cell? ⟨g+1,6,none⟩=some (.int .i64 (cof l 6:Nat)):=HX.out.cell 6 _ rfl;have h7:wr.cell? ⟨g+1,7,none⟩=some (.int .i64 (cof l 7:Nat)):=HX.out.cell 7 _ rfl;have c0:wr.cell? ⟨g,0,none⟩=some (.int .i64 0):=HY.out.cell 0 _ rfl;have f0:=HY.out.free 0;have c1:wr.cell? ⟨g,1,none⟩=some (.int .i64 0):=HY.out.cell 1 _ rfl;have f1:=HY.out.free 1;have c2:wr.cell? ⟨g,2,none⟩=some (.int .i64 0):=HY.out.cell 2 _ rfl;have f2:=HY.out.free 2;have c3:wr.cell? ⟨g,3,none⟩=some (.int .i64 0):=HY.out.cell 3 _ rfl;have f3:=HY.out.free 3;have c4:wr.cell? ⟨g,4,none⟩=some (.int .i64 0):=HY.out.cell 4 _ rfl;have f4:=HY.out.free 4;have c5:wr.cell? ⟨g,5,none⟩=some (.int .i64 0):=HY.out.cell 5 _ rfl;have f5:=HY.out.free 5;have c6:wr.cell? ⟨g,6,none⟩=some (.int .i64 0):=HY.out.cell 6 _ rfl;have f6:=HY.out.free 6;have c7:wr.cell? ⟨g,7,none⟩=some (.int .i64 0):=HY.out.cell 7 _ rfl;have f7:=HY.out.free 7;have hfin:=set8 (f:=cof l) HY.out HB.out (Nat.le_refl _);go_wp2;generalize World.setCell _ _ _=W at hfin ⊢;have r0:=hfin.1.cell 0 _ rfl;have r1:=hfin.1.cell 1 _ rfl;have r2:=hfin.1.cell 2 _ rfl;have r3:=hfin.1.cell 3 _ rfl;have r4:=hfin.1.cell 4 _ rfl;have r5:=hfin.1.cell 5 _ rfl;have r6:=hfin.1.cell 6 _ rfl;have r7:=hfin.1.cell 7 _ rfl;exact bodyPost_ret (by simp [results,go_sem,r0,r1,r2,r3,r4,r5,r6,r7]; rfl) rfl ⟨rfl,by rw [HG.out]; exact hfin.2⟩
theorem set4S {g B:Nat} {w0 w:World} {a0 b0 c0 d0 a b c d:Value} (h:Bx g w #[a0,b0,c0,d0]) (hb:Below B w0 w) (hB:B≤g) :
  Bx g ((((w.setCell ⟨g,0,none⟩ a).setCell ⟨g,1,none⟩ b).setCell ⟨g,2,none⟩ c).setCell ⟨g,3,none⟩ d) #[a,b,c,d] ∧
  Below B w0 ((((w.setCell ⟨g,0,none⟩ a).setCell ⟨g,1,none⟩ b).setCell ⟨g,2,none⟩ c).setCell ⟨g,3,none⟩ d):=by
 have h0:=h.set 0 a;have h1:=h0.set 1 b;have h2:=h1.set 2 c;have h3:=h2.set 3 d;have k0:=hb.setCell (p:=⟨g,0,none⟩) hB a;have k1:=k0.setCell (p:=⟨g,1,none⟩) hB b;have k2:=k1.setCell (p:=⟨g,2,none⟩) hB c;have k3:=k2.setCell (p:=⟨g,3,none⟩) hB d;exact ⟨h3,k3⟩
def GGives (l:Bs) (w:World) (r:Ending) (w':World):Prop:=
 ∃ (e:Ev) (m er:Nat),r = .returned (.tuple #[evv e,.int .i64 m,.int .i64 er])∧Below w.heap.size w w' ∧
  ((er=5∧shortB l)∨(er=0∧wholeB l∧rtE (evOf l)=true∧e=evOf l∧m=size l)∨(er=8∧wholeB l∧rtE (evOf l)=false))
theorem g_short {l:Bs} {w w':World} (h:shortB l) (hb:Below w.heap.size w w'):GGives l w (.returned (.tuple #[evv ⟨0,0,0,[]⟩,.int .i64 0,.int .i64 5])) w':=
 ⟨⟨0,0,0,[]⟩,0,5,rfl,hb,.inl ⟨rfl,h⟩⟩
theorem g_form {l:Bs} {w w':World} (h:wholeB l) (hr:rtE (evOf l)=false) (hb:Below w.heap.size w w'):GGives l w (.returned (.tuple #[evv ⟨0,0,0,[]⟩,.int .i64 0,.int .i64 8])) w':=
 ⟨⟨0,0,0,[]⟩,0,8,rfl,hb,.inr (.inr ⟨rfl,h,hr⟩)⟩
theorem g_ok {l:Bs} {w w':World} (h:wholeB l) (hr:rtE (evOf l)=true) (hb:Below w.heap.size w w'):GGives l w (.returned (.tuple #[evv (evOf l),.int .i64 (size l),.int .i64 0])) w':=
 ⟨evOf l,size l,0,rfl,hb,.inr (.inl ⟨rfl,h,hr,rfl,rfl⟩)⟩
set_option maxHeartbeats 1000000 in
theorem get16_any (a:Option Addr) (n cap:Nat) (l:Bs) (w:World) (hl:Bytes w w.heap.size a n l) (hcap:n≤cap) (hm:cap≤9223372036854775807) :
    Calls Tryz.prog 28 #[.slice a n cap] w (GGives l w):=by
  have hlen:=hl.1;have HL:=lj hl;clear hl;have HX:=lj (Bx.new w w.heap.size rfl #[.int .i64 0,.int .i64 0,.int .i64 0,.string ⟨#[]⟩] 34);have HB:=lj ((Below.refl w.heap.size w).alloc (Nat.le_refl _) (.cells #[.int .i64 0,.int .i64 0,.int .i64 0,.string ⟨#[]⟩] 34))
  by_cases h7:n<7
  · have hsh:shortB l:=.inl (by omega)
    have HS:=lj hsh;clear hsh hlen
    go_enter Tryz.func28,Tryz.ntmps28
    go_upto_region 2 with fail
    generalize w.alloc _=w1 at *;obtain ⟨c0,c1,c2,c3⟩:=HX.out.ev;have f0:=HX.out.free 0;have f1:=HX.out.free 1;have f2:=HX.out.free 2;have f3:=HX.out.free 3;have hfin:=set4S (a:=.int .i64 0) (b:=.int .i64 0) (c:=.int .i64 0) (d:=.string ⟨#[]⟩) HX.out HB.out (Nat.le_refl _)
    have hd:decide ((n:Int)<7)=true:=by simp; omega
    go_wp2;generalize World.setCell _ _ _=W at hfin ⊢;obtain ⟨r0,r1,r2,r3⟩:=hfin.1.ev;exact bodyPost_ret (by simp [results,go_sem,r0,r1,r2,r3]; rfl) rfl (g_short HS.out hfin.2)
  have hd:decide ((n:Int)<7)=false:=by simp; omega
  obtain ⟨b,off,rfl,hbB,hcell⟩:=HL.out.2 (by omega);have hK:nat ((l.drop 5).take 2)<256 ^ 2:=nat_le 2 _ (by simp; omega);have HSz:=lj (show size l=7+nat ((l.drop 5).take 2) from rfl)
  obtain ⟨K,hKe⟩:∃ K,nat ((l.drop 5).take 2)=K:=⟨_,rfl⟩
  rw [hKe] at hK HSz;have HK:=lj hKe;clear hKe
  go_enter Tryz.func28,Tryz.ntmps28
  go_upto_region 3 with fail
  generalize w.alloc _=w1 at *
  obtain ⟨g,hg⟩:∃ g,w.heap.size=g:=⟨_,rfl⟩
  rw [hg] at HL HB HX hbB;simp only [hg];have HG:=lj hg;clear hg;have HY:=lj (HL.out.below HB.out)
  have hne5:¬ cap=5:=by omega
  have HF:=lj (show Bytes w1 g (some ⟨b,off+5,none⟩) 2 ((l.drop 5).take 2) from (HY.out.cut2 (cap:=cap) (j:=5) (by omega) hcap (by omega)).take (by omega))
  go_upto_region 4 with (first
    | (go_at_call 41
       refine (number_anyS _ 2 (cap - 5) g ((l.drop 5).take 2) w1 HF.out (by omega) (by omega)).mono ?_;rintro e w3 ⟨rfl,rfl⟩
       rw [HK.out])
    | fail)
  by_cases hsh:n<7+K
  · have HS:=lj (show shortB l from .inr (by rw [HSz.out]; omega))
    have hd2:decide ((n:Int)<7+(K:Int))=true:=by simp; omega
    obtain ⟨c0,c1,c2,c3⟩:=HX.out.ev;have f0:=HX.out.free 0;have f1:=HX.out.free 1;have f2:=HX.out.free 2;have f3:=HX.out.free 3;clear hsh;have hfin:=set4S (a:=.int .i64 0) (b:=.int .i64 0) (c:=.int .i64 0) (d:=.string ⟨#[]⟩) HX.out HB.out (Nat.le_refl _);go_wp2;generalize World.setCell _ _ _=W at hfin ⊢;obtain ⟨r0,r1,r2,r3⟩:=hfin.1.ev;exact bodyPost_ret (by simp [results,go_sem,r0,r1,r2,r3]; rfl) rfl (g_short HS.out (by rw [HG.out]; exact hfin.2))
  have hd2:decide ((n:Int)<7+(K:Int))=false:=by simp; omega
  go_upto_region 6 with fail
  have hmix:Tryz.prog.follows .mixedOrders=true:=by kernel_rfl
  have hwhole:wholeB l:=⟨by omega,by rw [HSz.out]; omega⟩;have HWh:=lj hwhole;have hY:=HY.out
  have HC:=lj (fun (W:World) (h:Bytes W g (some ⟨b,off,none⟩) n l)=>(show W.cell? ⟨b,off,none⟩=some (.int .u8 (l[0]?.getD 0#8).toNat)∧W.cell? ⟨b,off+1,none⟩=some (.int .u8 (l[1]?.getD 0#8).toNat) by
    obtain ⟨b',off',e,_,hc⟩:=h.2 (by omega)
    injection e with e
    injection e with e1 e2 _
    subst e1 e2
    exact ⟨hc 0 (by omega),hc 1 (by omega)⟩))
  have HD:=lj (fun (W:World) (h:Bytes W g (some ⟨b,off,none⟩) n l)=>(show Bytes W g (cutA (some ⟨b,off,none⟩) cap 7) K ((l.drop 7).take K) from (h.cut (by omega) hcap).take (by omega)));have HN3:=lj (fun (W:World) (h:Bytes W g (some ⟨b,off,none⟩) n l)=>(show Bytes W g (some ⟨b,off+2,none⟩) 3 ((l.drop 2).take 3) from (h.cut2 (cap:=cap) (j:=2) (by omega) hcap (by omega)).take (by omega)))
  have hev:evOf l=⟨((l[0]?.getD 0#8).toNat:Nat),((l[1]?.getD 0#8).toNat:Nat),(nat ((l.drop 2).take 3):Nat),(l.drop 7).take K⟩:=by rw [← HK.out]; rfl
  have HEv:=lj hev;clear hev hwhole hcell hY;generalize l[0]?.getD 0#8=x0 at *;generalize l[1]?.getD 0#8=x1 at *;generalize hN:nat ((l.drop 2).take 3)=N at *;have HNe:=lj hN;clear hN;generalize (l.drop 7).take K=t at *
  have hne2:¬ cap=2:=by omega
  have hcut:∀ D,D=cutA (some ⟨b,off,none⟩) cap 7→(if cap=7 then some (⟨b,off,none⟩:Addr) else some ⟨b,off+7,none⟩)=D:=by
    rintro D rfl;unfold cutA
    split <;> simp [add_none]
  obtain ⟨D,hD⟩:∃ D,D=cutA (some ⟨b,off,none⟩) cap 7:=⟨_,rfl⟩
  have HCut:=lj (hcut D hD);rw [← hD] at HD;clear hcut hD;have hx0:=x0.isLt;have hx1:=x1.isLt;have hw0:IntKind.i64.wrap (x0.toNat:Int)=x0.toNat:=IntWalk.i64_in _ (by omega);have hw1:IntKind.i64.wrap (x1.toNat:Int)=x1.toNat:=IntWalk.i64_in _ (by omega)
  have hn1:¬ ((n:Int)≤1):=by omega
  have HSA:=lj (fun (o:Obj)=>(bytes_drew (HY.out.below ((Below.refl _ w1).alloc (by have:=HX.out.room; omega) o)):Bytes (w1.alloc o).drew g (some ⟨b,off,none⟩) n l));refine wp_region_held (S:=fun W=>Bytes W g (some ⟨b,off,none⟩) n l) hmix ?_
  change wpAnyH _ _ _ _ _ _ _ _ (World.drew _)
  have hS0:Bytes w1.drew g (some ⟨b,off,none⟩) n l:=bytes_drew HY.out;refine wpAnyH_take (i:=0) (v:=.slice (some ⟨b,off,none⟩) n cap) rfl (by kernel_rfl) (by kernel_rfl) (by kernel_rfl) (fun _ _ _ h=>h) (.inl ⟨by kernel_rfl,fun W hW=>?_⟩) hS0 ?_
  · go_simp
  refine wpAnyH_take (i:=1) (v:=.pointer (some ⟨b,off,none⟩)) rfl (by kernel_rfl) (by kernel_rfl) (by kernel_rfl) (fun _ _ _ h=>h) (.inl ⟨by kernel_rfl,fun W hW=>?_⟩) hS0 ?_
  · go_simp; try (intro hh; exfalso; omega)
  refine wpAnyH_take (i:=2) (v:=.int .u8 x0.toNat) rfl (by kernel_rfl) (by kernel_rfl) (by kernel_rfl) (fun _ _ _ h=>h) (.inl ⟨by kernel_rfl,fun W hW=>?_⟩) hS0 ?_
  · obtain ⟨e0,e1⟩:=HC.out W hW; go_simp
  refine wpAnyH_take (i:=3) (v:=.int .i64 x0.toNat) rfl (by kernel_rfl) (by kernel_rfl) (by kernel_rfl) (fun _ _ _ h=>h) (.inl ⟨by kernel_rfl,fun W hW=>?_⟩) hS0 ?_
  · go_simp
  refine wpAnyH_take (i:=4) (v:=.slice (some ⟨b,off,none⟩) n cap) rfl (by kernel_rfl) (by kernel_rfl) (by kernel_rfl) (fun _ _ _ h=>h) (.inl ⟨by kernel_rfl,fun W hW=>?_⟩) hS0 ?_
  · go_simp
  refine wpAnyH_take (i:=5) (v:=.pointer (some ⟨b,off+1,none⟩)) rfl (by kernel_rfl) (by kernel_rfl) (by kernel_rfl) (fun _ _ _ h=>h) (.inl ⟨by kernel_rfl,fun W hW=>?_⟩) hS0 ?_
  · go_simp; try (intro hh; exfalso; omega)
  refine wpAnyH_take (i:=6) (v:=.int .u8 x1.toNat) rfl (by kernel_rfl) (by kernel_rfl) (by kernel_rfl) (fun _ _ _ h=>h) (.inl ⟨by kernel_rfl,fun W hW=>?_⟩) hS0 ?_
  · obtain ⟨e0,e1⟩:=HC.out W hW; go_simp
  refine wpAnyH_take (i:=7) (v:=.int .i64 x1.toNat) rfl (by kernel_rfl) (by kernel_rfl) (by kernel_rfl) (fun _ _ _ h=>h) (.inl ⟨by kernel_rfl,fun W hW=>?_⟩) hS0 ?_
  · go_simp
  refine wpAnyH_take (i:=8) (v:=.slice (some ⟨b,off,none⟩) n cap) rfl (by kernel_rfl) (by kernel_rfl) (by kernel_rfl) (fun _ _ _ h=>h) (.inl ⟨by kernel_rfl,fun W hW=>?_⟩) hS0 ?_
  · go_simp
  refine wpAnyH_take (i:=9) (v:=.slice (some ⟨b,off+2,none⟩) 3 (cap - 2)) rfl (by kernel_rfl) (by kernel_rfl) (by kernel_rfl) (fun _ _ _ h=>h) (.inl ⟨by kernel_rfl,fun W hW=>?_⟩) hS0 ?_
  · go_simp; try (intro hh; exfalso; omega)
  refine wpAnyH_take (i:=11) (v:=.slice (some ⟨b,off,none⟩) n cap) rfl (by kernel_rfl) (by kernel_rfl) (by kernel_rfl) (fun _ _ _ h=>h) (.inl ⟨by kernel_rfl,fun W hW=>?_⟩) hS0 ?_
  · go_simp
  refine wpAnyH_take (i:=12) (v:=.int .i64 (7+(K:Int))) rfl (by kernel_rfl) (by kernel_rfl) (by kernel_rfl) (fun _ _ _ h=>h) (.inl ⟨by kernel_rfl,fun W hW=>?_⟩) hS0 ?_
  · go_simp
  refine wpAnyH_take (i:=13) (v:=.slice D K (cap - 7)) rfl (by kernel_rfl) (by kernel_rfl) (by kernel_rfl) (fun _ _ _ h=>h) (.inl ⟨by kernel_rfl,fun W hW=>?_⟩) hS0 ?_
  · have hcu:=HCut.out
    go_simp
    rw [if_pos (by omega),if_pos (by omega),show (7+(K:Int)).toNat - 7=K by omega]
  refine wpAnyH_take (i:=14) (v:=.string (str t)) rfl (by kernel_rfl) (by kernel_rfl) (by kernel_rfl) (fun _ _ _ h=>h) (.inl ⟨by kernel_rfl,fun W hW=>?_⟩) hS0 ?_
  · have hcv:=conv_str (cap:=cap - 7) (HD.out W hW); go_simp
  refine wpAnyH_all (rs:=[10,16]) (by kernel_rfl) (by simp) ?_;intro z hz;simp only [List.mem_cons,List.not_mem_nil,or_false] at hz
  rcases hz with rfl | rfl
  unfold wpOp
  go_simp
  refine .inl ((number_anyS _ 3 (cap - 2) g ((l.drop 2).take 3) _ (HN3.out _ hS0) (by omega) (by omega)).mono ?_);rintro e w3 ⟨rfl,rfl⟩;rw [HNe.out]
  go_simp
  refine wpAnyH_take (i:=15) (v:=.agg #[.int .i64 x0.toNat,.int .i64 x1.toNat,.int .i64 N,.string (str t)]) rfl (by kernel_rfl) (by kernel_rfl) (by kernel_rfl) (fun _ _ _ h=>h) (.inl ⟨by kernel_rfl,fun W hW=>?_⟩) hS0 ?_
  · go_simp
  refine wpAnyH_all (rs:=[16]) (by kernel_rfl) (by simp) ?_;intro z hz;rw [List.mem_singleton.1 hz];clear hz;unfold wpOp
  go_simp
  refine .inl ⟨HSA.out _,?_⟩;refine wpAnyH_all (rs:=[17]) (by kernel_rfl) (by simp) ?_;intro z hz;rw [List.mem_singleton.1 hz];clear hz;unfold wpOp
  go_simp
  refine .inl ⟨HSA.out _,?_⟩;refine wpAnyH_done (by kernel_rfl) ?_ _
  rotate_left
  unfold wpOp
  go_simp
  refine .inl ⟨HSA.out _,?_⟩;have hS1:=HSA.out (.cells #[.int .i64 0,.int .i64 0,.int .i64 0,.string ⟨#[]⟩] 34);have hS0:=hS1;clear hS1;refine wpAnyH_all (rs:=[10]) (by kernel_rfl) (by simp) ?_;intro z hz;rw [List.mem_singleton.1 hz];clear hz;unfold wpOp
  go_simp
  refine .inl ((number_anyS _ 3 (cap - 2) g ((l.drop 2).take 3) _ (HN3.out _ hS0) (by omega) (by omega)).mono ?_);rintro e w3 ⟨rfl,rfl⟩;rw [HNe.out]
  go_simp
  refine wpAnyH_take (i:=15) (v:=.agg #[.int .i64 x0.toNat,.int .i64 x1.toNat,.int .i64 N,.string (str t)]) rfl (by kernel_rfl) (by kernel_rfl) (by kernel_rfl) (fun _ _ _ h=>h) (.inl ⟨by kernel_rfl,fun W hW=>?_⟩) hS0 ?_
  · go_simp
  refine wpAnyH_all (rs:=[17]) (by kernel_rfl) (by simp) ?_;intro z hz;rw [List.mem_singleton.1 hz];clear hz;unfold wpOp
  go_simp
  refine .inl ⟨HSA.out _,?_⟩;refine wpAnyH_done (by kernel_rfl) ?_ _
  all_goals
    have HXe:=lj (show Bx w1.heap.size (w1.alloc (.cells #[.int .i64 x0.toNat,.int .i64 x1.toNat,.int .i64 N,.string (str t)] 34)).drew #[.int .i64 x0.toNat,.int .i64 x1.toNat,.int .i64 N,.string (str t)] from ⟨(Bx.new w1 _ rfl _ _).head⟩);have HX2:=lj (show Bx g (w1.alloc (.cells #[.int .i64 x0.toNat,.int .i64 x1.toNat,.int .i64 N,.string (str t)] 34)).drew #[.int .i64 0,.int .i64 0,.int .i64 0,.string ⟨#[]⟩] from ⟨(HX.out.go ((Below.refl _ w1).alloc (by have:=HX.out.room; omega) _) HX.out.room).head⟩);have HB2:Hid (Below g w (w1.alloc (.cells #[.int .i64 x0.toNat,.int .i64 x1.toNat,.int .i64 N,.string (str t)] 34)).drew):=lj (below_drew (HB.out.alloc (by have:=HX.out.room; omega) _));have hgw:=HX.out.room;clear hS0 HX HB HSA HC HD HN3 HCut HY HF;generalize (w1.alloc (.cells #[.int .i64 x0.toNat,.int .i64 x1.toNat,.int .i64 N,.string (str t)] 34)).drew=W2 at *
    obtain ⟨ge,hge⟩:∃ ge,w1.heap.size=ge:=⟨_,rfl⟩
    rw [hge] at HXe hgw;simp only [hge];clear hge;obtain ⟨c0,c1,c2,c3⟩:=HXe.out.ev;have HRt:=lj (right16_any (evOf l) W2);rw [HEv.out] at HRt;unfold evv at HRt;simp only at HRt
    obtain ⟨R,hR⟩:∃ R,rtE (evOf l)=R:=⟨_,rfl⟩
    rw [← HEv.out,hR] at HRt;have HR:=lj hR;clear hR
    go_upto_region 7 with fail
    go_wp2_with fail
    refine HRt.out.mono ?_;rintro e w4 ⟨rfl,hb4⟩;have HXe4:=lj (HXe.out.go hb4 HXe.out.room);have HX4:=lj (HX2.out.go hb4 HX2.out.room);have HB4:=lj (HB2.out.trans (hb4.mono (by have:=HX2.out.room; omega)));clear hb4 c0 c1 c2 c3 HXe HX2 HB2 HRt;obtain ⟨c0,c1,c2,c3⟩:=HXe4.out.ev;obtain ⟨z0,z1,z2,z3⟩:=HX4.out.ev;have f0:=HX4.out.free 0;have f1:=HX4.out.free 1;have f2:=HX4.out.free 2;have f3:=HX4.out.free 3;cases R
    · have hfin:=set4S (a:=.int .i64 0) (b:=.int .i64 0) (c:=.int .i64 0) (d:=.string ⟨#[]⟩) HX4.out HB4.out (Nat.le_refl _)
      go_wp2;generalize World.setCell _ _ _=W at hfin ⊢;obtain ⟨r0,r1,r2,r3⟩:=hfin.1.ev;exact bodyPost_ret (by simp [results,go_sem,r0,r1,r2,r3]; rfl) rfl (g_form HWh.out HR.out (by rw [HG.out]; exact hfin.2))
    · have hfin:=set4S (a:=.int .i64 x0.toNat) (b:=.int .i64 x1.toNat) (c:=.int .i64 N) (d:=.string (str t)) HX4.out HB4.out (Nat.le_refl _)
      go_wp2;generalize World.setCell _ _ _=W at hfin ⊢;obtain ⟨r0,r1,r2,r3⟩:=hfin.1.ev;have hok:=g_ok (w:=w) (w':=W) HWh.out HR.out (by rw [HG.out]; exact hfin.2);rw [HEv.out,HSz.out] at hok;unfold evv at hok;exact bodyPost_ret (by simp [results,go_sem,r0,r1,r2,r3]) rfl hok
end
section
open Go.RowKit
open Sc
def rtc (l:Bs):Bool:=rt (cof l 0) (cof l 1) (cof l 2) (cof l 3) (cof l 4) (cof l 5) (cof l 6) (cof l 7)
def DGivesS (l:Bs) (w:World) (r:Ending) (w':World):Prop:=
 Below w.heap.size w w'∧((262144<l.length∧r = .returned (.tuple #[.agg (cf8 fun _=>0),.slice none 0 0,.int .i64 0,.int .i64 6])) ∨
  (l.length<24∧r = .returned (.tuple #[.agg (cf8 fun _=>0),.slice none 0 0,.int .i64 0,.int .i64 5])) ∨
  (24≤l.length∧l.length≤262144∧rtc l=false∧r = .returned (.tuple #[.agg (cf8 fun _=>0),.slice none 0 0,.int .i64 0,.int .i64 8])) ∨
  (24≤l.length∧l.length≤262144∧rtc l=true∧∃ (L:List Ev) (m e:Nat) (A:Option Addr) (n c:Nat),r = .returned (.tuple #[.agg (cf8 (cof l)),.slice A n c,.int .i64 (24+m:Nat),.int .i64 e]) ∧
   EvRow w.heap.size w' A n c L∧Reads (l.drop 24) L m e))
theorem d_long {l:Bs} {w w':World} (h:262144<l.length) (hb:Below w.heap.size w w'):DGivesS l w (.returned (.tuple #[.agg (cf8 fun _=>0),.slice none 0 0,.int .i64 0,.int .i64 6])) w':=⟨hb,.inl ⟨h,rfl⟩⟩
theorem d_short {l:Bs} {w w':World} (h:l.length<24) (hb:Below w.heap.size w w'):DGivesS l w (.returned (.tuple #[.agg (cf8 fun _=>0),.slice none 0 0,.int .i64 0,.int .i64 5])) w':=⟨hb,.inr (.inl ⟨h,rfl⟩)⟩
theorem d_form {l:Bs} {w w':World} (h:24≤l.length) (h2:l.length≤262144) (hr:rtc l=false) (hb:Below w.heap.size w w'):DGivesS l w (.returned (.tuple #[.agg (cf8 fun _=>0),.slice none 0 0,.int .i64 0,.int .i64 8])) w':=⟨hb,.inr (.inr (.inl ⟨h,h2,hr,rfl⟩))⟩
theorem d_read {l:Bs} {w w':World} (h:24≤l.length) (h2:l.length≤262144) (hr:rtc l=true) (hb:Below w.heap.size w w') {L:List Ev} {m e N:Nat} {A:Option Addr} {n c:Nat} (hN:N=24+m) (hrow:EvRow w.heap.size w' A n c L) (hR:Reads (l.drop 24) L m e) :
  DGivesS l w (.returned (.tuple #[.agg (cf8 (cof l)),.slice A n c,.int .i64 (N:Nat),.int .i64 e])) w':=by
 subst hN;exact ⟨hb,.inr (.inr (.inr ⟨h,h2,hr,L,m,e,A,n,c,rfl,hrow,hR⟩))⟩
structure Sofar (r:Bs) (L:List Ev) (m:Nat):Prop where
 le:m≤r.length
 bytes:r.take m=evs L
 right:∀ x∈L,rtE x=true
 many:L.length≤8192
theorem Sofar.zero (r:Bs):Sofar r [] 0:=⟨Nat.zero_le _,by simp [evs],fun _ h=>(by cases h),by simp⟩
theorem Sofar.step {r:Bs} {L:List Ev} {m:Nat} (h:Sofar r L m) (hw:wholeB (r.drop m)) (hr:rtE (evOf (r.drop m))=true) (hn:L.length<8192):Sofar r (L ++ [evOf (r.drop m)]) (m+size (r.drop m)):=by
 have h2:=hw.2;simp only [List.length_drop] at h2;have hle:=h.le;refine ⟨by omega,?_,fun x hx=>?_,by simp; omega⟩
 ·rw [List.take_add,h.bytes,evs_app,← evb_evOf _ hw]
  simp [evs]
 ·rcases List.mem_append.1 hx with h' | h'
  ·exact h.right x h'
  ·simp at h'
   subst h';exact hr
theorem Sofar.short {r:Bs} {L:List Ev} {m:Nat} (h:Sofar r L m) (hl:m<r.length) (hs:shortB (r.drop m)):Reads r L m 5:=⟨h.le,h.bytes,h.right,h.many,.inr (.inl ⟨rfl,hl,hs⟩)⟩
theorem Sofar.form {r:Bs} {L:List Ev} {m:Nat} (h:Sofar r L m) (hl:m<r.length) (hs:wholeB (r.drop m)) (hr:rtE (evOf (r.drop m))=false):Reads r L m 8:=⟨h.le,h.bytes,h.right,h.many,.inr (.inr (.inl ⟨rfl,hl,hs,hr⟩))⟩
theorem Sofar.full {r:Bs} {L:List Ev} {m:Nat} (h:Sofar r L m) (hl:m<r.length) (hs:wholeB (r.drop m)) (hr:rtE (evOf (r.drop m))=true) (hn:L.length=8192):Reads r L m 6:=⟨h.le,h.bytes,h.right,h.many,.inr (.inr (.inr ⟨rfl,hl,hs,hr,hn⟩))⟩
theorem Sofar.ok {r:Bs} {L:List Ev} {m:Nat} (h:Sofar r L m) (hl:m=r.length):Reads r L m 0:=⟨h.le,h.bytes,h.right,h.many,.inl ⟨rfl,hl⟩⟩
theorem set8v {g B:Nat} {w0 w:World} {u0 u1 u2 u3 u4 u5 u6 u7 v0 v1 v2 v3 v4 v5 v6 v7:Value} (h:Bx g w #[u0,u1,u2,u3,u4,u5,u6,u7]) (hb:Below B w0 w) (hB:B≤g) :
  Bx g ((((((((w.setCell ⟨g,0,none⟩ v0).setCell ⟨g,1,none⟩ v1).setCell ⟨g,2,none⟩ v2).setCell ⟨g,3,none⟩ v3).setCell ⟨g,4,none⟩ v4).setCell ⟨g,5,none⟩ v5).setCell ⟨g,6,none⟩ v6).setCell ⟨g,7,none⟩ v7) #[v0,v1,v2,v3,v4,v5,v6,v7]∧Below B w0 ((((((((w.setCell ⟨g,0,none⟩ v0).setCell ⟨g,1,none⟩ v1).setCell ⟨g,2,none⟩ v2).setCell ⟨g,3,none⟩ v3).setCell ⟨g,4,none⟩ v4).setCell ⟨g,5,none⟩ v5).setCell ⟨g,6,none⟩ v6).setCell ⟨g,7,none⟩ v7)∧Only (fun b=>b=g) w ((((((((w.setCell ⟨g,0,none⟩ v0).setCell ⟨g,1,none⟩ v1).setCell ⟨g,2,none⟩ v2).setCell ⟨g,3,none⟩ v3).setCell ⟨g,4,none⟩ v4).setCell ⟨g,5,none⟩ v5).setCell ⟨g,6,none⟩ v6).setCell ⟨g,7,none⟩ v7):=by
 have h0:Bx g _ #[v0,u1,u2,u3,u4,u5,u6,u7]:=h.set 0 v0;have b0:=hb.setCell (p:=⟨g,0,none⟩) hB v0;have o0:=(Only.refl (fun b=>b=g) w).setCell (p:=⟨g,0,none⟩) rfl v0;have h1:Bx g _ #[v0,v1,u2,u3,u4,u5,u6,u7]:=h0.set 1 v1;have b1:=b0.setCell (p:=⟨g,1,none⟩) hB v1;have o1:=o0.setCell (p:=⟨g,1,none⟩) rfl v1;have h2:Bx g _ #[v0,v1,v2,u3,u4,u5,u6,u7]:=h1.set 2 v2;have b2:=b1.setCell (p:=⟨g,2,none⟩) hB v2;have o2:=o1.setCell (p:=⟨g,2,none⟩) rfl v2;have h3:Bx g _ #[v0,v1,v2,v3,u4,u5,u6,u7]:=h2.set 3 v3;have b3:=b2.setCell (p:=⟨g,3,none⟩) hB v3;have o3:=o2.setCell (p:=⟨g,3,none⟩) rfl v3;have h4:Bx g _ #[v0,v1,v2,v3,v4,u5,u6,u7]:=h3.set 4 v4;have b4:=b3.setCell (p:=⟨g,4,none⟩) hB v4;have o4:=o3.setCell (p:=⟨g,4,none⟩) rfl v4;have h5:Bx g _ #[v0,v1,v2,v3,v4,v5,u6,u7]:=h4.set 5 v5;have b5:=b4.setCell (p:=⟨g,5,none⟩) hB v5;have o5:=o4.setCell (p:=⟨g,5,none⟩) rfl v5;have h6:Bx g _ #[v0,v1,v2,v3,v4,v5,v6,u7]:=h5.set 6 v6;have b6:=b5.setCell (p:=⟨g,6,none⟩) hB v6;have o6:=o5.setCell (p:=⟨g,6,none⟩) rfl v6;have h7:Bx g _ #[v0,v1,v2,v3,v4,v5,v6,v7]:=h6.set 7 v7;have b7:=b6.setCell (p:=⟨g,7,none⟩) hB v7;have o7:=o6.setCell (p:=⟨g,7,none⟩) rfl v7;exact ⟨h7,b7,o7⟩
theorem Bx.cells8 {g:Nat} {w:World} {v0 v1 v2 v3 v4 v5 v6 v7:Value} (h:Bx g w #[v0,v1,v2,v3,v4,v5,v6,v7]):w.cell? ⟨g,0,none⟩=some v0∧w.cell? ⟨g,1,none⟩=some v1∧w.cell? ⟨g,2,none⟩=some v2∧w.cell? ⟨g,3,none⟩=some v3∧w.cell? ⟨g,4,none⟩=some v4∧w.cell? ⟨g,5,none⟩=some v5∧w.cell? ⟨g,6,none⟩=some v6∧w.cell? ⟨g,7,none⟩=some v7:=
 ⟨h.cell 0 _ rfl,h.cell 1 _ rfl,h.cell 2 _ rfl,h.cell 3 _ rfl,h.cell 4 _ rfl,h.cell 5 _ rfl,h.cell 6 _ rfl,h.cell 7 _ rfl⟩
theorem Bx.free8 {g:Nat} {w:World} {vs:Array Value} (h:Bx g w vs):w.frozen? ⟨g,0,none⟩=false∧w.frozen? ⟨g,1,none⟩=false∧w.frozen? ⟨g,2,none⟩=false∧w.frozen? ⟨g,3,none⟩=false∧w.frozen? ⟨g,4,none⟩=false∧w.frozen? ⟨g,5,none⟩=false∧w.frozen? ⟨g,6,none⟩=false∧w.frozen? ⟨g,7,none⟩=false:=
 ⟨h.free 0,h.free 1,h.free 2,h.free 3,h.free 4,h.free 5,h.free 6,h.free 7⟩
theorem EvRow.keep {base n c:Nat} {S:Nat→Prop} {w w':World} {a:Option Addr} {L:List Ev} (h:EvRow base w a n c L) (hO:Only S w w') (hS:∀ b,S b→b<base):EvRow base w' a n c L:=by
 refine ⟨⟨h.row.1,?_⟩,h.cap,h.inner⟩
 rcases h.row.2 with h0 | ⟨g,cap,cur,e,hb,hg,hrest⟩
 ·exact .inl h0
 ·have hlt:g<w.heap.size:=by
   rcases Nat.lt_or_ge g w.heap.size with h' | h'
   ·exact h'
   ·rw [Array.getElem?_eq_none h'] at hg; cases hg
  exact .inr ⟨g,cap,cur,e,hb,(hO.block g hlt (fun hs=>by have:=hS g hs; omega)).trans hg,hrest⟩
set_option maxHeartbeats 4000000 in
theorem decode_any (a:Option Addr) (n cap:Nat) (l:Bs) (w:World) (hl:Bytes w w.heap.size a n l) (hcap:n≤cap) (hm:cap≤9223372036854775807) :
    Calls Tryz.prog 20 #[.slice a n cap] w (DGivesS l w):=by
  have hlen:=hl.1;have HL:=lj hl;have HLen:=lj hlen;clear hl hlen;have HX:=lj (Bx.new w w.heap.size rfl #[.int .i64 0,.int .i64 0,.int .i64 0,.int .i64 0,.int .i64 0,.int .i64 0,.int .i64 0,.int .i64 0] 38);have HB:=lj ((Below.refl w.heap.size w).alloc (Nat.le_refl _) (.cells #[.int .i64 0,.int .i64 0,.int .i64 0,.int .i64 0,.int .i64 0,.int .i64 0,.int .i64 0,.int .i64 0] 38))
  go_enter Tryz.func20,Tryz.ntmps20
  go_upto_region 1 with fail
  generalize w.alloc _=w1 at *
  obtain ⟨g,hg⟩:∃ g,w.heap.size=g:=⟨_,rfl⟩
  rw [hg] at HX HB HL;simp only [hg];have HG:=lj hg;clear hg;obtain ⟨z0,z1,z2,z3,z4,z5,z6,z7⟩:=HX.out.cells8;obtain ⟨f0,f1,f2,f3,f4,f5,f6,f7⟩:=HX.out.free8
  by_cases hlong:262144<n
  · have hd:decide ((n:Int) > 262144)=true:=by simp; omega
    have HQ:=lj hlong;clear hlong;have hfin:=set8v (v0:=.int .i64 0) (v1:=.int .i64 0) (v2:=.int .i64 0) (v3:=.int .i64 0) (v4:=.int .i64 0) (v5:=.int .i64 0) (v6:=.int .i64 0) (v7:=.int .i64 0) HX.out HB.out (Nat.le_refl _);go_wp2;generalize World.setCell _ _ _=W at hfin ⊢;obtain ⟨r0,r1,r2,r3,r4,r5,r6,r7⟩:=hfin.1.cells8;exact bodyPost_ret (by simp [results,go_sem,r0,r1,r2,r3,r4,r5,r6,r7]; rfl) rfl (d_long (by rw [HLen.out]; exact HQ.out) (by rw [HG.out]; exact hfin.2.1))
  have hd:decide ((n:Int) > 262144)=false:=by simp; omega
  by_cases h24:n<24
  · have hd2:decide ((n:Int)<24)=true:=by simp; omega
    have HQ:=lj h24;clear h24 hlong;have hfin:=set8v (v0:=.int .i64 0) (v1:=.int .i64 0) (v2:=.int .i64 0) (v3:=.int .i64 0) (v4:=.int .i64 0) (v5:=.int .i64 0) (v6:=.int .i64 0) (v7:=.int .i64 0) HX.out HB.out (Nat.le_refl _);go_wp2;generalize World.setCell _ _ _=W at hfin ⊢;obtain ⟨r0,r1,r2,r3,r4,r5,r6,r7⟩:=hfin.1.cells8;exact bodyPost_ret (by simp [results,go_sem,r0,r1,r2,r3,r4,r5,r6,r7]; rfl) rfl (d_short (by rw [HLen.out]; exact HQ.out) (by rw [HG.out]; exact hfin.2.1))
  have hd2:decide ((n:Int)<24)=false:=by simp; omega
  clear z0 z1 z2 z3 z4 z5 z6 z7 f0 f1 f2 f3 f4 f5 f6 f7;have hgw:g+1≤w1.heap.size:=HX.out.room
  go_wp2_with fail
  refine (getc_any a n cap l w1 ((HL.out.below HB.out).more (by omega)) (by omega) hcap hm).mono ?_;rintro e w2 ⟨rfl,hb2⟩;have HX2:=lj (HX.out.go hb2 hgw);have HB2:=lj (HB.out.trans (hb2.mono (by omega)));have hgw2:g+1≤w2.heap.size:=Nat.le_trans hgw hb2.size;clear hb2 HX HB hgw hd hd2;unfold cf8
  go_upto_region 6 with fail
  have HC:=lj (Bx.new w2 w2.heap.size rfl #[.int .i64 (cof l 0:Nat),.int .i64 (cof l 1:Nat),.int .i64 (cof l 2:Nat),.int .i64 (cof l 3:Nat),.int .i64 (cof l 4:Nat),.int .i64 (cof l 5:Nat),.int .i64 (cof l 6:Nat),.int .i64 (cof l 7:Nat)] 38);have HX3:=lj (HX2.out.go ((Below.refl _ w2).alloc (Nat.le_refl _) (.cells #[.int .i64 (cof l 0:Nat),.int .i64 (cof l 1:Nat),.int .i64 (cof l 2:Nat),.int .i64 (cof l 3:Nat),.int .i64 (cof l 4:Nat),.int .i64 (cof l 5:Nat),.int .i64 (cof l 6:Nat),.int .i64 (cof l 7:Nat)] 38)) hgw2);have HB3:=lj (HB2.out.alloc (by omega) (.cells #[.int .i64 (cof l 0:Nat),.int .i64 (cof l 1:Nat),.int .i64 (cof l 2:Nat),.int .i64 (cof l 3:Nat),.int .i64 (cof l 4:Nat),.int .i64 (cof l 5:Nat),.int .i64 (cof l 6:Nat),.int .i64 (cof l 7:Nat)] 38));generalize w2.alloc _=w3 at *
  obtain ⟨gc,hgc⟩:∃ gc,w2.heap.size=gc:=⟨_,rfl⟩
  rw [hgc] at HC hgw2;simp only [hgc];clear hgc HX2 HB2;have hcw:gc+1≤w3.heap.size:=HC.out.room;obtain ⟨k0,k1,k2,k3,k4,k5,k6,k7⟩:=HC.out.cells8;have HRt:=lj (cright_any (cof l 0) (cof l 1) (cof l 2) (cof l 3) (cof l 4) (cof l 5) (cof l 6) (cof l 7));unfold cv at HRt;have hr0:rtc l=rt (cof l 0) (cof l 1) (cof l 2) (cof l 3) (cof l 4) (cof l 5) (cof l 6) (cof l 7):=rfl
  obtain ⟨R,hR⟩:∃ R,rtc l=R:=⟨_,rfl⟩
  rw [← hr0,hR] at HRt;have HR:=lj hR;clear hR hr0
  go_wp2_with fail
  refine (HRt.out _).mono ?_;rintro e w4 ⟨rfl,hb4⟩;have HC4:=lj (HC.out.go hb4 hcw);have HX4:=lj (HX3.out.go hb4 (by omega));have HB4:=lj (HB3.out.trans (hb4.mono (by omega)));have hcw4:gc+1≤w4.heap.size:=Nat.le_trans hcw hb4.size;clear hb4 HC HX3 HB3 hcw k0 k1 k2 k3 k4 k5 k6 k7 HRt;cases R
  · obtain ⟨z0,z1,z2,z3,z4,z5,z6,z7⟩:=HX4.out.cells8
    obtain ⟨f0,f1,f2,f3,f4,f5,f6,f7⟩:=HX4.out.free8;have hfin:=set8v (v0:=.int .i64 0) (v1:=.int .i64 0) (v2:=.int .i64 0) (v3:=.int .i64 0) (v4:=.int .i64 0) (v5:=.int .i64 0) (v6:=.int .i64 0) (v7:=.int .i64 0) HX4.out HB4.out (Nat.le_refl _);go_wp2;generalize World.setCell _ _ _=W at hfin ⊢;obtain ⟨r0,r1,r2,r3,r4,r5,r6,r7⟩:=hfin.1.cells8;exact bodyPost_ret (by simp [results,go_sem,r0,r1,r2,r3,r4,r5,r6,r7]; rfl) rfl (d_form (by rw [HLen.out]; omega) (by rw [HLen.out]; omega) HR.out (by rw [HG.out]; exact hfin.2.1))
  go_wp2_with fail
  have hrl:(l.drop 24).length=n - 24:=by simp [HLen.out]
  have HRl:=lj hrl;have HD:=lj (fun (m:Nat)=>(show (l.drop 24).drop m=l.drop (24+m) by rw [List.drop_drop]));clear hrl
  go_loopw [7,8] (fun s p wr=>∃ (L:List Ev) (m N:Nat) (A:Option Addr) (k c:Nat),Hid (N=24+m)∧N≤n∧k≤8192∧p = .int .i64 (N:Nat)∧s = .slice A k c∧EvRow (gc+1) wr A k c L∧Sofar (l.drop 24) L m∧Bx gc wr #[.int .i64 (cof l 0:Nat),.int .i64 (cof l 1:Nat),.int .i64 (cof l 2:Nat),.int .i64 (cof l 3:Nat),.int .i64 (cof l 4:Nat),.int .i64 (cof l 5:Nat),.int .i64 (cof l 6:Nat),.int .i64 (cof l 7:Nat)]∧Bx g wr #[.int .i64 0,.int .i64 0,.int .i64 0,.int .i64 0,.int .i64 0,.int .i64 0,.int .i64 0,.int .i64 0]∧Below g w wr) (fun _ p _=>n - (intOf p).toNat)
  case atStart=>exact ⟨[],0,24,none,0,0,lj rfl,by omega,by omega,rfl,rfl,EvRow.nil _ _,Sofar.zero _,HC4.out,HX4.out,HB4.out⟩
  case round =>
    obtain ⟨L,m,N,A,k,c,HN,hNn,hk8,rfl,rfl,hrow,hso,hc,hx,hb⟩:=hrel;have HRow:=lj hrow;have HSo:=lj hso;have HC:=lj hc;have HX:=lj hx;have HB:=lj hb;have hcw:gc+1≤wr.heap.size:=hc.room;clear hrow hso hc hx hb HC4 HX4 HB4 hcw4
    by_cases hlt:N<n
    · obtain ⟨b,off,rfl,hbB,_⟩:=HL.out.2 (by omega)
      have hne:¬ cap=N:=by omega
      have hgw:g+1≤wr.heap.size:=by omega
      have HF:=lj (show Bytes wr wr.heap.size (some ⟨b,off+N,none⟩) (n - N) (l.drop N) from ((HL.out.below HB.out).cut2 (cap:=cap) (j:=N) (by omega) hcap (by omega)).more (by omega))
      have hml:m<(l.drop 24).length:=by have:=HRl.out; have:=HN.out; omega
      have HMl:=lj hml
      have hdr:(l.drop 24).drop m=l.drop N:=by rw [HN.out]; exact HD.out m
      have HDr:=lj hdr;clear hml hdr
      go_wp2_with fail
      refine (get16_any _ (n - N) (cap - N) (l.drop N) wr HF.out (by omega) (by omega)).mono ?_;rintro e w5 ⟨ev,m2,er,rfl,hb5,hgv⟩;have HGv:=lj hgv;have HC5:=lj (HC.out.go hb5 hcw);have HX5:=lj (HX.out.go hb5 hgw);have HB5:=lj (HB.out.trans (hb5.mono (by omega)));have HRow5:=lj (HRow.out.below hb5);have hcw5:gc+1≤w5.heap.size:=Nat.le_trans hcw hb5.size;clear hb5 hgv HC HX HB HRow hcw hgw;unfold evv
      go_upto_region 12 with fail
      have HE6:=lj (Bx.new w5 w5.heap.size rfl #[.int .i64 ev.k,.int .i64 ev.i,.int .i64 ev.n,.string (str ev.t)] 34);have hb6:=(Below.refl w5.heap.size w5).alloc (Nat.le_refl _) (.cells #[.int .i64 ev.k,.int .i64 ev.i,.int .i64 ev.n,.string (str ev.t)] 34);have HC6:=lj (HC5.out.go hb6 hcw5);have HX6:=lj (HX5.out.go hb6 (by omega));have HB6:=lj (HB5.out.alloc (by omega) (.cells #[.int .i64 ev.k,.int .i64 ev.i,.int .i64 ev.n,.string (str ev.t)] 34));have HRow6:=lj (HRow5.out.below hb6);have hcw6:=Nat.le_trans hcw5 hb6.size;clear hb6 HC5 HX5 HB5 HRow5;generalize w5.alloc _=w6 at *
      obtain ⟨ge,hge⟩:∃ ge,w5.heap.size=ge:=⟨_,rfl⟩
      rw [hge] at HE6;simp only [hge];clear hge
      rcases HGv.out with ⟨rfl,hs⟩ | ⟨rfl,hs,hr,rfl,rfl⟩ | ⟨rfl,hs,hr⟩
      · have HS:=lj hs
        clear hs HGv;have hfin:=set8v (v0:=.int .i64 (cof l 0:Nat)) (v1:=.int .i64 (cof l 1:Nat)) (v2:=.int .i64 (cof l 2:Nat)) (v3:=.int .i64 (cof l 3:Nat)) (v4:=.int .i64 (cof l 4:Nat)) (v5:=.int .i64 (cof l 5:Nat)) (v6:=.int .i64 (cof l 6:Nat)) (v7:=.int .i64 (cof l 7:Nat)) HX6.out HB6.out (Nat.le_refl _);obtain ⟨k0,k1,k2,k3,k4,k5,k6,k7⟩:=HC6.out.cells8;obtain ⟨z0,z1,z2,z3,z4,z5,z6,z7⟩:=HX6.out.cells8;obtain ⟨f0,f1,f2,f3,f4,f5,f6,f7⟩:=HX6.out.free8;go_wp2;generalize World.setCell _ _ _=W at hfin ⊢;obtain ⟨r0,r1,r2,r3,r4,r5,r6,r7⟩:=hfin.1.cells8;have hD:=d_read (w:=w) (w':=W) (by rw [HLen.out]; omega) (by rw [HLen.out]; omega) HR.out (by rw [HG.out]; exact hfin.2.1) HN.out (by rw [HG.out]; exact (HRow6.out.keep hfin.2.2 (fun b (hb:b=g)=>by omega)).mono (by omega)) (HSo.out.short HMl.out (by rw [HDr.out]; exact HS.out));exact bodyPost_ret (by simp [results,go_sem,r0,r1,r2,r3,r4,r5,r6,r7]; rfl) rfl hD
      · have HS:=lj hs
        have HRr:=lj hr;clear hs hr HGv;have hLk:=HRow6.out.len
        by_cases hfull:k=8192
        · subst hfull
          have HLk:=lj hLk;clear hLk;have hfin:=set8v (v0:=.int .i64 (cof l 0:Nat)) (v1:=.int .i64 (cof l 1:Nat)) (v2:=.int .i64 (cof l 2:Nat)) (v3:=.int .i64 (cof l 3:Nat)) (v4:=.int .i64 (cof l 4:Nat)) (v5:=.int .i64 (cof l 5:Nat)) (v6:=.int .i64 (cof l 6:Nat)) (v7:=.int .i64 (cof l 7:Nat)) HX6.out HB6.out (Nat.le_refl _);obtain ⟨k0,k1,k2,k3,k4,k5,k6,k7⟩:=HC6.out.cells8;obtain ⟨z0,z1,z2,z3,z4,z5,z6,z7⟩:=HX6.out.cells8;obtain ⟨f0,f1,f2,f3,f4,f5,f6,f7⟩:=HX6.out.free8;go_wp2;generalize World.setCell _ _ _=W at hfin ⊢;obtain ⟨r0,r1,r2,r3,r4,r5,r6,r7⟩:=hfin.1.cells8;have hD:=d_read (w:=w) (w':=W) (by rw [HLen.out]; omega) (by rw [HLen.out]; omega) HR.out (by rw [HG.out]; exact hfin.2.1) HN.out (by rw [HG.out]; exact (HRow6.out.keep hfin.2.2 (fun b (hb:b=g)=>by omega)).mono (by omega)) (HSo.out.full HMl.out (by rw [HDr.out]; exact HS.out) (by rw [HDr.out]; exact HRr.out) HLk.out);exact bodyPost_ret (by simp [results,go_sem,r0,r1,r2,r3,r4,r5,r6,r7]; rfl) rfl hD
        · have hdk:((k:Int) == 8192)=false:=by simp; omega
          have HLk:=lj hLk;obtain ⟨e0,e1,e2,e3⟩:=HE6.out.ev;have hst:=HSo.out.step (by rw [HDr.out]; exact HS.out) (by rw [HDr.out]; exact HRr.out) (by omega);rw [HDr.out] at hst;have HSt:=lj hst;have hle:=hst.le;have HLe:=lj hle;clear hLk hst hle
          have hev:(evOf (l.drop N)).t.length≤maxLen:=by have:=(rtE_in HRr.out).2.2.2.2.2.2; unfold maxLen; omega
          have HEv:=lj hev;have HSz:=lj (show 24+(m+size (l.drop N))≤n by have h1:=HLe.out; rw [HRl.out] at h1; omega)
          have hsz:N+size (l.drop N)≤n:=by have:=HSz.out; have:=HN.out; omega
          have hk9:k+1≤8192:=by omega
          have hs7:7≤size (l.drop N):=by unfold size; omega
          clear hev hfull;generalize evOf (l.drop N)=ev at *;generalize size (l.drop N)=sz at *
          go_wp2_with (first
            | (at_builtin
               refine wpList_eapp rfl (.tmp 51) (.tmp 53) rfl (base:=gc+1) (n:=k) rfl (HRow6.out.below ((Below.refl _ _).alloc (Nat.le_refl _) _)) rfl (ev_one w6 ev HEv.out _) rfl (by omega) (by simp; omega) ?_;intro A7 c7 w7 hrow7 hb7;have HRow7:=lj hrow7;have HB7:=lj (Below.trans (((Below.refl w6.heap.size w6).alloc (Nat.le_refl _) _).mono hcw6) hb7)
               clear hrow7 hb7)
            | fail)
          go_roundw
          case rel=>exact ⟨L ++ [ev],m+sz,N+sz,A7,k+1,c7,lj (by have:=HN.out; omega),by omega,by omega,by go_num,rfl,HRow7.out,HSt.out,HC6.out.go HB7.out (Nat.le_refl _),HX6.out.go HB7.out (by omega),HB6.out.trans (HB7.out.mono (by omega))⟩
          case measure=>simp [intOf]; omega
      · have HS:=lj hs
        have HRr:=lj hr;clear hs hr HGv;have hfin:=set8v (v0:=.int .i64 (cof l 0:Nat)) (v1:=.int .i64 (cof l 1:Nat)) (v2:=.int .i64 (cof l 2:Nat)) (v3:=.int .i64 (cof l 3:Nat)) (v4:=.int .i64 (cof l 4:Nat)) (v5:=.int .i64 (cof l 5:Nat)) (v6:=.int .i64 (cof l 6:Nat)) (v7:=.int .i64 (cof l 7:Nat)) HX6.out HB6.out (Nat.le_refl _);obtain ⟨k0,k1,k2,k3,k4,k5,k6,k7⟩:=HC6.out.cells8;obtain ⟨z0,z1,z2,z3,z4,z5,z6,z7⟩:=HX6.out.cells8;obtain ⟨f0,f1,f2,f3,f4,f5,f6,f7⟩:=HX6.out.free8;go_wp2;generalize World.setCell _ _ _=W at hfin ⊢;obtain ⟨r0,r1,r2,r3,r4,r5,r6,r7⟩:=hfin.1.cells8;have hD:=d_read (w:=w) (w':=W) (by rw [HLen.out]; omega) (by rw [HLen.out]; omega) HR.out (by rw [HG.out]; exact hfin.2.1) HN.out (by rw [HG.out]; exact (HRow6.out.keep hfin.2.2 (fun b (hb:b=g)=>by omega)).mono (by omega)) (HSo.out.form HMl.out (by rw [HDr.out]; exact HS.out) (by rw [HDr.out]; exact HRr.out));exact bodyPost_ret (by simp [results,go_sem,r0,r1,r2,r3,r4,r5,r6,r7]; rfl) rfl hD
    · obtain rfl:N=n:=by omega
      have hd:decide ((N:Int)<(N:Int))=false:=by simp
      obtain ⟨z0,z1,z2,z3,z4,z5,z6,z7⟩:=HX.out.cells8;obtain ⟨f0,f1,f2,f3,f4,f5,f6,f7⟩:=HX.out.free8;obtain ⟨k0,k1,k2,k3,k4,k5,k6,k7⟩:=HC.out.cells8;clear hlt;have hfin:=set8v (v0:=.int .i64 (cof l 0:Nat)) (v1:=.int .i64 (cof l 1:Nat)) (v2:=.int .i64 (cof l 2:Nat)) (v3:=.int .i64 (cof l 3:Nat)) (v4:=.int .i64 (cof l 4:Nat)) (v5:=.int .i64 (cof l 5:Nat)) (v6:=.int .i64 (cof l 6:Nat)) (v7:=.int .i64 (cof l 7:Nat)) HX.out HB.out (Nat.le_refl _);have hrw:=(HRow.out.mono (base':=g) (by omega));go_wp2;generalize World.setCell _ _ _=W at hfin ⊢;obtain ⟨r0,r1,r2,r3,r4,r5,r6,r7⟩:=hfin.1.cells8;have hD:=d_read (w:=w) (w':=W) (by rw [HLen.out]; omega) (by rw [HLen.out]; omega) HR.out (by rw [HG.out]; exact hfin.2.1) HN.out (by rw [HG.out]; exact (HRow.out.keep hfin.2.2 (fun b (hb:b=g)=>by omega)).mono (by omega)) (HSo.out.ok (by have:=HRl.out; have:=HN.out; omega));exact bodyPost_ret (by simp [results,go_sem,r0,r1,r2,r3,r4,r5,r6,r7]; rfl) rfl hD
end
end Go.Proofs.YtecjpkjbgknnnaaGreatDoor
