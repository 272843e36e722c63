/- PScg PTs PSce PScd -/
import Derived.Deep.CutBlock
import Derived.Test.YtalichkdeekdcaaGreatDoorZd07
import Derived.Test.YtalichkdeekdcaaGreatDoorZd09
import Derived.Test.YtalichkdeekdcaaGreatDoorZd33
namespace Go.Proofs.YtalichkdeekdcaaGreatDoor
set_option maxRecDepth 100000
open Go.Lib renaming hid → lj
section
open Go.RowKit
open Sc
def ptrs (gc:Nat):Array Value:=#[.pointer (some ⟨gc,0,none⟩),.pointer (some ⟨gc,1,none⟩),.pointer (some ⟨gc,2,none⟩),.pointer (some ⟨gc,3,none⟩),.pointer (some ⟨gc,4,none⟩),.pointer (some ⟨gc,5,none⟩),.pointer (some ⟨gc,6,none⟩),.pointer (some ⟨gc,7,none⟩)]
theorem parts_any (gc:Nat) (w:World) :
  Calls Tryz.prog 68 #[.pointer (some ⟨gc,0,none⟩)] w fun r w'=>r = .returned (.agg (ptrs gc))∧Below w.heap.size w w':=by
 have hmix:Tryz.prog.follows .mixedOrders=true:=by kernel_rfl
 unfold ptrs
 go_enter Tryz.func68,Tryz.ntmps68
 go_upto_region 1 with fail
 refine wp_region_held (S:=fun _=>True) hmix ?_
 change wpAnyH _ _ _ _ _ _ _ _ (World.drew _)
 have hS0:True:=trivial;refine wpAnyH_take (i:=0) (v:=.pointer (some ⟨gc,0,none⟩)) rfl (by kernel_rfl) (by kernel_rfl) (by kernel_rfl) (fun _ _ _ h=>h) (.inl ⟨by kernel_rfl,fun W hW=>?_⟩) hS0 ?_
 ·go_simp
 refine wpAnyH_take (i:=1) (v:=.pointer (some ⟨gc,0,none⟩)) rfl (by kernel_rfl) (by kernel_rfl) (by kernel_rfl) (fun _ _ _ h=>h) (.inl ⟨by kernel_rfl,fun W hW=>?_⟩) hS0 ?_
 ·go_simp
 refine wpAnyH_take (i:=2) (v:=.pointer (some ⟨gc,0,none⟩)) rfl (by kernel_rfl) (by kernel_rfl) (by kernel_rfl) (fun _ _ _ h=>h) (.inl ⟨by kernel_rfl,fun W hW=>?_⟩) hS0 ?_
 ·go_simp
 refine wpAnyH_take (i:=3) (v:=.pointer (some ⟨gc,0,none⟩)) rfl (by kernel_rfl) (by kernel_rfl) (by kernel_rfl) (fun _ _ _ h=>h) (.inl ⟨by kernel_rfl,fun W hW=>?_⟩) hS0 ?_
 ·go_simp
 refine wpAnyH_take (i:=4) (v:=.pointer (some ⟨gc,0,none⟩)) rfl (by kernel_rfl) (by kernel_rfl) (by kernel_rfl) (fun _ _ _ h=>h) (.inl ⟨by kernel_rfl,fun W hW=>?_⟩) hS0 ?_
 ·go_simp
 refine wpAnyH_take (i:=5) (v:=.pointer (some ⟨gc,1,none⟩)) rfl (by kernel_rfl) (by kernel_rfl) (by kernel_rfl) (fun _ _ _ h=>h) (.inl ⟨by kernel_rfl,fun W hW=>?_⟩) hS0 ?_
 ·go_simp
 refine wpAnyH_take (i:=6) (v:=.pointer (some ⟨gc,0,none⟩)) rfl (by kernel_rfl) (by kernel_rfl) (by kernel_rfl) (fun _ _ _ h=>h) (.inl ⟨by kernel_rfl,fun W hW=>?_⟩) hS0 ?_
 ·go_simp
 refine wpAnyH_take (i:=7) (v:=.pointer (some ⟨gc,0,none⟩)) rfl (by kernel_rfl) (by kernel_rfl) (by kernel_rfl) (fun _ _ _ h=>h) (.inl ⟨by kernel_rfl,fun W hW=>?_⟩) hS0 ?_
 ·go_simp
 refine wpAnyH_take (i:=8) (v:=.pointer (some ⟨gc,2,none⟩)) rfl (by kernel_rfl) (by kernel_rfl) (by kernel_rfl) (fun _ _ _ h=>h) (.inl ⟨by kernel_rfl,fun W hW=>?_⟩) hS0 ?_
 ·go_simp
 refine wpAnyH_take (i:=9) (v:=.pointer (some ⟨gc,0,none⟩)) rfl (by kernel_rfl) (by kernel_rfl) (by kernel_rfl) (fun _ _ _ h=>h) (.inl ⟨by kernel_rfl,fun W hW=>?_⟩) hS0 ?_
 ·go_simp
 refine wpAnyH_take (i:=10) (v:=.pointer (some ⟨gc,0,none⟩)) rfl (by kernel_rfl) (by kernel_rfl) (by kernel_rfl) (fun _ _ _ h=>h) (.inl ⟨by kernel_rfl,fun W hW=>?_⟩) hS0 ?_
 ·go_simp
 refine wpAnyH_take (i:=11) (v:=.pointer (some ⟨gc,3,none⟩)) rfl (by kernel_rfl) (by kernel_rfl) (by kernel_rfl) (fun _ _ _ h=>h) (.inl ⟨by kernel_rfl,fun W hW=>?_⟩) hS0 ?_
 ·go_simp
 refine wpAnyH_take (i:=12) (v:=.pointer (some ⟨gc,0,none⟩)) rfl (by kernel_rfl) (by kernel_rfl) (by kernel_rfl) (fun _ _ _ h=>h) (.inl ⟨by kernel_rfl,fun W hW=>?_⟩) hS0 ?_
 ·go_simp
 refine wpAnyH_take (i:=13) (v:=.pointer (some ⟨gc,0,none⟩)) rfl (by kernel_rfl) (by kernel_rfl) (by kernel_rfl) (fun _ _ _ h=>h) (.inl ⟨by kernel_rfl,fun W hW=>?_⟩) hS0 ?_
 ·go_simp
 refine wpAnyH_take (i:=14) (v:=.pointer (some ⟨gc,4,none⟩)) rfl (by kernel_rfl) (by kernel_rfl) (by kernel_rfl) (fun _ _ _ h=>h) (.inl ⟨by kernel_rfl,fun W hW=>?_⟩) hS0 ?_
 ·go_simp
 refine wpAnyH_take (i:=15) (v:=.pointer (some ⟨gc,0,none⟩)) rfl (by kernel_rfl) (by kernel_rfl) (by kernel_rfl) (fun _ _ _ h=>h) (.inl ⟨by kernel_rfl,fun W hW=>?_⟩) hS0 ?_
 ·go_simp
 refine wpAnyH_take (i:=16) (v:=.pointer (some ⟨gc,0,none⟩)) rfl (by kernel_rfl) (by kernel_rfl) (by kernel_rfl) (fun _ _ _ h=>h) (.inl ⟨by kernel_rfl,fun W hW=>?_⟩) hS0 ?_
 ·go_simp
 refine wpAnyH_take (i:=17) (v:=.pointer (some ⟨gc,5,none⟩)) rfl (by kernel_rfl) (by kernel_rfl) (by kernel_rfl) (fun _ _ _ h=>h) (.inl ⟨by kernel_rfl,fun W hW=>?_⟩) hS0 ?_
 ·go_simp
 refine wpAnyH_take (i:=18) (v:=.pointer (some ⟨gc,0,none⟩)) rfl (by kernel_rfl) (by kernel_rfl) (by kernel_rfl) (fun _ _ _ h=>h) (.inl ⟨by kernel_rfl,fun W hW=>?_⟩) hS0 ?_
 ·go_simp
 refine wpAnyH_take (i:=19) (v:=.pointer (some ⟨gc,0,none⟩)) rfl (by kernel_rfl) (by kernel_rfl) (by kernel_rfl) (fun _ _ _ h=>h) (.inl ⟨by kernel_rfl,fun W hW=>?_⟩) hS0 ?_
 ·go_simp
 refine wpAnyH_take (i:=20) (v:=.pointer (some ⟨gc,6,none⟩)) rfl (by kernel_rfl) (by kernel_rfl) (by kernel_rfl) (fun _ _ _ h=>h) (.inl ⟨by kernel_rfl,fun W hW=>?_⟩) hS0 ?_
 ·go_simp
 refine wpAnyH_take (i:=21) (v:=.pointer (some ⟨gc,0,none⟩)) rfl (by kernel_rfl) (by kernel_rfl) (by kernel_rfl) (fun _ _ _ h=>h) (.inl ⟨by kernel_rfl,fun W hW=>?_⟩) hS0 ?_
 ·go_simp
 refine wpAnyH_take (i:=22) (v:=.pointer (some ⟨gc,0,none⟩)) rfl (by kernel_rfl) (by kernel_rfl) (by kernel_rfl) (fun _ _ _ h=>h) (.inl ⟨by kernel_rfl,fun W hW=>?_⟩) hS0 ?_
 ·go_simp
 refine wpAnyH_take (i:=23) (v:=.pointer (some ⟨gc,7,none⟩)) rfl (by kernel_rfl) (by kernel_rfl) (by kernel_rfl) (fun _ _ _ h=>h) (.inl ⟨by kernel_rfl,fun W hW=>?_⟩) hS0 ?_
 ·go_simp
 refine wpAnyH_take (i:=24) (v:=.agg #[.pointer (some ⟨gc,0,none⟩),.pointer (some ⟨gc,1,none⟩),.pointer (some ⟨gc,2,none⟩),.pointer (some ⟨gc,3,none⟩),.pointer (some ⟨gc,4,none⟩),.pointer (some ⟨gc,5,none⟩),.pointer (some ⟨gc,6,none⟩),.pointer (some ⟨gc,7,none⟩)]) rfl (by kernel_rfl) (by kernel_rfl) (by kernel_rfl) (fun _ _ _ h=>h) (.inl ⟨by kernel_rfl,fun W hW=>?_⟩) hS0 ?_
 ·go_simp
 refine wpAnyH_all (rs:=[25]) (by kernel_rfl) (by simp) ?_;intro z hz;rw [List.mem_singleton.1 hz];clear hz;unfold wpOp
 go_simp
 refine .inl ?_;refine wpAnyH_done (by kernel_rfl) ?_ _;have hx:=Bx.new w _ rfl #[.pointer (some ⟨gc,0,none⟩),.pointer (some ⟨gc,1,none⟩),.pointer (some ⟨gc,2,none⟩),.pointer (some ⟨gc,3,none⟩),.pointer (some ⟨gc,4,none⟩),.pointer (some ⟨gc,5,none⟩),.pointer (some ⟨gc,6,none⟩),.pointer (some ⟨gc,7,none⟩)] 136;have hb:Below w.heap.size w (w.alloc (.cells #[.pointer (some ⟨gc,0,none⟩),.pointer (some ⟨gc,1,none⟩),.pointer (some ⟨gc,2,none⟩),.pointer (some ⟨gc,3,none⟩),.pointer (some ⟨gc,4,none⟩),.pointer (some ⟨gc,5,none⟩),.pointer (some ⟨gc,6,none⟩),.pointer (some ⟨gc,7,none⟩)] 136)):=(Below.refl _ _).alloc (Nat.le_refl _) _;have hx:=drew_pair ⟨hx,hb⟩;clear hb;generalize World.drew _=W at hx ⊢;go_wp2;have h0:=hx.1.cell 0 _ rfl;have h1:=hx.1.cell 1 _ rfl;have h2:=hx.1.cell 2 _ rfl;have h3:=hx.1.cell 3 _ rfl;have h4:=hx.1.cell 4 _ rfl;have h5:=hx.1.cell 5 _ rfl;have h6:=hx.1.cell 6 _ rfl;have h7:=hx.1.cell 7 _ rfl;exact bodyPost_ret (by simp [results,go_sem,h0,h1,h2,h3,h4,h5,h6,h7]) rfl ⟨rfl,hx.2⟩
def cf8 (f:Nat→Nat):Array Value:=#[.int .i64 (f 0),.int .i64 (f 1),.int .i64 (f 2),.int .i64 (f 3),.int .i64 (f 4),.int .i64 (f 5),.int .i64 (f 6),.int .i64 (f 7)]
def cof (l:Bs) (i:Nat):Nat:=nat ((l.drop (3 * i)).take 3)
def upto (l:Bs) (j:Nat) (i:Nat):Nat:=if i<j then cof l i else 0
theorem set8 {g B:Nat} {w0 w:World} {z:Nat→Nat} {f:Nat→Nat} (h:Bx g w (cf8 z)) (hb:Below B w0 w) (hB:B≤g) :
  Bx g ((((((((w.setCell ⟨g,0,none⟩ (.int .i64 (f 0))).setCell ⟨g,1,none⟩ (.int .i64 (f 1))).setCell ⟨g,2,none⟩ (.int .i64 (f 2))).setCell ⟨g,3,none⟩ (.int .i64 (f 3))).setCell ⟨g,4,none⟩ (.int .i64 (f 4))).setCell ⟨g,5,none⟩ (.int .i64 (f 5))).setCell ⟨g,6,none⟩ (.int .i64 (f 6))).setCell ⟨g,7,none⟩ (.int .i64 (f 7))) (cf8 f) ∧
  Below B w0 ((((((((w.setCell ⟨g,0,none⟩ (.int .i64 (f 0))).setCell ⟨g,1,none⟩ (.int .i64 (f 1))).setCell ⟨g,2,none⟩ (.int .i64 (f 2))).setCell ⟨g,3,none⟩ (.int .i64 (f 3))).setCell ⟨g,4,none⟩ (.int .i64 (f 4))).setCell ⟨g,5,none⟩ (.int .i64 (f 5))).setCell ⟨g,6,none⟩ (.int .i64 (f 6))).setCell ⟨g,7,none⟩ (.int .i64 (f 7))):=by
 have h0:Bx g _ #[.int .i64 (f 0:Nat),.int .i64 (z 1:Nat),.int .i64 (z 2:Nat),.int .i64 (z 3:Nat),.int .i64 (z 4:Nat),.int .i64 (z 5:Nat),.int .i64 (z 6:Nat),.int .i64 (z 7:Nat)]:=h.set 0 (.int .i64 (f 0:Nat));have h1:Bx g _ #[.int .i64 (f 0:Nat),.int .i64 (f 1:Nat),.int .i64 (z 2:Nat),.int .i64 (z 3:Nat),.int .i64 (z 4:Nat),.int .i64 (z 5:Nat),.int .i64 (z 6:Nat),.int .i64 (z 7:Nat)]:=h0.set 1 (.int .i64 (f 1:Nat));have h2:Bx g _ #[.int .i64 (f 0:Nat),.int .i64 (f 1:Nat),.int .i64 (f 2:Nat),.int .i64 (z 3:Nat),.int .i64 (z 4:Nat),.int .i64 (z 5:Nat),.int .i64 (z 6:Nat),.int .i64 (z 7:Nat)]:=h1.set 2 (.int .i64 (f 2:Nat));have h3:Bx g _ #[.int .i64 (f 0:Nat),.int .i64 (f 1:Nat),.int .i64 (f 2:Nat),.int .i64 (f 3:Nat),.int .i64 (z 4:Nat),.int .i64 (z 5:Nat),.int .i64 (z 6:Nat),.int .i64 (z 7:Nat)]:=h2.set 3 (.int .i64 (f 3:Nat));have h4:Bx g _ #[.int .i64 (f 0:Nat),.int .i64 (f 1:Nat),.int .i64 (f 2:Nat),.int .i64 (f 3:Nat),.int .i64 (f 4:Nat),.int .i64 (z 5:Nat),.int .i64 (z 6:Nat),.int .i64 (z 7:Nat)]:=h3.set 4 (.int .i64 (f 4:Nat));have h5:Bx g _ #[.int .i64 (f 0:Nat),.int .i64 (f 1:Nat),.int .i64 (f 2:Nat),.int .i64 (f 3:Nat),.int .i64 (f 4:Nat),.int .i64 (f 5:Nat),.int .i64 (z 6:Nat),.int .i64 (z 7:Nat)]:=h4.set 5 (.int .i64 (f 5:Nat));have h6:Bx g _ #[.int .i64 (f 0:Nat),.int .i64 (f 1:Nat),.int .i64 (f 2:Nat),.int .i64 (f 3:Nat),.int .i64 (f 4:Nat),.int .i64 (f 5:Nat),.int .i64 (f 6:Nat),.int .i64 (z 7:Nat)]:=h5.set 6 (.int .i64 (f 6:Nat));have h7:Bx g _ #[.int .i64 (f 0:Nat),.int .i64 (f 1:Nat),.int .i64 (f 2:Nat),.int .i64 (f 3:Nat),.int .i64 (f 4:Nat),.int .i64 (f 5:Nat),.int .i64 (f 6:Nat),.int .i64 (f 7:Nat)]:=h6.set 7 (.int .i64 (f 7:Nat));have b0:=hb.setCell (p:=⟨g,0,none⟩) hB (.int .i64 (f 0));have b1:=b0.setCell (p:=⟨g,1,none⟩) hB (.int .i64 (f 1));have b2:=b1.setCell (p:=⟨g,2,none⟩) hB (.int .i64 (f 2));have b3:=b2.setCell (p:=⟨g,3,none⟩) hB (.int .i64 (f 3));have b4:=b3.setCell (p:=⟨g,4,none⟩) hB (.int .i64 (f 4));have b5:=b4.setCell (p:=⟨g,5,none⟩) hB (.int .i64 (f 5));have b6:=b5.setCell (p:=⟨g,6,none⟩) hB (.int .i64 (f 6));have b7:=b6.setCell (p:=⟨g,7,none⟩) hB (.int .i64 (f 7));exact ⟨h7,b7⟩
theorem getc_any (a:Option Addr) (n cap:Nat) (l:Bs) (w:World) (hl:Bytes w w.heap.size a n l) (hn:24≤n) (hcap:n≤cap) (hm:cap≤9223372036854775807) :
  Calls Tryz.prog 103 #[.slice a n cap] w fun r w'=>r = .returned (.agg (cf8 (cof l)))∧Below w.heap.size w w':=by
 obtain ⟨b,off,rfl,hbB,_⟩:=hl.2 (by omega);have HL:=lj hl;clear hl;have hb1:Below w.heap.size w ((w.alloc (.cells #[.int .i64 0,.int .i64 0,.int .i64 0,.int .i64 0,.int .i64 0,.int .i64 0,.int .i64 0,.int .i64 0] 23)).alloc (.cells #[.int .i64 0,.int .i64 0,.int .i64 0,.int .i64 0,.int .i64 0,.int .i64 0,.int .i64 0,.int .i64 0] 23)):=((Below.refl _ _).alloc (Nat.le_refl _) _).alloc (by simp) _;have hx1:Bx (w.heap.size+1) ((w.alloc (.cells #[.int .i64 0,.int .i64 0,.int .i64 0,.int .i64 0,.int .i64 0,.int .i64 0,.int .i64 0,.int .i64 0] 23)).alloc (.cells #[.int .i64 0,.int .i64 0,.int .i64 0,.int .i64 0,.int .i64 0,.int .i64 0,.int .i64 0,.int .i64 0] 23)) (cf8 (upto l 0)):=Bx.new (w.alloc _) (w.heap.size+1) (by simp) _ _;have hx0:Bx w.heap.size ((w.alloc (.cells #[.int .i64 0,.int .i64 0,.int .i64 0,.int .i64 0,.int .i64 0,.int .i64 0,.int .i64 0,.int .i64 0] 23)).alloc (.cells #[.int .i64 0,.int .i64 0,.int .i64 0,.int .i64 0,.int .i64 0,.int .i64 0,.int .i64 0,.int .i64 0] 23)) (cf8 fun _=>0):=(Bx.new w _ rfl _ _).go ((Below.refl _ _).alloc (Nat.le_refl _) _) (by simp);have HB1:=lj hb1;have HX1:=lj hx1;have HX0:=lj hx0;clear hb1 hx1 hx0
 go_enter Tryz.func103,Tryz.ntmps103
 go_upto_region 2 with fail
 generalize (World.alloc _ _).alloc _=w1 at *
 obtain ⟨g,hg⟩:∃ g,w.heap.size=g:=⟨_,rfl⟩
 rw [hg] at HL HB1 HX1 HX0 hbB;simp only [hg];have HG:=lj hg;clear hg
 go_wp2_with fail
 refine (parts_any (g+1) w1).mono ?_;rintro e w2 ⟨rfl,hb2⟩;have HB2:=lj (Below.trans HB1.out (hb2.mono (by have:=HX0.out.room; omega)));have HX2:=lj (HX1.out.go hb2 HX1.out.room);have HX3:=lj (HX0.out.go hb2 HX0.out.room);clear hb2 HB1 HX1 HX0;unfold ptrs
 go_wp2_with fail
 go_loopw [7] (fun i wr=>∃ k:Nat,k≤8∧i = .int .i64 (k:Nat)∧Bx (g+1) wr (cf8 (upto l k))∧Bx g wr (cf8 fun _=>0)∧Below g w wr) (fun i _=>8 - (intOf i).toNat)
 case atStart=>exact ⟨0,by omega,rfl,HX2.out,HX3.out,HB2.out⟩
 case round =>
  obtain ⟨k,hk,rfl,hx,hx0,hb⟩:=hrel;have HX:=lj hx;have HY:=lj hx0;have HB:=lj hb;have HW:=lj hx.room;clear hx hx0 hb HX2 HX3 HB2
  rcases (show k=0∨k=1∨k=2∨k=3∨k=4∨k=5∨k=6∨k=7∨k=8 by omega) with rfl | rfl | rfl | rfl | rfl | rfl | rfl | rfl | rfl
  ·have HF:=lj (show Bytes wr g (some ⟨b,off+0,none⟩) 3 ((l.drop 0).take 3) from ((HL.out.below HB.out).cut2 (cap:=cap) (j:=0) (by omega) hcap (by omega)).take (by omega))
   have hc:=HX.out.cell 0 _ rfl;have hfz:=HX.out.free 0
   have hne:¬ cap=0:=by omega
   have hix:∀ W:World,(Instr.index 136 (.agg #[.pointer (some ⟨g+1,0,none⟩),.pointer (some ⟨g+1,1,none⟩),.pointer (some ⟨g+1,2,none⟩),.pointer (some ⟨g+1,3,none⟩),.pointer (some ⟨g+1,4,none⟩),.pointer (some ⟨g+1,5,none⟩),.pointer (some ⟨g+1,6,none⟩),.pointer (some ⟨g+1,7,none⟩)]) (.int .i64 0)).run Tryz.prog W = .ok (.pointer (some ⟨g+1,0,none⟩)) W:=fun _=>by kernel_rfl
   go_wp2_with fail
   refine (number_anyS _ 3 (cap) g ((l.drop 0).take 3) wr HF.out (by omega) (by omega)).mono ?_;rintro e w3 ⟨rfl,rfl⟩
   go_wp2_with fail
   go_roundw
   case rel=>exact ⟨1,by omega,by go_num,HX.out.set 0 _,HY.out.other (by simp) _,HB.out.setCell (by simp) _⟩
   case measure=>simp [intOf]
  ·have HF:=lj (show Bytes wr g (some ⟨b,off+3,none⟩) 3 ((l.drop 3).take 3) from ((HL.out.below HB.out).cut2 (cap:=cap) (j:=3) (by omega) hcap (by omega)).take (by omega))
   have hc:=HX.out.cell 1 _ rfl;have hfz:=HX.out.free 1
   have hne:¬ cap=3:=by omega
   have hix:∀ W:World,(Instr.index 136 (.agg #[.pointer (some ⟨g+1,0,none⟩),.pointer (some ⟨g+1,1,none⟩),.pointer (some ⟨g+1,2,none⟩),.pointer (some ⟨g+1,3,none⟩),.pointer (some ⟨g+1,4,none⟩),.pointer (some ⟨g+1,5,none⟩),.pointer (some ⟨g+1,6,none⟩),.pointer (some ⟨g+1,7,none⟩)]) (.int .i64 1)).run Tryz.prog W = .ok (.pointer (some ⟨g+1,1,none⟩)) W:=fun _=>by kernel_rfl
   go_wp2_with fail
   refine (number_anyS _ 3 (cap - 3) g ((l.drop 3).take 3) wr HF.out (by omega) (by omega)).mono ?_;rintro e w3 ⟨rfl,rfl⟩
   go_wp2_with fail
   go_roundw
   case rel=>exact ⟨2,by omega,by go_num,HX.out.set 1 _,HY.out.other (by simp) _,HB.out.setCell (by simp) _⟩
   case measure=>simp [intOf]
  ·have HF:=lj (show Bytes wr g (some ⟨b,off+6,none⟩) 3 ((l.drop 6).take 3) from ((HL.out.below HB.out).cut2 (cap:=cap) (j:=6) (by omega) hcap (by omega)).take (by omega))
   have hc:=HX.out.cell 2 _ rfl;have hfz:=HX.out.free 2
   have hne:¬ cap=6:=by omega
   have hix:∀ W:World,(Instr.index 136 (.agg #[.pointer (some ⟨g+1,0,none⟩),.pointer (some ⟨g+1,1,none⟩),.pointer (some ⟨g+1,2,none⟩),.pointer (some ⟨g+1,3,none⟩),.pointer (some ⟨g+1,4,none⟩),.pointer (some ⟨g+1,5,none⟩),.pointer (some ⟨g+1,6,none⟩),.pointer (some ⟨g+1,7,none⟩)]) (.int .i64 2)).run Tryz.prog W = .ok (.pointer (some ⟨g+1,2,none⟩)) W:=fun _=>by kernel_rfl
   go_wp2_with fail
   refine (number_anyS _ 3 (cap - 6) g ((l.drop 6).take 3) wr HF.out (by omega) (by omega)).mono ?_;rintro e w3 ⟨rfl,rfl⟩
   go_wp2_with fail
   go_roundw
   case rel=>exact ⟨3,by omega,by go_num,HX.out.set 2 _,HY.out.other (by simp) _,HB.out.setCell (by simp) _⟩
   case measure=>simp [intOf]
  ·have HF:=lj (show Bytes wr g (some ⟨b,off+9,none⟩) 3 ((l.drop 9).take 3) from ((HL.out.below HB.out).cut2 (cap:=cap) (j:=9) (by omega) hcap (by omega)).take (by omega))
   have hc:=HX.out.cell 3 _ rfl;have hfz:=HX.out.free 3
   have hne:¬ cap=9:=by omega
   have hix:∀ W:World,(Instr.index 136 (.agg #[.pointer (some ⟨g+1,0,none⟩),.pointer (some ⟨g+1,1,none⟩),.pointer (some ⟨g+1,2,none⟩),.pointer (some ⟨g+1,3,none⟩),.pointer (some ⟨g+1,4,none⟩),.pointer (some ⟨g+1,5,none⟩),.pointer (some ⟨g+1,6,none⟩),.pointer (some ⟨g+1,7,none⟩)]) (.int .i64 3)).run Tryz.prog W = .ok (.pointer (some ⟨g+1,3,none⟩)) W:=fun _=>by kernel_rfl
   go_wp2_with fail
   refine (number_anyS _ 3 (cap - 9) g ((l.drop 9).take 3) wr HF.out (by omega) (by omega)).mono ?_;rintro e w3 ⟨rfl,rfl⟩
   go_wp2_with fail
   go_roundw
   case rel=>exact ⟨4,by omega,by go_num,HX.out.set 3 _,HY.out.other (by simp) _,HB.out.setCell (by simp) _⟩
   case measure=>simp [intOf]
  ·have HF:=lj (show Bytes wr g (some ⟨b,off+12,none⟩) 3 ((l.drop 12).take 3) from ((HL.out.below HB.out).cut2 (cap:=cap) (j:=12) (by omega) hcap (by omega)).take (by omega))
   have hc:=HX.out.cell 4 _ rfl;have hfz:=HX.out.free 4
   have hne:¬ cap=12:=by omega
   have hix:∀ W:World,(Instr.index 136 (.agg #[.pointer (some ⟨g+1,0,none⟩),.pointer (some ⟨g+1,1,none⟩),.pointer (some ⟨g+1,2,none⟩),.pointer (some ⟨g+1,3,none⟩),.pointer (some ⟨g+1,4,none⟩),.pointer (some ⟨g+1,5,none⟩),.pointer (some ⟨g+1,6,none⟩),.pointer (some ⟨g+1,7,none⟩)]) (.int .i64 4)).run Tryz.prog W = .ok (.pointer (some ⟨g+1,4,none⟩)) W:=fun _=>by kernel_rfl
   go_wp2_with fail
   refine (number_anyS _ 3 (cap - 12) g ((l.drop 12).take 3) wr HF.out (by omega) (by omega)).mono ?_;rintro e w3 ⟨rfl,rfl⟩
   go_wp2_with fail
   go_roundw
   case rel=>exact ⟨5,by omega,by go_num,HX.out.set 4 _,HY.out.other (by simp) _,HB.out.setCell (by simp) _⟩
   case measure=>simp [intOf]
  ·have HF:=lj (show Bytes wr g (some ⟨b,off+15,none⟩) 3 ((l.drop 15).take 3) from ((HL.out.below HB.out).cut2 (cap:=cap) (j:=15) (by omega) hcap (by omega)).take (by omega))
   have hc:=HX.out.cell 5 _ rfl;have hfz:=HX.out.free 5
   have hne:¬ cap=15:=by omega
   have hix:∀ W:World,(Instr.index 136 (.agg #[.pointer (some ⟨g+1,0,none⟩),.pointer (some ⟨g+1,1,none⟩),.pointer (some ⟨g+1,2,none⟩),.pointer (some ⟨g+1,3,none⟩),.pointer (some ⟨g+1,4,none⟩),.pointer (some ⟨g+1,5,none⟩),.pointer (some ⟨g+1,6,none⟩),.pointer (some ⟨g+1,7,none⟩)]) (.int .i64 5)).run Tryz.prog W = .ok (.pointer (some ⟨g+1,5,none⟩)) W:=fun _=>by kernel_rfl
   go_wp2_with fail
   refine (number_anyS _ 3 (cap - 15) g ((l.drop 15).take 3) wr HF.out (by omega) (by omega)).mono ?_;rintro e w3 ⟨rfl,rfl⟩
   go_wp2_with fail
   go_roundw
   case rel=>exact ⟨6,by omega,by go_num,HX.out.set 5 _,HY.out.other (by simp) _,HB.out.setCell (by simp) _⟩
   case measure=>simp [intOf]
  ·have HF:=lj (show Bytes wr g (some ⟨b,off+18,none⟩) 3 ((l.drop 18).take 3) from ((HL.out.below HB.out).cut2 (cap:=cap) (j:=18) (by omega) hcap (by omega)).take (by omega))
   have hc:=HX.out.cell 6 _ rfl;have hfz:=HX.out.free 6
   have hne:¬ cap=18:=by omega
   have hix:∀ W:World,(Instr.index 136 (.agg #[.pointer (some ⟨g+1,0,none⟩),.pointer (some ⟨g+1,1,none⟩),.pointer (some ⟨g+1,2,none⟩),.pointer (some ⟨g+1,3,none⟩),.pointer (some ⟨g+1,4,none⟩),.pointer (some ⟨g+1,5,none⟩),.pointer (some ⟨g+1,6,none⟩),.pointer (some ⟨g+1,7,none⟩)]) (.int .i64 6)).run Tryz.prog W = .ok (.pointer (some ⟨g+1,6,none⟩)) W:=fun _=>by kernel_rfl
   go_wp2_with fail
   refine (number_anyS _ 3 (cap - 18) g ((l.drop 18).take 3) wr HF.out (by omega) (by omega)).mono ?_;rintro e w3 ⟨rfl,rfl⟩
   go_wp2_with fail
   go_roundw
   case rel=>exact ⟨7,by omega,by go_num,HX.out.set 6 _,HY.out.other (by simp) _,HB.out.setCell (by simp) _⟩
   case measure=>simp [intOf]
  ·have HF:=lj (show Bytes wr g (some ⟨b,off+21,none⟩) 3 ((l.drop 21).take 3) from ((HL.out.below HB.out).cut2 (cap:=cap) (j:=21) (by omega) hcap (by omega)).take (by omega))
   have hc:=HX.out.cell 7 _ rfl;have hfz:=HX.out.free 7
   have hne:¬ cap=21:=by omega
   have hix:∀ W:World,(Instr.index 136 (.agg #[.pointer (some ⟨g+1,0,none⟩),.pointer (some ⟨g+1,1,none⟩),.pointer (some ⟨g+1,2,none⟩),.pointer (some ⟨g+1,3,none⟩),.pointer (some ⟨g+1,4,none⟩),.pointer (some ⟨g+1,5,none⟩),.pointer (some ⟨g+1,6,none⟩),.pointer (some ⟨g+1,7,none⟩)]) (.int .i64 7)).run Tryz.prog W = .ok (.pointer (some ⟨g+1,7,none⟩)) W:=fun _=>by kernel_rfl
   go_wp2_with fail
   refine (number_anyS _ 3 (cap - 21) g ((l.drop 21).take 3) wr HF.out (by omega) (by omega)).mono ?_;rintro e w3 ⟨rfl,rfl⟩
   go_wp2_with fail
   go_roundw
   case rel=>exact ⟨8,by omega,by go_num,HX.out.set 7 _,HY.out.other (by simp) _,HB.out.setCell (by simp) _⟩
   case measure=>simp [intOf]
  ·have h0:wr.cell? ⟨g+1,0,none⟩=some (.int .i64 (cof l 0:Nat)):=HX.out.cell 0 _ rfl
   have h1:wr.cell? ⟨g+1,1,none⟩=some (.int .i64 (cof l 1:Nat)):=HX.out.cell 1 _ rfl;have h2:wr.cell? ⟨g+1,2,none⟩=some (.int .i64 (cof l 2:Nat)):=HX.out.cell 2 _ rfl;have h3:wr.cell? ⟨g+1,3,none⟩=some (.int .i64 (cof l 3:Nat)):=HX.out.cell 3 _ rfl;have h4:wr.cell? ⟨g+1,4,none⟩=some (.int .i64 (cof l 4:Nat)):=HX.out.cell 4 _ rfl;have h5:wr.cell? ⟨g+1,5,none⟩=some (.int .i64 (cof l 5:Nat)):=HX.out.cell 5 _ rfl;have h6:wr.cell? ⟨g+1,6,none⟩=some (.int .i64 (cof l 6:Nat)):=HX.out.cell 6 _ rfl;have h7:wr.cell? ⟨g+1,7,none⟩=some (.int .i64 (cof l 7:Nat)):=HX.out.cell 7 _ rfl;have c0:wr.cell? ⟨g,0,none⟩=some (.int .i64 0):=HY.out.cell 0 _ rfl;have f0:=HY.out.free 0;have c1:wr.cell? ⟨g,1,none⟩=some (.int .i64 0):=HY.out.cell 1 _ rfl;have f1:=HY.out.free 1;have c2:wr.cell? ⟨g,2,none⟩=some (.int .i64 0):=HY.out.cell 2 _ rfl;have f2:=HY.out.free 2;have c3:wr.cell? ⟨g,3,none⟩=some (.int .i64 0):=HY.out.cell 3 _ rfl;have f3:=HY.out.free 3;have c4:wr.cell? ⟨g,4,none⟩=some (.int .i64 0):=HY.out.cell 4 _ rfl;have f4:=HY.out.free 4;have c5:wr.cell? ⟨g,5,none⟩=some (.int .i64 0):=HY.out.cell 5 _ rfl;have f5:=HY.out.free 5;have c6:wr.cell? ⟨g,6,none⟩=some (.int .i64 0):=HY.out.cell 6 _ rfl;have f6:=HY.out.free 6;have c7:wr.cell? ⟨g,7,none⟩=some (.int .i64 0):=HY.out.cell 7 _ rfl;have f7:=HY.out.free 7;have hfin:=set8 (f:=cof l) HY.out HB.out (Nat.le_refl _);go_wp2;generalize World.setCell _ _ _=W at hfin ⊢;have r0:=hfin.1.cell 0 _ rfl;have r1:=hfin.1.cell 1 _ rfl;have r2:=hfin.1.cell 2 _ rfl;have r3:=hfin.1.cell 3 _ rfl;have r4:=hfin.1.cell 4 _ rfl;have r5:=hfin.1.cell 5 _ rfl;have r6:=hfin.1.cell 6 _ rfl;have r7:=hfin.1.cell 7 _ rfl;exact bodyPost_ret (by simp [results,go_sem,r0,r1,r2,r3,r4,r5,r6,r7]; rfl) rfl ⟨rfl,by rw [HG.out]; exact hfin.2⟩
theorem set4S {g B:Nat} {w0 w:World} {a0 b0 c0 d0 a b c d:Value} (h:Bx g w #[a0,b0,c0,d0]) (hb:Below B w0 w) (hB:B≤g) :
  Bx g ((((w.setCell ⟨g,0,none⟩ a).setCell ⟨g,1,none⟩ b).setCell ⟨g,2,none⟩ c).setCell ⟨g,3,none⟩ d) #[a,b,c,d] ∧
  Below B w0 ((((w.setCell ⟨g,0,none⟩ a).setCell ⟨g,1,none⟩ b).setCell ⟨g,2,none⟩ c).setCell ⟨g,3,none⟩ d):=by
 have h0:=h.set 0 a;have h1:=h0.set 1 b;have h2:=h1.set 2 c;have h3:=h2.set 3 d;have k0:=hb.setCell (p:=⟨g,0,none⟩) hB a;have k1:=k0.setCell (p:=⟨g,1,none⟩) hB b;have k2:=k1.setCell (p:=⟨g,2,none⟩) hB c;have k3:=k2.setCell (p:=⟨g,3,none⟩) hB d;exact ⟨h3,k3⟩
def GGives (l:Bs) (w:World) (r:Ending) (w':World):Prop:=
 ∃ (e:Ev) (m er:Nat),r = .returned (.tuple #[evv e,.int .i64 m,.int .i64 er])∧Below w.heap.size w w' ∧
  ((er=5∧shortB l)∨(er=0∧wholeB l∧rtE (evOf l)=true∧e=evOf l∧m=size l)∨(er=8∧wholeB l∧rtE (evOf l)=false))
theorem g_short {l:Bs} {w w':World} (h:shortB l) (hb:Below w.heap.size w w'):GGives l w (.returned (.tuple #[evv ⟨0,0,0,[]⟩,.int .i64 0,.int .i64 5])) w':=
 ⟨⟨0,0,0,[]⟩,0,5,rfl,hb,.inl ⟨rfl,h⟩⟩
theorem g_form {l:Bs} {w w':World} (h:wholeB l) (hr:rtE (evOf l)=false) (hb:Below w.heap.size w w'):GGives l w (.returned (.tuple #[evv ⟨0,0,0,[]⟩,.int .i64 0,.int .i64 8])) w':=
 ⟨⟨0,0,0,[]⟩,0,8,rfl,hb,.inr (.inr ⟨rfl,h,hr⟩)⟩
theorem g_ok {l:Bs} {w w':World} (h:wholeB l) (hr:rtE (evOf l)=true) (hb:Below w.heap.size w w'):GGives l w (.returned (.tuple #[evv (evOf l),.int .i64 (size l),.int .i64 0])) w':=
 ⟨evOf l,size l,0,rfl,hb,.inr (.inl ⟨rfl,h,hr,rfl,rfl⟩)⟩
set_option maxHeartbeats 1000000 in
theorem get16_any (a:Option Addr) (n cap:Nat) (l:Bs) (w:World) (hl:Bytes w w.heap.size a n l) (hcap:n≤cap) (hm:cap≤9223372036854775807) :
    Calls Tryz.prog 104 #[.slice a n cap] w (GGives l w):=by
  have hlen:=hl.1;have HL:=lj hl;clear hl;have HX:=lj (Bx.new w w.heap.size rfl #[.int .i64 0,.int .i64 0,.int .i64 0,.string ⟨#[]⟩] 30);have HB:=lj ((Below.refl w.heap.size w).alloc (Nat.le_refl _) (.cells #[.int .i64 0,.int .i64 0,.int .i64 0,.string ⟨#[]⟩] 30))
  by_cases h7:n<7
  · have hsh:shortB l:=.inl (by omega)
    have HS:=lj hsh;clear hsh hlen
    go_enter Tryz.func104,Tryz.ntmps104
    go_upto_region 2 with fail
    generalize w.alloc _=w1 at *;obtain ⟨c0,c1,c2,c3⟩:=HX.out.ev;have f0:=HX.out.free 0;have f1:=HX.out.free 1;have f2:=HX.out.free 2;have f3:=HX.out.free 3;have hfin:=set4S (a:=.int .i64 0) (b:=.int .i64 0) (c:=.int .i64 0) (d:=.string ⟨#[]⟩) HX.out HB.out (Nat.le_refl _)
    have hd:decide ((n:Int)<7)=true:=by simp; omega
    go_wp2;generalize World.setCell _ _ _=W at hfin ⊢;obtain ⟨r0,r1,r2,r3⟩:=hfin.1.ev;exact bodyPost_ret (by simp [results,go_sem,r0,r1,r2,r3]; rfl) rfl (g_short HS.out hfin.2)
  have hd:decide ((n:Int)<7)=false:=by simp; omega
  obtain ⟨b,off,rfl,hbB,hcell⟩:=HL.out.2 (by omega);have hK:nat ((l.drop 5).take 2)<256 ^ 2:=nat_le 2 _ (by simp; omega);have HSz:=lj (show size l=7+nat ((l.drop 5).take 2) from rfl)
  obtain ⟨K,hKe⟩:∃ K,nat ((l.drop 5).take 2)=K:=⟨_,rfl⟩
  rw [hKe] at hK HSz;have HK:=lj hKe;clear hKe
  go_enter Tryz.func104,Tryz.ntmps104
  go_upto_region 3 with fail
  generalize w.alloc _=w1 at *
  obtain ⟨g,hg⟩:∃ g,w.heap.size=g:=⟨_,rfl⟩
  rw [hg] at HL HB HX hbB;simp only [hg];have HG:=lj hg;clear hg;have HY:=lj (HL.out.below HB.out)
  have hne5:¬ cap=5:=by omega
  have HF:=lj (show Bytes w1 g (some ⟨b,off+5,none⟩) 2 ((l.drop 5).take 2) from (HY.out.cut2 (cap:=cap) (j:=5) (by omega) hcap (by omega)).take (by omega))
  go_upto_region 4 with (first
    | (go_at_call 128
       refine (number_anyS _ 2 (cap - 5) g ((l.drop 5).take 2) w1 HF.out (by omega) (by omega)).mono ?_;rintro e w3 ⟨rfl,rfl⟩
       rw [HK.out])
    | fail)
  by_cases hsh:n<7+K
  · have HS:=lj (show shortB l from .inr (by rw [HSz.out]; omega))
    have hd2:decide ((n:Int)<7+(K:Int))=true:=by simp; omega
    obtain ⟨c0,c1,c2,c3⟩:=HX.out.ev;have f0:=HX.out.free 0;have f1:=HX.out.free 1;have f2:=HX.out.free 2;have f3:=HX.out.free 3;clear hsh;have hfin:=set4S (a:=.int .i64 0) (b:=.int .i64 0) (c:=.int .i64 0) (d:=.string ⟨#[]⟩) HX.out HB.out (Nat.le_refl _);go_wp2;generalize World.setCell _ _ _=W at hfin ⊢;obtain ⟨r0,r1,r2,r3⟩:=hfin.1.ev;exact bodyPost_ret (by simp [results,go_sem,r0,r1,r2,r3]; rfl) rfl (g_short HS.out (by rw [HG.out]; exact hfin.2))
  have hd2:decide ((n:Int)<7+(K:Int))=false:=by simp; omega
  go_upto_region 6 with fail
  have hmix:Tryz.prog.follows .mixedOrders=true:=by kernel_rfl
  have hwhole:wholeB l:=⟨by omega,by rw [HSz.out]; omega⟩;have HWh:=lj hwhole;have hY:=HY.out
  have HC:=lj (fun (W:World) (h:Bytes W g (some ⟨b,off,none⟩) n l)=>(show W.cell? ⟨b,off,none⟩=some (.int .u8 (l[0]?.getD 0#8).toNat)∧W.cell? ⟨b,off+1,none⟩=some (.int .u8 (l[1]?.getD 0#8).toNat) by
    obtain ⟨b',off',e,_,hc⟩:=h.2 (by omega)
    injection e with e
    injection e with e1 e2 _
    subst e1 e2
    exact ⟨hc 0 (by omega),hc 1 (by omega)⟩))
  have HD:=lj (fun (W:World) (h:Bytes W g (some ⟨b,off,none⟩) n l)=>(show Bytes W g (cutA (some ⟨b,off,none⟩) cap 7) K ((l.drop 7).take K) from (h.cut (by omega) hcap).take (by omega)));have HN3:=lj (fun (W:World) (h:Bytes W g (some ⟨b,off,none⟩) n l)=>(show Bytes W g (some ⟨b,off+2,none⟩) 3 ((l.drop 2).take 3) from (h.cut2 (cap:=cap) (j:=2) (by omega) hcap (by omega)).take (by omega)))
  have hev:evOf l=⟨((l[0]?.getD 0#8).toNat:Nat),((l[1]?.getD 0#8).toNat:Nat),(nat ((l.drop 2).take 3):Nat),(l.drop 7).take K⟩:=by rw [← HK.out]; rfl
  have HEv:=lj hev;clear hev hwhole hcell hY;generalize l[0]?.getD 0#8=x0 at *;generalize l[1]?.getD 0#8=x1 at *;generalize hN:nat ((l.drop 2).take 3)=N at *;have HNe:=lj hN;clear hN;generalize (l.drop 7).take K=t at *
  have hne2:¬ cap=2:=by omega
  have hcut:∀ D,D=cutA (some ⟨b,off,none⟩) cap 7→(if cap=7 then some (⟨b,off,none⟩:Addr) else some ⟨b,off+7,none⟩)=D:=by
    rintro D rfl;unfold cutA
    split <;> simp [add_none]
  obtain ⟨D,hD⟩:∃ D,D=cutA (some ⟨b,off,none⟩) cap 7:=⟨_,rfl⟩
  have HCut:=lj (hcut D hD);rw [← hD] at HD;clear hcut hD;have hx0:=x0.isLt;have hx1:=x1.isLt;have hw0:IntKind.i64.wrap (x0.toNat:Int)=x0.toNat:=IntWalk.i64_in _ (by omega);have hw1:IntKind.i64.wrap (x1.toNat:Int)=x1.toNat:=IntWalk.i64_in _ (by omega)
  have hn1:¬ ((n:Int)≤1):=by omega
  have HSA:=lj (fun (o:Obj)=>(bytes_drew (HY.out.below ((Below.refl _ w1).alloc (by have:=HX.out.room; omega) o)):Bytes (w1.alloc o).drew g (some ⟨b,off,none⟩) n l));refine wp_region_held (S:=fun W=>Bytes W g (some ⟨b,off,none⟩) n l) hmix ?_
  change wpAnyH _ _ _ _ _ _ _ _ (World.drew _)
  have hS0:Bytes w1.drew g (some ⟨b,off,none⟩) n l:=bytes_drew HY.out;refine wpAnyH_take (i:=0) (v:=.slice (some ⟨b,off,none⟩) n cap) rfl (by kernel_rfl) (by kernel_rfl) (by kernel_rfl) (fun _ _ _ h=>h) (.inl ⟨by kernel_rfl,fun W hW=>?_⟩) hS0 ?_
  · go_simp
  refine wpAnyH_take (i:=1) (v:=.pointer (some ⟨b,off,none⟩)) rfl (by kernel_rfl) (by kernel_rfl) (by kernel_rfl) (fun _ _ _ h=>h) (.inl ⟨by kernel_rfl,fun W hW=>?_⟩) hS0 ?_
  · go_simp; try (intro hh; exfalso; omega)
  refine wpAnyH_take (i:=2) (v:=.int .u8 x0.toNat) rfl (by kernel_rfl) (by kernel_rfl) (by kernel_rfl) (fun _ _ _ h=>h) (.inl ⟨by kernel_rfl,fun W hW=>?_⟩) hS0 ?_
  · obtain ⟨e0,e1⟩:=HC.out W hW; go_simp
  refine wpAnyH_take (i:=3) (v:=.int .i64 x0.toNat) rfl (by kernel_rfl) (by kernel_rfl) (by kernel_rfl) (fun _ _ _ h=>h) (.inl ⟨by kernel_rfl,fun W hW=>?_⟩) hS0 ?_
  · go_simp
  refine wpAnyH_take (i:=4) (v:=.slice (some ⟨b,off,none⟩) n cap) rfl (by kernel_rfl) (by kernel_rfl) (by kernel_rfl) (fun _ _ _ h=>h) (.inl ⟨by kernel_rfl,fun W hW=>?_⟩) hS0 ?_
  · go_simp
  refine wpAnyH_take (i:=5) (v:=.pointer (some ⟨b,off+1,none⟩)) rfl (by kernel_rfl) (by kernel_rfl) (by kernel_rfl) (fun _ _ _ h=>h) (.inl ⟨by kernel_rfl,fun W hW=>?_⟩) hS0 ?_
  · go_simp; try (intro hh; exfalso; omega)
  refine wpAnyH_take (i:=6) (v:=.int .u8 x1.toNat) rfl (by kernel_rfl) (by kernel_rfl) (by kernel_rfl) (fun _ _ _ h=>h) (.inl ⟨by kernel_rfl,fun W hW=>?_⟩) hS0 ?_
  · obtain ⟨e0,e1⟩:=HC.out W hW; go_simp
  refine wpAnyH_take (i:=7) (v:=.int .i64 x1.toNat) rfl (by kernel_rfl) (by kernel_rfl) (by kernel_rfl) (fun _ _ _ h=>h) (.inl ⟨by kernel_rfl,fun W hW=>?_⟩) hS0 ?_
  · go_simp
  refine wpAnyH_take (i:=8) (v:=.slice (some ⟨b,off,none⟩) n cap) rfl (by kernel_rfl) (by kernel_rfl) (by kernel_rfl) (fun _ _ _ h=>h) (.inl ⟨by kernel_rfl,fun W hW=>?_⟩) hS0 ?_
  · go_simp
  refine wpAnyH_take (i:=9) (v:=.slice (some ⟨b,off+2,none⟩) 3 (cap - 2)) rfl (by kernel_rfl) (by kernel_rfl) (by kernel_rfl) (fun _ _ _ h=>h) (.inl ⟨by kernel_rfl,fun W hW=>?_⟩) hS0 ?_
  · go_simp; try (intro hh; exfalso; omega)
  refine wpAnyH_take (i:=11) (v:=.slice (some ⟨b,off,none⟩) n cap) rfl (by kernel_rfl) (by kernel_rfl) (by kernel_rfl) (fun _ _ _ h=>h) (.inl ⟨by kernel_rfl,fun W hW=>?_⟩) hS0 ?_
  · go_simp
  refine wpAnyH_take (i:=12) (v:=.int .i64 (7+(K:Int))) rfl (by kernel_rfl) (by kernel_rfl) (by kernel_rfl) (fun _ _ _ h=>h) (.inl ⟨by kernel_rfl,fun W hW=>?_⟩) hS0 ?_
  · go_simp
  refine wpAnyH_take (i:=13) (v:=.slice D K (cap - 7)) rfl (by kernel_rfl) (by kernel_rfl) (by kernel_rfl) (fun _ _ _ h=>h) (.inl ⟨by kernel_rfl,fun W hW=>?_⟩) hS0 ?_
  · have hcu:=HCut.out
    go_simp
    rw [if_pos (by omega),if_pos (by omega),show (7+(K:Int)).toNat - 7=K by omega]
  refine wpAnyH_take (i:=14) (v:=.string (str t)) rfl (by kernel_rfl) (by kernel_rfl) (by kernel_rfl) (fun _ _ _ h=>h) (.inl ⟨by kernel_rfl,fun W hW=>?_⟩) hS0 ?_
  · have hcv:=conv_str (cap:=cap - 7) (HD.out W hW); go_simp
  refine wpAnyH_all (rs:=[10,16]) (by kernel_rfl) (by simp) ?_;intro z hz;simp only [List.mem_cons,List.not_mem_nil,or_false] at hz
  rcases hz with rfl | rfl
  unfold wpOp
  go_simp
  refine .inl ((number_anyS _ 3 (cap - 2) g ((l.drop 2).take 3) _ (HN3.out _ hS0) (by omega) (by omega)).mono ?_);rintro e w3 ⟨rfl,rfl⟩;rw [HNe.out]
  go_simp
  refine wpAnyH_take (i:=15) (v:=.agg #[.int .i64 x0.toNat,.int .i64 x1.toNat,.int .i64 N,.string (str t)]) rfl (by kernel_rfl) (by kernel_rfl) (by kernel_rfl) (fun _ _ _ h=>h) (.inl ⟨by kernel_rfl,fun W hW=>?_⟩) hS0 ?_
  · go_simp
  refine wpAnyH_all (rs:=[16]) (by kernel_rfl) (by simp) ?_;intro z hz;rw [List.mem_singleton.1 hz];clear hz;unfold wpOp
  go_simp
  refine .inl ⟨HSA.out _,?_⟩;refine wpAnyH_all (rs:=[17]) (by kernel_rfl) (by simp) ?_;intro z hz;rw [List.mem_singleton.1 hz];clear hz;unfold wpOp
  go_simp
  refine .inl ⟨HSA.out _,?_⟩;refine wpAnyH_done (by kernel_rfl) ?_ _
  rotate_left
  unfold wpOp
  go_simp
  refine .inl ⟨HSA.out _,?_⟩;have hS1:=HSA.out (.cells #[.int .i64 0,.int .i64 0,.int .i64 0,.string ⟨#[]⟩] 30);have hS0:=hS1;clear hS1;refine wpAnyH_all (rs:=[10]) (by kernel_rfl) (by simp) ?_;intro z hz;rw [List.mem_singleton.1 hz];clear hz;unfold wpOp
  go_simp
  refine .inl ((number_anyS _ 3 (cap - 2) g ((l.drop 2).take 3) _ (HN3.out _ hS0) (by omega) (by omega)).mono ?_);rintro e w3 ⟨rfl,rfl⟩;rw [HNe.out]
  go_simp
  refine wpAnyH_take (i:=15) (v:=.agg #[.int .i64 x0.toNat,.int .i64 x1.toNat,.int .i64 N,.string (str t)]) rfl (by kernel_rfl) (by kernel_rfl) (by kernel_rfl) (fun _ _ _ h=>h) (.inl ⟨by kernel_rfl,fun W hW=>?_⟩) hS0 ?_
  · go_simp
  refine wpAnyH_all (rs:=[17]) (by kernel_rfl) (by simp) ?_;intro z hz;rw [List.mem_singleton.1 hz];clear hz;unfold wpOp
  go_simp
  refine .inl ⟨HSA.out _,?_⟩;refine wpAnyH_done (by kernel_rfl) ?_ _
  all_goals
    have HXe:=lj (show Bx w1.heap.size (w1.alloc (.cells #[.int .i64 x0.toNat,.int .i64 x1.toNat,.int .i64 N,.string (str t)] 30)).drew #[.int .i64 x0.toNat,.int .i64 x1.toNat,.int .i64 N,.string (str t)] from ⟨(Bx.new w1 _ rfl _ _).head⟩);have HX2:=lj (show Bx g (w1.alloc (.cells #[.int .i64 x0.toNat,.int .i64 x1.toNat,.int .i64 N,.string (str t)] 30)).drew #[.int .i64 0,.int .i64 0,.int .i64 0,.string ⟨#[]⟩] from ⟨(HX.out.go ((Below.refl _ w1).alloc (by have:=HX.out.room; omega) _) HX.out.room).head⟩);have HB2:Hid (Below g w (w1.alloc (.cells #[.int .i64 x0.toNat,.int .i64 x1.toNat,.int .i64 N,.string (str t)] 30)).drew):=lj (below_drew (HB.out.alloc (by have:=HX.out.room; omega) _));have hgw:=HX.out.room;clear hS0 HX HB HSA HC HD HN3 HCut HY HF;generalize (w1.alloc (.cells #[.int .i64 x0.toNat,.int .i64 x1.toNat,.int .i64 N,.string (str t)] 30)).drew=W2 at *
    obtain ⟨ge,hge⟩:∃ ge,w1.heap.size=ge:=⟨_,rfl⟩
    rw [hge] at HXe hgw;simp only [hge];clear hge;obtain ⟨c0,c1,c2,c3⟩:=HXe.out.ev;have HRt:=lj (right16_any (evOf l) W2);rw [HEv.out] at HRt;unfold evv at HRt;simp only at HRt
    obtain ⟨R,hR⟩:∃ R,rtE (evOf l)=R:=⟨_,rfl⟩
    rw [← HEv.out,hR] at HRt;have HR:=lj hR;clear hR
    go_upto_region 7 with fail
    go_wp2_with fail
    refine HRt.out.mono ?_;rintro e w4 ⟨rfl,hb4⟩;have HXe4:=lj (HXe.out.go hb4 HXe.out.room);have HX4:=lj (HX2.out.go hb4 HX2.out.room);have HB4:=lj (HB2.out.trans (hb4.mono (by have:=HX2.out.room; omega)));clear hb4 c0 c1 c2 c3 HXe HX2 HB2 HRt;obtain ⟨c0,c1,c2,c3⟩:=HXe4.out.ev;obtain ⟨z0,z1,z2,z3⟩:=HX4.out.ev;have f0:=HX4.out.free 0;have f1:=HX4.out.free 1;have f2:=HX4.out.free 2;have f3:=HX4.out.free 3;cases R
    · have hfin:=set4S (a:=.int .i64 0) (b:=.int .i64 0) (c:=.int .i64 0) (d:=.string ⟨#[]⟩) HX4.out HB4.out (Nat.le_refl _)
      go_wp2;generalize World.setCell _ _ _=W at hfin ⊢;obtain ⟨r0,r1,r2,r3⟩:=hfin.1.ev;exact bodyPost_ret (by simp [results,go_sem,r0,r1,r2,r3]; rfl) rfl (g_form HWh.out HR.out (by rw [HG.out]; exact hfin.2))
    · have hfin:=set4S (a:=.int .i64 x0.toNat) (b:=.int .i64 x1.toNat) (c:=.int .i64 N) (d:=.string (str t)) HX4.out HB4.out (Nat.le_refl _)
      go_wp2;generalize World.setCell _ _ _=W at hfin ⊢;obtain ⟨r0,r1,r2,r3⟩:=hfin.1.ev;have hok:=g_ok (w:=w) (w':=W) HWh.out HR.out (by rw [HG.out]; exact hfin.2);rw [HEv.out,HSz.out] at hok;unfold evv at hok;exact bodyPost_ret (by simp [results,go_sem,r0,r1,r2,r3]) rfl hok
end
section
open Go.RowKit
open Fr Bk
def sayE (id:Int) (m:M):Sc.Ev:=⟨1,id,0,enc m⟩
def conE (id:Int):Sc.Ev:=⟨0,id,0,[]⟩
def allE (id:Int):Sc.Ev:=⟨2,id,65536,[]⟩
theorem said_any (id:Int) (m:M) (hm:m.ok=true) (w:World) :
  Calls Tryz.prog 22 #[.int .i64 id,.agg #[.int .i64 m.k,.int .i64 m.a,.int .i64 m.b,.string (str m.t)]] w fun r w'=>r = .returned (evv (sayE id m))∧Below w.heap.size w w':=by
 have HM:=lj hm;have HBa:=lj ((Below.refl w.heap.size w).alloc (Nat.le_refl _) (.cells #[.int .i64 m.k,.int .i64 m.a,.int .i64 m.b,.string (str m.t)] 42));have hx0:=Bx.new w _ rfl #[.int .i64 m.k,.int .i64 m.a,.int .i64 m.b,.string (str m.t)] 42
 have hz:(w.alloc (.cells #[.int .i64 m.k,.int .i64 m.a,.int .i64 m.b,.string (str m.t)] 42)).heap.size=w.heap.size+1:=by simp
 have hx1:=Bx.new (w.alloc (.cells #[.int .i64 m.k,.int .i64 m.a,.int .i64 m.b,.string (str m.t)] 42)) _ hz #[.int .i64 0,.int .i64 0,.int .i64 0,.string ⟨#[]⟩] 30;have hb1:Below w.heap.size w ((w.alloc (.cells #[.int .i64 m.k,.int .i64 m.a,.int .i64 m.b,.string (str m.t)] 42)).alloc (.cells #[.int .i64 0,.int .i64 0,.int .i64 0,.string ⟨#[]⟩] 30)):=HBa.out.alloc HBa.out.size _;have hx0:=hx0.go ((Below.refl _ (w.alloc (.cells #[.int .i64 m.k,.int .i64 m.a,.int .i64 m.b,.string (str m.t)] 42))).alloc (Nat.le_refl _) (.cells #[.int .i64 0,.int .i64 0,.int .i64 0,.string ⟨#[]⟩] 30)) hx0.room;clear hm HBa hz
 go_enter Tryz.func22,Tryz.ntmps22
 go_upto_region 1 with fail
 generalize (w.alloc (.cells #[.int .i64 m.k,.int .i64 m.a,.int .i64 m.b,.string (str m.t)] 42)).alloc (.cells #[.int .i64 0,.int .i64 0,.int .i64 0,.string ⟨#[]⟩] 30)=w1 at *
 obtain ⟨g,hg⟩:∃ g,w.heap.size=g:=⟨_,rfl⟩
 rw [hg] at hx0 hx1 hb1 ⊢;have HG:=lj hg;clear hg;have HX0:=lj hx0;have HX1:=lj hx1;have HB1:=lj hb1;obtain ⟨c0,c1,c2,c3⟩:=hx0.ev;have HP:=lj (put_new m HM.out w1);clear hx0 hx1 hb1
 go_wp2_with fail
 refine HP.out.mono ?_;rintro e w2 ⟨A,c,rfl,hy,_,_,hb2⟩;have HX2:=lj (HX1.out.go hb2 HX1.out.room);have HB2:=lj (HB1.out.trans (hb2.mono (by have:=HX1.out.room; omega)));have hcv:=conv_str (cap:=c) hy;clear hb2 hy c0 c1 c2 c3 HP HX0 HX1 HB1;obtain ⟨c0,c1,c2,c3⟩:=HX2.out.ev;have f0:=HX2.out.free 0;have f1:=HX2.out.free 1;have f2:=HX2.out.free 2;have f3:=HX2.out.free 3;have hfin:=set4S (a:=.int .i64 1) (b:=.int .i64 id) (c:=.int .i64 0) (d:=.string (str (enc m))) HX2.out HB2.out (Nat.le_succ g);go_wp2;generalize World.setCell _ _ _=W at hfin ⊢;obtain ⟨r0,r1,r2,r3⟩:=hfin.1.ev;exact bodyPost_ret (by simp [results,go_sem,r0,r1,r2,r3]; rfl) rfl ⟨rfl,by rw [HG.out]; exact hfin.2⟩
theorem evrow_new {base:Nat} (w:World) (hb:base≤w.heap.size) (L:List Sc.Ev) (vs:Array Value) (hv:vs.toList=ecells L) (hn:L.length≤1000000) (hi:∀ e∈L,e.t.length≤maxLen) :
  EvRow base (w.alloc (.cells vs 30)) (some ⟨w.heap.size,0,none⟩) L.length L.length L:=by
 have hl:=ecells_len L
 have hs:vs.size=L.length * 4:=by rw [← Array.length_toList,hv,hl]
 refine ⟨⟨hl,.inr ⟨w.heap.size,L.length,vs,rfl,hb,heap_alloc_new w _,Nat.le_refl _,by unfold maxLen; omega,hs,?_⟩⟩,Nat.le_refl _,hi⟩;rw [hv];exact List.take_of_length_le (by omega)
theorem all_any (id:Int) (w:World):Calls Tryz.prog 21 #[.int .i64 id] w fun r w'=>r = .returned (evv (allE id))∧Below w.heap.size w w':=by
 have hx1:=Bx.new w _ rfl #[.int .i64 0,.int .i64 0,.int .i64 0,.string ⟨#[]⟩] 30;have hb1:Below w.heap.size w (w.alloc (.cells #[.int .i64 0,.int .i64 0,.int .i64 0,.string ⟨#[]⟩] 30)):=(Below.refl _ _).alloc (Nat.le_refl _) _
 go_enter Tryz.func21,Tryz.ntmps21
 go_upto_region 1 with fail
 generalize w.alloc (.cells #[.int .i64 0,.int .i64 0,.int .i64 0,.string ⟨#[]⟩] 30)=w1 at *
 obtain ⟨g,hg⟩:∃ g,w.heap.size=g:=⟨_,rfl⟩
 rw [hg] at hx1 hb1 ⊢;have HG:=lj hg;clear hg;obtain ⟨c0,c1,c2,c3⟩:=hx1.ev;have f0:=hx1.free 0;have f1:=hx1.free 1;have f2:=hx1.free 2;have f3:=hx1.free 3;have hfin:=set4S (a:=.int .i64 2) (b:=.int .i64 id) (c:=.int .i64 65536) (d:=.string ⟨#[]⟩) hx1 hb1 (Nat.le_refl g);go_wp2;generalize World.setCell _ _ _=W at hfin ⊢;obtain ⟨r0,r1,r2,r3⟩:=hfin.1.ev;exact bodyPost_ret (by simp [results,go_sem,r0,r1,r2,r3]; rfl) rfl ⟨rfl,by rw [HG.out]; exact hfin.2⟩
def cmdE (id:Int) (s:Bs):Sc.Ev:=sayE id (keys 1 (esc s))
theorem command_any (id:Int) (s:Bs) (hs:s.length≤2000) (w:World):Calls Tryz.prog 20 #[.int .i64 id,.string (str s)] w fun r w'=>r = .returned (evv (cmdE id s))∧Below w.heap.size w w':=by
 have hx1:=Bx.new w _ rfl #[.int .i64 0,.int .i64 0,.int .i64 0,.string ⟨#[]⟩] 30;have hb1:Below w.heap.size w (w.alloc (.cells #[.int .i64 0,.int .i64 0,.int .i64 0,.string ⟨#[]⟩] 30)):=(Below.refl _ _).alloc (Nat.le_refl _) _
 have hl:(esc s).length=s.length+3:=by unfold esc; simp
 have hok:=keys_ok (seq:=1) (t:=esc s) (by decide) (by decide) (by omega)
 go_enter Tryz.func20,Tryz.ntmps20
 go_upto_region 1 with fail
 generalize w.alloc (.cells #[.int .i64 0,.int .i64 0,.int .i64 0,.string ⟨#[]⟩] 30)=w1 at *
 obtain ⟨g,hg⟩:∃ g,w.heap.size=g:=⟨_,rfl⟩
 rw [hg] at hx1 hb1 ⊢;have HG:=lj hg;have HX1:=lj hx1;have HB1:=lj hb1;have HS:=lj (said_any id (keys 1 (esc s)) hok w1);have hsz:=str_size s
 obtain ⟨s1,hs1⟩:∃ s1:Bs,[29#8,58#8] ++ s=s1:=⟨_,rfl⟩
 have hc1:(⟨#[29,58]⟩:ByteArray) ++ str s=str s1:=by rw [← hs1,str_app]; rfl
 have hc2:str s1 ++ (⟨#[10]⟩:ByteArray)=str (esc s):=by unfold esc; rw [hs1,str_app s1]; rfl
 have hs2:(str s1).size=s.length+2:=by rw [str_size,← hs1]; simp
 have hv1:¬ (9223372036854775807<2+s.length):=by omega
 have hv2:¬ (9223372036854775807<s.length+2+1):=by omega
 have hv3:¬ (9223372036854775807<s.length+3):=by omega
 clear hs1;clear hg hx1 hb1 hok hl
 go_wp2_with fail
 refine HS.out.mono ?_;rintro e w2 ⟨rfl,hb2⟩;have HX2:=lj (HX1.out.go hb2 HX1.out.room);have HB2:=lj (HB1.out.trans (hb2.mono (by have:=HX1.out.room; omega)));clear hb2 HS HX1 HB1;obtain ⟨c0,c1,c2,c3⟩:=HX2.out.ev;have f0:=HX2.out.free 0;have f1:=HX2.out.free 1;have f2:=HX2.out.free 2;have f3:=HX2.out.free 3;have hfin:=set4S (a:=.int .i64 1) (b:=.int .i64 id) (c:=.int .i64 0) (d:=.string (str (enc (keys 1 (esc s))))) HX2.out HB2.out (Nat.le_refl g);unfold evv sayE;go_wp2;generalize World.setCell _ _ _=W at hfin ⊢;obtain ⟨r0,r1,r2,r3⟩:=hfin.1.ev;exact bodyPost_ret (by simp [results,go_sem,r0,r1,r2,r3]; rfl) rfl ⟨rfl,by rw [HG.out]; exact hfin.2⟩
def comesL (id:Int) (wr:Bool) (back:Int):List Sc.Ev:=[conE id,sayE id (uM wr back)]
theorem comes_any (id:Int) (wr:Bool) (back:Int) (h0:0≤back) (h1:back≤1099511627776) (w:World):Calls Tryz.prog 15 #[.int .i64 id,.bool wr,.int .i64 back] w fun r w' =>
  ∃ A c,r = .returned (.slice A 2 c)∧EvRow w.heap.size w' A 2 c (comesL id wr back)∧Below w.heap.size w w':=by
 have HOK:=lj (uM_ok wr h0 h1);have hx1:=Bx.new w _ rfl #[.int .i64 1,.int .i64 4,.int .i64 back,.string ⟨#[117]⟩] 42;have hb1:Below w.heap.size w (w.alloc (.cells #[.int .i64 1,.int .i64 4,.int .i64 back,.string ⟨#[117]⟩] 42)):=(Below.refl _ _).alloc (Nat.le_refl _) _;clear h0 h1
 go_enter Tryz.func15,Tryz.ntmps15
 go_upto_region 2 with fail
 generalize w.alloc (.cells #[.int .i64 1,.int .i64 4,.int .i64 back,.string ⟨#[117]⟩] 42)=w1 at *
 obtain ⟨g,hg⟩:∃ g,w.heap.size=g:=⟨_,rfl⟩
 rw [hg] at hx1 hb1 ⊢;have HG:=lj hg;have HX1:=lj (hx1.set 1 (.int .i64 5));have HB1:=lj (hb1.setCell (p:=⟨g,1,none⟩) (Nat.le_refl g) (.int .i64 5));have HX0:=lj hx1;have HB0:=lj hb1;have f1:=hx1.free 1;have c1:=hx1.cell 1 (.int .i64 4) rfl;clear hg hx1 hb1;cases wr
 ·clear HX1 HB1 f1 c1
  obtain ⟨c0,c1,c2,c3⟩:=HX0.out.ev;have HS:=lj (said_any id (uM false back) HOK.out w1)
  go_wp2_with fail
  refine HS.out.mono ?_;rintro e w2 ⟨rfl,hb2⟩;have HB2:=lj (HB0.out.trans (hb2.mono (by have:=HX0.out.room; omega)));have hsz:g<w2.heap.size:=Nat.lt_of_lt_of_le HX0.out.room hb2.size
  have hrow:=evrow_new (base:=g) w2 (Nat.le_of_lt hsz) (comesL id false back) #[.int .i64 0,.int .i64 id,.int .i64 0,.string ⟨#[]⟩,.int .i64 1,.int .i64 id,.int .i64 0,.string (str (enc (uM false back)))] rfl (by show 2≤_; decide) (fun e he=>by
   rcases List.mem_cons.1 he with rfl | he
   ·exact Nat.zero_le _
   ·rw [List.mem_singleton.1 he]
    show (enc (uM false back)).length≤_
    rw [enc_len5]
    show 6 * Ms.nu 1+1+5≤maxLen
    decide)
  have HR:=lj hrow;have HB3:=lj (HB2.out.alloc (Nat.le_of_lt hsz) (.cells #[.int .i64 0,.int .i64 id,.int .i64 0,.string ⟨#[]⟩,.int .i64 1,.int .i64 id,.int .i64 0,.string (str (enc (uM false back)))] 30));clear hrow hb2 c0 c1 c2 c3;unfold evv sayE;go_wp2;go_ret;exact ⟨_,_,rfl,by rw [HG.out]; exact HR.out,by rw [HG.out]; exact HB3.out⟩
 ·have HS:=fun W=>said_any id (uM true back) HOK.out W
  go_upto_region 4 with fail
  clear f1 c1 HX0 HB0;generalize w1.setCell ⟨g,1,none⟩ (.int .i64 5)=w5 at *;have HX1:=lj (show Bx g w5 #[.int .i64 1,.int .i64 5,.int .i64 back,.string ⟨#[117]⟩] from HX1.out);obtain ⟨c0,c1,c2,c3⟩:=HX1.out.ev;have HS:=lj (HS w5)
  go_wp2_with fail
  refine HS.out.mono ?_;rintro e w2 ⟨rfl,hb2⟩;have HB2:=lj (HB1.out.trans (hb2.mono (by have:=HX1.out.room; omega)));have hsz:g<w2.heap.size:=Nat.lt_of_lt_of_le HX1.out.room hb2.size
  have hrow:=evrow_new (base:=g) w2 (Nat.le_of_lt hsz) (comesL id true back) #[.int .i64 0,.int .i64 id,.int .i64 0,.string ⟨#[]⟩,.int .i64 1,.int .i64 id,.int .i64 0,.string (str (enc (uM true back)))] rfl (by show 2≤_; decide) (fun e he=>by
   rcases List.mem_cons.1 he with rfl | he
   ·exact Nat.zero_le _
   ·rw [List.mem_singleton.1 he]
    show (enc (uM true back)).length≤_
    rw [enc_len5]
    show 6 * Ms.nu 1+1+5≤maxLen
    decide)
  have HR:=lj hrow;have HB3:=lj (HB2.out.alloc (Nat.le_of_lt hsz) (.cells #[.int .i64 0,.int .i64 id,.int .i64 0,.string ⟨#[]⟩,.int .i64 1,.int .i64 id,.int .i64 0,.string (str (enc (uM true back)))] 30));clear hrow hb2 c0 c1 c2 c3;unfold evv sayE;go_wp2;go_ret;exact ⟨_,_,rfl,by rw [HG.out]; exact HR.out,by rw [HG.out]; exact HB3.out⟩
end
section
open Go.RowKit
open Sc
theorem rt_bounds {a b c d e f g h:Int} (k:rt a b c d e f g h=true):(1≤a∧a≤65536)∧(1≤b∧b≤2042)∧(220≤c∧c≤65536)∧(1≤d∧d≤65536)∧(0≤e∧e≤9)∧(1≤f∧f≤1000)∧(0≤g∧g≤1000)∧(1≤h∧h≤500):=by
 simpa [rt,bw,and_assoc] using k
def cbs (a b c d e f g h:Int):Bs:=cfb [a.toNat,b.toNat,c.toNat,d.toNat,e.toNat,f.toNat,g.toNat,h.toNat]
theorem evs_le {L:List Ev} (h:∀ e∈L,rtE e=true):(evs L).length≤4007 * L.length:=by
  induction L with
  | nil=>simp [evs]
  | cons x L ih =>
    have h1:=ih (fun e he=>h e (by simp [he]));have h2:=rtE_in (h x (by simp));rw [evs_cons];simp [evb_len];omega
theorem evs_snoc (L:List Ev) (k:Nat) (e:Ev) (h:L[k]?=some e):evs (L.take (k+1))=evs (L.take k) ++ evb e:=by
 rw [List.take_add_one,h,evs_app];simp [evs]
theorem all_snoc {L:List Ev} {k:Nat} {e:Ev} (h:L[k]?=some e) (hk:∀ x∈L.take k,rtE x=true) (he:rtE e=true):∀ x∈L.take (k+1),rtE x=true:=by
 intro x hx;rw [List.take_add_one,h] at hx
 rcases List.mem_append.1 hx with h' | h'
 ·exact hk x h'
 ·simp at h'
  subst h';exact he
def EGivesS (a b c d e f g h:Int) (L:List Ev) (w:World) (r:Ending) (w':World):Prop:=
 Below w.heap.size w w'∧((8192<L.length∧r = .returned (.tuple #[.slice none 0 0,.int .i64 6])) ∨
  (L.length≤8192∧(rt a b c d e f g h=false∨∃ x∈L,rtE x=false)∧r = .returned (.tuple #[.slice none 0 0,.int .i64 1])) ∨
  (L.length≤8192∧rt a b c d e f g h=true∧(∀ x∈L,rtE x=true)∧∃ A cp,r = .returned (.tuple #[.slice A (24+(evs L).length) cp,.int .i64 0])∧Own w.heap.size w' A (24+(evs L).length) cp (cbs a b c d e f g h ++ evs L)))
theorem e_many {a b c d e f g h:Int} {L:List Ev} {w w':World} (hn:8192<L.length) (hb:Below w.heap.size w w'):EGivesS a b c d e f g h L w (.returned (.tuple #[.slice none 0 0,.int .i64 6])) w':=⟨hb,.inl ⟨hn,rfl⟩⟩
theorem e_conf {a b c d e f g h:Int} {L:List Ev} {w w':World} (hn:L.length≤8192) (hr:rt a b c d e f g h=false) (hb:Below w.heap.size w w'):EGivesS a b c d e f g h L w (.returned (.tuple #[.slice none 0 0,.int .i64 1])) w':=⟨hb,.inr (.inl ⟨hn,.inl hr,rfl⟩)⟩
theorem e_ev {a b c d e f g h:Int} {L:List Ev} {w w':World} (hn:L.length≤8192) {k:Nat} {x:Ev} (hk:L[k]?=some x) (hr:rtE x=false) (hb:Below w.heap.size w w'):EGivesS a b c d e f g h L w (.returned (.tuple #[.slice none 0 0,.int .i64 1])) w':=
 ⟨hb,.inr (.inl ⟨hn,.inr ⟨x,List.mem_of_getElem? hk,hr⟩,rfl⟩)⟩
theorem e_ok {a b c d e f g h:Int} {L:List Ev} {w w':World} (hn:L.length≤8192) (hr:rt a b c d e f g h=true) (ha:∀ x∈L,rtE x=true) {A:Option Addr} {cp:Nat} (ho:Own w.heap.size w' A (24+(evs L).length) cp (cbs a b c d e f g h ++ evs L)) (hb:Below w.heap.size w w') :
  EGivesS a b c d e f g h L w (.returned (.tuple #[.slice A (24+(evs L).length) cp,.int .i64 0])) w':=⟨hb,.inr (.inr ⟨hn,hr,ha,A,cp,rfl,ho⟩)⟩
theorem own_nil (base:Nat) (w:World):Own base w none 0 0 []:=⟨⟨rfl,.inl ⟨rfl,rfl⟩⟩,Nat.le_refl _⟩
set_option maxHeartbeats 2000000 in
theorem encode_any (a b c d e f g h:Int) (A:Option Addr) (n cap:Nat) (L:List Ev) (w:World) (hl:EvIn w w.heap.size A L) (hn:L.length=n) (hm:n≤140737488355328) :
  Calls Tryz.prog 36 #[.agg (cv a b c d e f g h),.slice A n cap] w (EGivesS a b c d e f g h L w):=by
 have HL:=lj hl;have HN:=lj hn;have HRt:=lj (cright_any a b c d e f g h);have HX:=lj (Bx.new w w.heap.size rfl (cv a b c d e f g h) 23);have HB:=lj ((Below.refl w.heap.size w).alloc (Nat.le_refl _) (.cells (cv a b c d e f g h) 23));unfold cv at HX HB HRt ⊢;clear hl hn
 by_cases h8:8192<n
 ·have hd:decide ((n:Int) > 8192)=true:=by simp; omega
  go_enter Tryz.func36,Tryz.ntmps36
  go_wp2
  go_ret2
  exact e_many (by rw [HN.out]; exact h8) HB.out
 have hd:decide ((n:Int) > 8192)=false:=by simp; omega
 go_enter Tryz.func36,Tryz.ntmps36
 go_upto_region 3 with fail
 generalize w.alloc _=w1 at *
 obtain ⟨g0,hg⟩:∃ g0,w.heap.size=g0:=⟨_,rfl⟩
 rw [hg] at HL HB HX;simp only [hg];have HG:=lj hg;clear hg;have HZ:=lj (fun (i:Nat) (v:Value) (hv:(#[.int .i64 a,.int .i64 b,.int .i64 c,.int .i64 d,.int .i64 e,.int .i64 f,.int .i64 g,.int .i64 h]:Array Value)[i]?=some v)=>HX.out.cell i v hv);have k0:=HX.out.cell 0 _ rfl;have k1:=HX.out.cell 1 _ rfl;have k2:=HX.out.cell 2 _ rfl;have k3:=HX.out.cell 3 _ rfl;have k4:=HX.out.cell 4 _ rfl;have k5:=HX.out.cell 5 _ rfl;have k6:=HX.out.cell 6 _ rfl;have k7:=HX.out.cell 7 _ rfl;simp at k0 k1 k2 k3 k4 k5 k6 k7
 obtain ⟨R,hR⟩:∃ R,rt a b c d e f g h=R:=⟨_,rfl⟩
 rw [hR] at HRt;have HR:=lj hR;clear hR
 go_wp2_with fail
 refine (HRt.out _).mono ?_;rintro x w2 ⟨rfl,hb2⟩;have HX2:=lj (HX.out.go hb2 HX.out.room);have HB2:=lj (HB.out.trans (hb2.mono (by have:=HX.out.room; omega)));clear hb2 HX HB HRt HZ k0 k1 k2 k3 k4 k5 k6 k7;cases R
 ·go_wp2
  go_ret2
  exact e_conf (by rw [HN.out]; omega) HR.out (by rw [HG.out]; exact HB2.out)
 obtain ⟨⟨a0,a1⟩,⟨b0,b1⟩,⟨c0,c1⟩,⟨d0,d1⟩,⟨e0,e1⟩,⟨f0,f1⟩,⟨g0',g1⟩,⟨h0,h1⟩⟩:=rt_bounds HR.out
 go_wp2_with fail
 refine (parts_any g0 w2).mono ?_;rintro x w3 ⟨rfl,hb3⟩;have HX3:=lj (HX2.out.go hb3 HX2.out.room);have HB3:=lj (HB2.out.trans (hb3.mono (by have:=HX2.out.room; omega)));clear hb3 HX2 HB2;unfold ptrs
 go_wp2_with fail
 obtain ⟨ai,rfl⟩:=Int.eq_ofNat_of_zero_le (show 0≤a by omega);obtain ⟨bi,rfl⟩:=Int.eq_ofNat_of_zero_le (show 0≤b by omega);obtain ⟨ci,rfl⟩:=Int.eq_ofNat_of_zero_le (show 0≤c by omega);obtain ⟨di,rfl⟩:=Int.eq_ofNat_of_zero_le (show 0≤d by omega);obtain ⟨ei,rfl⟩:=Int.eq_ofNat_of_zero_le (show 0≤e by omega);obtain ⟨fi,rfl⟩:=Int.eq_ofNat_of_zero_le (show 0≤f by omega);obtain ⟨gi,rfl⟩:=Int.eq_ofNat_of_zero_le (show 0≤g by omega);obtain ⟨hi,rfl⟩:=Int.eq_ofNat_of_zero_le (show 0≤h by omega)
 go_loopw [6,18] (fun s i wr=>∃ (k:Nat) (A:Option Addr) (N c:Nat),k≤8∧N=3 * k∧i = .int .i64 (k:Nat)∧s = .slice A N c∧Own (g0+1) wr A N c (cfb ([ai,bi,ci,di,ei,fi,gi,hi].take k))∧Bx g0 wr #[.int .i64 ai,.int .i64 bi,.int .i64 ci,.int .i64 di,.int .i64 ei,.int .i64 fi,.int .i64 gi,.int .i64 hi]∧Below g0 w wr) (fun _ i _=>8 - (intOf i).toNat)
 case atStart=>exact ⟨0,none,0,0,by omega,rfl,rfl,rfl,own_nil _ _,HX3.out,HB3.out⟩
 case round =>
  obtain ⟨k,A1,N,c1,hk,hN,rfl,rfl,hown,hx,hb⟩:=hrel;have HO:=lj hown;have HX:=lj hx;have HB:=lj hb;clear hown hx hb HX3 HB3
  rcases (show k=0∨k=1∨k=2∨k=3∨k=4∨k=5∨k=6∨k=7∨k=8 by omega) with rfl | rfl | rfl | rfl | rfl | rfl | rfl | rfl | rfl
  ·obtain rfl:N=0:=by omega
   have hc:wr.cell? ⟨g0,0,none⟩=some (.int .i64 (ai:Nat)):=HX.out.cell 0 _ rfl
   have hix:∀ W:World,(Instr.index 136 (.agg #[.pointer (some ⟨g0,0,none⟩),.pointer (some ⟨g0,1,none⟩),.pointer (some ⟨g0,2,none⟩),.pointer (some ⟨g0,3,none⟩),.pointer (some ⟨g0,4,none⟩),.pointer (some ⟨g0,5,none⟩),.pointer (some ⟨g0,6,none⟩),.pointer (some ⟨g0,7,none⟩)]) (.int .i64 0)).run Tryz.prog W = .ok (.pointer (some ⟨g0,0,none⟩)) W:=fun _=>by kernel_rfl
   have HW:=lj HX.out.room;clear hN
   go_wp2_with fail
   refine (putn3_any (g0+1) A1 0 c1 _ ai wr (by omega) HO.out HW.out (by omega)).mono ?_;rintro e w4 ⟨A4,c4,rfl,ho4,hg4⟩;have HB4:=lj (hg4.below HW.out (fun b hb=>(HO.out.inlt hb).1));have HO4:=lj ho4;clear ho4 hg4
   go_wp2_with fail
   go_roundw
   case rel=>exact ⟨1,A4,3,c4,by omega,by omega,by go_num,rfl,HO4.out,HX.out.go HB4.out (Nat.le_refl _),HB.out.trans (HB4.out.mono (by omega))⟩
   case measure=>simp [intOf]
  ·obtain rfl:N=3:=by omega
   have hc:wr.cell? ⟨g0,1,none⟩=some (.int .i64 (bi:Nat)):=HX.out.cell 1 _ rfl
   have hix:∀ W:World,(Instr.index 136 (.agg #[.pointer (some ⟨g0,0,none⟩),.pointer (some ⟨g0,1,none⟩),.pointer (some ⟨g0,2,none⟩),.pointer (some ⟨g0,3,none⟩),.pointer (some ⟨g0,4,none⟩),.pointer (some ⟨g0,5,none⟩),.pointer (some ⟨g0,6,none⟩),.pointer (some ⟨g0,7,none⟩)]) (.int .i64 1)).run Tryz.prog W = .ok (.pointer (some ⟨g0,1,none⟩)) W:=fun _=>by kernel_rfl
   have HW:=lj HX.out.room;clear hN
   go_wp2_with fail
   refine (putn3_any (g0+1) A1 3 c1 _ bi wr (by omega) HO.out HW.out (by omega)).mono ?_;rintro e w4 ⟨A4,c4,rfl,ho4,hg4⟩;have HB4:=lj (hg4.below HW.out (fun b hb=>(HO.out.inlt hb).1));have HO4:=lj ho4;clear ho4 hg4
   go_wp2_with fail
   go_roundw
   case rel=>exact ⟨2,A4,6,c4,by omega,by omega,by go_num,rfl,HO4.out,HX.out.go HB4.out (Nat.le_refl _),HB.out.trans (HB4.out.mono (by omega))⟩
   case measure=>simp [intOf]
  ·obtain rfl:N=6:=by omega
   have hc:wr.cell? ⟨g0,2,none⟩=some (.int .i64 (ci:Nat)):=HX.out.cell 2 _ rfl
   have hix:∀ W:World,(Instr.index 136 (.agg #[.pointer (some ⟨g0,0,none⟩),.pointer (some ⟨g0,1,none⟩),.pointer (some ⟨g0,2,none⟩),.pointer (some ⟨g0,3,none⟩),.pointer (some ⟨g0,4,none⟩),.pointer (some ⟨g0,5,none⟩),.pointer (some ⟨g0,6,none⟩),.pointer (some ⟨g0,7,none⟩)]) (.int .i64 2)).run Tryz.prog W = .ok (.pointer (some ⟨g0,2,none⟩)) W:=fun _=>by kernel_rfl
   have HW:=lj HX.out.room;clear hN
   go_wp2_with fail
   refine (putn3_any (g0+1) A1 6 c1 _ ci wr (by omega) HO.out HW.out (by omega)).mono ?_;rintro e w4 ⟨A4,c4,rfl,ho4,hg4⟩;have HB4:=lj (hg4.below HW.out (fun b hb=>(HO.out.inlt hb).1));have HO4:=lj ho4;clear ho4 hg4
   go_wp2_with fail
   go_roundw
   case rel=>exact ⟨3,A4,9,c4,by omega,by omega,by go_num,rfl,HO4.out,HX.out.go HB4.out (Nat.le_refl _),HB.out.trans (HB4.out.mono (by omega))⟩
   case measure=>simp [intOf]
  ·obtain rfl:N=9:=by omega
   have hc:wr.cell? ⟨g0,3,none⟩=some (.int .i64 (di:Nat)):=HX.out.cell 3 _ rfl
   have hix:∀ W:World,(Instr.index 136 (.agg #[.pointer (some ⟨g0,0,none⟩),.pointer (some ⟨g0,1,none⟩),.pointer (some ⟨g0,2,none⟩),.pointer (some ⟨g0,3,none⟩),.pointer (some ⟨g0,4,none⟩),.pointer (some ⟨g0,5,none⟩),.pointer (some ⟨g0,6,none⟩),.pointer (some ⟨g0,7,none⟩)]) (.int .i64 3)).run Tryz.prog W = .ok (.pointer (some ⟨g0,3,none⟩)) W:=fun _=>by kernel_rfl
   have HW:=lj HX.out.room;clear hN
   go_wp2_with fail
   refine (putn3_any (g0+1) A1 9 c1 _ di wr (by omega) HO.out HW.out (by omega)).mono ?_;rintro e w4 ⟨A4,c4,rfl,ho4,hg4⟩;have HB4:=lj (hg4.below HW.out (fun b hb=>(HO.out.inlt hb).1));have HO4:=lj ho4;clear ho4 hg4
   go_wp2_with fail
   go_roundw
   case rel=>exact ⟨4,A4,12,c4,by omega,by omega,by go_num,rfl,HO4.out,HX.out.go HB4.out (Nat.le_refl _),HB.out.trans (HB4.out.mono (by omega))⟩
   case measure=>simp [intOf]
  ·obtain rfl:N=12:=by omega
   have hc:wr.cell? ⟨g0,4,none⟩=some (.int .i64 (ei:Nat)):=HX.out.cell 4 _ rfl
   have hix:∀ W:World,(Instr.index 136 (.agg #[.pointer (some ⟨g0,0,none⟩),.pointer (some ⟨g0,1,none⟩),.pointer (some ⟨g0,2,none⟩),.pointer (some ⟨g0,3,none⟩),.pointer (some ⟨g0,4,none⟩),.pointer (some ⟨g0,5,none⟩),.pointer (some ⟨g0,6,none⟩),.pointer (some ⟨g0,7,none⟩)]) (.int .i64 4)).run Tryz.prog W = .ok (.pointer (some ⟨g0,4,none⟩)) W:=fun _=>by kernel_rfl
   have HW:=lj HX.out.room;clear hN
   go_wp2_with fail
   refine (putn3_any (g0+1) A1 12 c1 _ ei wr (by omega) HO.out HW.out (by omega)).mono ?_;rintro e w4 ⟨A4,c4,rfl,ho4,hg4⟩;have HB4:=lj (hg4.below HW.out (fun b hb=>(HO.out.inlt hb).1));have HO4:=lj ho4;clear ho4 hg4
   go_wp2_with fail
   go_roundw
   case rel=>exact ⟨5,A4,15,c4,by omega,by omega,by go_num,rfl,HO4.out,HX.out.go HB4.out (Nat.le_refl _),HB.out.trans (HB4.out.mono (by omega))⟩
   case measure=>simp [intOf]
  ·obtain rfl:N=15:=by omega
   have hc:wr.cell? ⟨g0,5,none⟩=some (.int .i64 (fi:Nat)):=HX.out.cell 5 _ rfl
   have hix:∀ W:World,(Instr.index 136 (.agg #[.pointer (some ⟨g0,0,none⟩),.pointer (some ⟨g0,1,none⟩),.pointer (some ⟨g0,2,none⟩),.pointer (some ⟨g0,3,none⟩),.pointer (some ⟨g0,4,none⟩),.pointer (some ⟨g0,5,none⟩),.pointer (some ⟨g0,6,none⟩),.pointer (some ⟨g0,7,none⟩)]) (.int .i64 5)).run Tryz.prog W = .ok (.pointer (some ⟨g0,5,none⟩)) W:=fun _=>by kernel_rfl
   have HW:=lj HX.out.room;clear hN
   go_wp2_with fail
   refine (putn3_any (g0+1) A1 15 c1 _ fi wr (by omega) HO.out HW.out (by omega)).mono ?_;rintro e w4 ⟨A4,c4,rfl,ho4,hg4⟩;have HB4:=lj (hg4.below HW.out (fun b hb=>(HO.out.inlt hb).1));have HO4:=lj ho4;clear ho4 hg4
   go_wp2_with fail
   go_roundw
   case rel=>exact ⟨6,A4,18,c4,by omega,by omega,by go_num,rfl,HO4.out,HX.out.go HB4.out (Nat.le_refl _),HB.out.trans (HB4.out.mono (by omega))⟩
   case measure=>simp [intOf]
  ·obtain rfl:N=18:=by omega
   have hc:wr.cell? ⟨g0,6,none⟩=some (.int .i64 (gi:Nat)):=HX.out.cell 6 _ rfl
   have hix:∀ W:World,(Instr.index 136 (.agg #[.pointer (some ⟨g0,0,none⟩),.pointer (some ⟨g0,1,none⟩),.pointer (some ⟨g0,2,none⟩),.pointer (some ⟨g0,3,none⟩),.pointer (some ⟨g0,4,none⟩),.pointer (some ⟨g0,5,none⟩),.pointer (some ⟨g0,6,none⟩),.pointer (some ⟨g0,7,none⟩)]) (.int .i64 6)).run Tryz.prog W = .ok (.pointer (some ⟨g0,6,none⟩)) W:=fun _=>by kernel_rfl
   have HW:=lj HX.out.room;clear hN
   go_wp2_with fail
   refine (putn3_any (g0+1) A1 18 c1 _ gi wr (by omega) HO.out HW.out (by omega)).mono ?_;rintro e w4 ⟨A4,c4,rfl,ho4,hg4⟩;have HB4:=lj (hg4.below HW.out (fun b hb=>(HO.out.inlt hb).1));have HO4:=lj ho4;clear ho4 hg4
   go_wp2_with fail
   go_roundw
   case rel=>exact ⟨7,A4,21,c4,by omega,by omega,by go_num,rfl,HO4.out,HX.out.go HB4.out (Nat.le_refl _),HB.out.trans (HB4.out.mono (by omega))⟩
   case measure=>simp [intOf]
  ·obtain rfl:N=21:=by omega
   have hc:wr.cell? ⟨g0,7,none⟩=some (.int .i64 (hi:Nat)):=HX.out.cell 7 _ rfl
   have hix:∀ W:World,(Instr.index 136 (.agg #[.pointer (some ⟨g0,0,none⟩),.pointer (some ⟨g0,1,none⟩),.pointer (some ⟨g0,2,none⟩),.pointer (some ⟨g0,3,none⟩),.pointer (some ⟨g0,4,none⟩),.pointer (some ⟨g0,5,none⟩),.pointer (some ⟨g0,6,none⟩),.pointer (some ⟨g0,7,none⟩)]) (.int .i64 7)).run Tryz.prog W = .ok (.pointer (some ⟨g0,7,none⟩)) W:=fun _=>by kernel_rfl
   have HW:=lj HX.out.room;clear hN
   go_wp2_with fail
   refine (putn3_any (g0+1) A1 21 c1 _ hi wr (by omega) HO.out HW.out (by omega)).mono ?_;rintro e w4 ⟨A4,c4,rfl,ho4,hg4⟩;have HB4:=lj (hg4.below HW.out (fun b hb=>(HO.out.inlt hb).1));have HO4:=lj ho4;clear ho4 hg4
   go_wp2_with fail
   go_roundw
   case rel=>exact ⟨8,A4,24,c4,by omega,by omega,by go_num,rfl,HO4.out,HX.out.go HB4.out (Nat.le_refl _),HB.out.trans (HB4.out.mono (by omega))⟩
   case measure=>simp [intOf]
  ·obtain rfl:N=24:=by omega
   go_upto_region 11 with fail
   have HO0:=HO.out;rw [show cfb ([ai,bi,ci,di,ei,fi,gi,hi].take 8)=cbs ai bi ci di ei fi gi hi ++ evs (L.take 0) by simp [cbs,evs]] at HO0;have HO1:=lj HO0;clear HO0 HO
   go_wp2_with fail
   have HNL:=lj (show 24+(evs (L.take 0)).length=24 by simp [evs]);clear hN hk
   go_loopw [6,29] (fun s i wr=>∃ (k:Nat) (A:Option Addr) (N c:Nat),k≤n∧Hid (N=24+(evs (L.take k)).length)∧i = .int .i64 (k:Nat)∧s = .slice A N c∧Own (g0+1) wr A N c (cbs ai bi ci di ei fi gi hi ++ evs (L.take k))∧(∀ x∈L.take k,rtE x=true)∧Below g0 w wr∧g0+1≤wr.heap.size) (fun _ i _=>n - (intOf i).toNat)
   case atStart=>exact ⟨0,A1,24,c1,by omega,lj HNL.out.symm,rfl,rfl,HO1.out,by simp,HB.out,HX.out.room⟩
   case round =>
    obtain ⟨k,A2,N,c2,hk,HNk,rfl,rfl,hown,hall,hb,hsz⟩:=hrel;have HO:=lj hown;have HAll:=lj hall;have HBk:=lj hb;clear hown hall hb HX HB HO1 HNL
    by_cases hlt:k<n
    ·obtain ⟨x,hx⟩:∃ x,L[k]?=some x:=⟨_,List.getElem?_eq_getElem (by have:=HN.out; omega)⟩
     obtain ⟨bb,off,rfl,hbB,hc⟩:=(HL.out.below HBk.out).outer (by have:=HN.out; omega);obtain ⟨hc0,hc1,hc2,hc3⟩:=hc k x hx;have HXk:=lj hx;have HRx:=lj (right16_any x);have HPx:=lj (put_anyS (g0+1) A2 N c2 (cbs ai bi ci di ei fi gi hi ++ evs (L.take k)) x)
     have hN9:N≤900000000:=by
      have h1:=evs_le HAll.out
      have h2:(L.take k).length≤8192:=by simp; omega
      have:=HNk.out;omega
     clear hc hx;unfold evv at HRx HPx
     obtain ⟨R,hR⟩:∃ R,rtE x=R:=⟨_,rfl⟩
     rw [hR] at HRx HPx;have HR:=lj hR;clear hR;have HE:=lj (Bx.new wr wr.heap.size rfl #[.int .i64 x.k,.int .i64 x.i,.int .i64 x.n,.string (str x.t)] 30);have HOe:=lj (HO.out.below ((Below.refl _ wr).alloc (Nat.le_refl _) (.cells #[.int .i64 x.k,.int .i64 x.i,.int .i64 x.n,.string (str x.t)] 30)));have HBe:=lj (HBk.out.alloc (by omega) (.cells #[.int .i64 x.k,.int .i64 x.i,.int .i64 x.n,.string (str x.t)] 30))
     go_upto_region 14 with fail
     generalize wr.alloc _=w5 at *
     obtain ⟨ge,hge⟩:∃ ge,wr.heap.size=ge:=⟨_,rfl⟩
     rw [hge] at HE hsz;simp only [hge];clear hge hc0 hc1 hc2 hc3 HO HBk;obtain ⟨m0,m1,m2,m3⟩:=HE.out.ev
     go_wp2_with fail
     refine (HRx.out _).mono ?_;rintro y w6 ⟨rfl,hb6⟩;have HE6:=lj (HE.out.go hb6 HE.out.room);have HO6:=lj (HOe.out.below hb6);have HB6:=lj (HBe.out.trans (hb6.mono (by have:=HE.out.room; omega)));clear hb6 HE HOe HBe m0 m1 m2 m3 HRx;cases R
     ·go_wp2
      go_ret2
      exact e_ev (by rw [HN.out]; omega) HXk.out HR.out (by rw [HG.out]; exact HB6.out)
     obtain ⟨m0,m1,m2,m3⟩:=HE6.out.ev
     go_wp2_with fail
     refine (HPx.out _ (by simp) HO6.out (by have:=HE6.out.room; omega) hN9).mono ?_;rintro y w7 ⟨A7,c7,rfl,ho7,hb7⟩;have HO7:=lj ho7;have HB7:=lj (HB6.out.trans (hb7.mono (by omega)));have hs7:g0+1≤w7.heap.size:=Nat.le_trans (by have:=HE6.out.room; omega) hb7.size;clear ho7 hb7
     go_wp2_with fail
     go_roundw
     case rel=>exact ⟨k+1,A7,N+(7+x.t.length),c7,by omega,lj (by rw [evs_snoc L k x HXk.out,HNk.out,List.length_append,evb_len]; omega),by go_num,rfl,by rw [evs_snoc L k x HXk.out,← List.append_assoc]; exact HO7.out,all_snoc HXk.out HAll.out HR.out,HB7.out,hs7⟩
     case measure=>simp [intOf]; omega
    ·have hkn:L.take k=L:=List.take_of_length_le (by have:=HN.out; omega)
     have HK:=lj hkn;clear hkn;go_wp2
     go_ret2
     have hh:=HNk.out;rw [HK.out] at hh;subst hh;refine e_ok (by rw [HN.out]; omega) HR.out (by have:=HAll.out; rw [HK.out] at this; exact this) ?_ (by rw [HG.out]; exact HBk.out);have:=HO.out;rw [HK.out] at this;exact this.mono (by rw [HG.out]; omega)
end
section
open Go.RowKit
open Sc
def rtc (l:Bs):Bool:=rt (cof l 0) (cof l 1) (cof l 2) (cof l 3) (cof l 4) (cof l 5) (cof l 6) (cof l 7)
def DGivesS (l:Bs) (w:World) (r:Ending) (w':World):Prop:=
 Below w.heap.size w w'∧((262144<l.length∧r = .returned (.tuple #[.agg (cf8 fun _=>0),.slice none 0 0,.int .i64 0,.int .i64 6])) ∨
  (l.length<24∧r = .returned (.tuple #[.agg (cf8 fun _=>0),.slice none 0 0,.int .i64 0,.int .i64 5])) ∨
  (24≤l.length∧l.length≤262144∧rtc l=false∧r = .returned (.tuple #[.agg (cf8 fun _=>0),.slice none 0 0,.int .i64 0,.int .i64 8])) ∨
  (24≤l.length∧l.length≤262144∧rtc l=true∧∃ (L:List Ev) (m e:Nat) (A:Option Addr) (n c:Nat),r = .returned (.tuple #[.agg (cf8 (cof l)),.slice A n c,.int .i64 (24+m:Nat),.int .i64 e]) ∧
   EvRow w.heap.size w' A n c L∧Reads (l.drop 24) L m e))
theorem d_long {l:Bs} {w w':World} (h:262144<l.length) (hb:Below w.heap.size w w'):DGivesS l w (.returned (.tuple #[.agg (cf8 fun _=>0),.slice none 0 0,.int .i64 0,.int .i64 6])) w':=⟨hb,.inl ⟨h,rfl⟩⟩
theorem d_short {l:Bs} {w w':World} (h:l.length<24) (hb:Below w.heap.size w w'):DGivesS l w (.returned (.tuple #[.agg (cf8 fun _=>0),.slice none 0 0,.int .i64 0,.int .i64 5])) w':=⟨hb,.inr (.inl ⟨h,rfl⟩)⟩
theorem d_form {l:Bs} {w w':World} (h:24≤l.length) (h2:l.length≤262144) (hr:rtc l=false) (hb:Below w.heap.size w w'):DGivesS l w (.returned (.tuple #[.agg (cf8 fun _=>0),.slice none 0 0,.int .i64 0,.int .i64 8])) w':=⟨hb,.inr (.inr (.inl ⟨h,h2,hr,rfl⟩))⟩
theorem d_read {l:Bs} {w w':World} (h:24≤l.length) (h2:l.length≤262144) (hr:rtc l=true) (hb:Below w.heap.size w w') {L:List Ev} {m e N:Nat} {A:Option Addr} {n c:Nat} (hN:N=24+m) (hrow:EvRow w.heap.size w' A n c L) (hR:Reads (l.drop 24) L m e) :
  DGivesS l w (.returned (.tuple #[.agg (cf8 (cof l)),.slice A n c,.int .i64 (N:Nat),.int .i64 e])) w':=by
 subst hN;exact ⟨hb,.inr (.inr (.inr ⟨h,h2,hr,L,m,e,A,n,c,rfl,hrow,hR⟩))⟩
structure Sofar (r:Bs) (L:List Ev) (m:Nat):Prop where
 le:m≤r.length
 bytes:r.take m=evs L
 right:∀ x∈L,rtE x=true
 many:L.length≤8192
theorem Sofar.zero (r:Bs):Sofar r [] 0:=⟨Nat.zero_le _,by simp [evs],fun _ h=>(by cases h),by simp⟩
theorem Sofar.step {r:Bs} {L:List Ev} {m:Nat} (h:Sofar r L m) (hw:wholeB (r.drop m)) (hr:rtE (evOf (r.drop m))=true) (hn:L.length<8192):Sofar r (L ++ [evOf (r.drop m)]) (m+size (r.drop m)):=by
 have h2:=hw.2;simp only [List.length_drop] at h2;have hle:=h.le;refine ⟨by omega,?_,fun x hx=>?_,by simp; omega⟩
 ·rw [List.take_add,h.bytes,evs_app,← evb_evOf _ hw]
  simp [evs]
 ·rcases List.mem_append.1 hx with h' | h'
  ·exact h.right x h'
  ·simp at h'
   subst h';exact hr
theorem Sofar.short {r:Bs} {L:List Ev} {m:Nat} (h:Sofar r L m) (hl:m<r.length) (hs:shortB (r.drop m)):Reads r L m 5:=⟨h.le,h.bytes,h.right,h.many,.inr (.inl ⟨rfl,hl,hs⟩)⟩
theorem Sofar.form {r:Bs} {L:List Ev} {m:Nat} (h:Sofar r L m) (hl:m<r.length) (hs:wholeB (r.drop m)) (hr:rtE (evOf (r.drop m))=false):Reads r L m 8:=⟨h.le,h.bytes,h.right,h.many,.inr (.inr (.inl ⟨rfl,hl,hs,hr⟩))⟩
theorem Sofar.full {r:Bs} {L:List Ev} {m:Nat} (h:Sofar r L m) (hl:m<r.length) (hs:wholeB (r.drop m)) (hr:rtE (evOf (r.drop m))=true) (hn:L.length=8192):Reads r L m 6:=⟨h.le,h.bytes,h.right,h.many,.inr (.inr (.inr ⟨rfl,hl,hs,hr,hn⟩))⟩
theorem Sofar.ok {r:Bs} {L:List Ev} {m:Nat} (h:Sofar r L m) (hl:m=r.length):Reads r L m 0:=⟨h.le,h.bytes,h.right,h.many,.inl ⟨rfl,hl⟩⟩
theorem set8v {g B:Nat} {w0 w:World} {u0 u1 u2 u3 u4 u5 u6 u7 v0 v1 v2 v3 v4 v5 v6 v7:Value} (h:Bx g w #[u0,u1,u2,u3,u4,u5,u6,u7]) (hb:Below B w0 w) (hB:B≤g) :
  Bx g ((((((((w.setCell ⟨g,0,none⟩ v0).setCell ⟨g,1,none⟩ v1).setCell ⟨g,2,none⟩ v2).setCell ⟨g,3,none⟩ v3).setCell ⟨g,4,none⟩ v4).setCell ⟨g,5,none⟩ v5).setCell ⟨g,6,none⟩ v6).setCell ⟨g,7,none⟩ v7) #[v0,v1,v2,v3,v4,v5,v6,v7]∧Below B w0 ((((((((w.setCell ⟨g,0,none⟩ v0).setCell ⟨g,1,none⟩ v1).setCell ⟨g,2,none⟩ v2).setCell ⟨g,3,none⟩ v3).setCell ⟨g,4,none⟩ v4).setCell ⟨g,5,none⟩ v5).setCell ⟨g,6,none⟩ v6).setCell ⟨g,7,none⟩ v7)∧Only (fun b=>b=g) w ((((((((w.setCell ⟨g,0,none⟩ v0).setCell ⟨g,1,none⟩ v1).setCell ⟨g,2,none⟩ v2).setCell ⟨g,3,none⟩ v3).setCell ⟨g,4,none⟩ v4).setCell ⟨g,5,none⟩ v5).setCell ⟨g,6,none⟩ v6).setCell ⟨g,7,none⟩ v7):=by
 have h0:Bx g _ #[v0,u1,u2,u3,u4,u5,u6,u7]:=h.set 0 v0;have b0:=hb.setCell (p:=⟨g,0,none⟩) hB v0;have o0:=(Only.refl (fun b=>b=g) w).setCell (p:=⟨g,0,none⟩) rfl v0;have h1:Bx g _ #[v0,v1,u2,u3,u4,u5,u6,u7]:=h0.set 1 v1;have b1:=b0.setCell (p:=⟨g,1,none⟩) hB v1;have o1:=o0.setCell (p:=⟨g,1,none⟩) rfl v1;have h2:Bx g _ #[v0,v1,v2,u3,u4,u5,u6,u7]:=h1.set 2 v2;have b2:=b1.setCell (p:=⟨g,2,none⟩) hB v2;have o2:=o1.setCell (p:=⟨g,2,none⟩) rfl v2;have h3:Bx g _ #[v0,v1,v2,v3,u4,u5,u6,u7]:=h2.set 3 v3;have b3:=b2.setCell (p:=⟨g,3,none⟩) hB v3;have o3:=o2.setCell (p:=⟨g,3,none⟩) rfl v3;have h4:Bx g _ #[v0,v1,v2,v3,v4,u5,u6,u7]:=h3.set 4 v4;have b4:=b3.setCell (p:=⟨g,4,none⟩) hB v4;have o4:=o3.setCell (p:=⟨g,4,none⟩) rfl v4;have h5:Bx g _ #[v0,v1,v2,v3,v4,v5,u6,u7]:=h4.set 5 v5;have b5:=b4.setCell (p:=⟨g,5,none⟩) hB v5;have o5:=o4.setCell (p:=⟨g,5,none⟩) rfl v5;have h6:Bx g _ #[v0,v1,v2,v3,v4,v5,v6,u7]:=h5.set 6 v6;have b6:=b5.setCell (p:=⟨g,6,none⟩) hB v6;have o6:=o5.setCell (p:=⟨g,6,none⟩) rfl v6;have h7:Bx g _ #[v0,v1,v2,v3,v4,v5,v6,v7]:=h6.set 7 v7;have b7:=b6.setCell (p:=⟨g,7,none⟩) hB v7;have o7:=o6.setCell (p:=⟨g,7,none⟩) rfl v7;exact ⟨h7,b7,o7⟩
theorem Bx.cells8 {g:Nat} {w:World} {v0 v1 v2 v3 v4 v5 v6 v7:Value} (h:Bx g w #[v0,v1,v2,v3,v4,v5,v6,v7]):w.cell? ⟨g,0,none⟩=some v0∧w.cell? ⟨g,1,none⟩=some v1∧w.cell? ⟨g,2,none⟩=some v2∧w.cell? ⟨g,3,none⟩=some v3∧w.cell? ⟨g,4,none⟩=some v4∧w.cell? ⟨g,5,none⟩=some v5∧w.cell? ⟨g,6,none⟩=some v6∧w.cell? ⟨g,7,none⟩=some v7:=
 ⟨h.cell 0 _ rfl,h.cell 1 _ rfl,h.cell 2 _ rfl,h.cell 3 _ rfl,h.cell 4 _ rfl,h.cell 5 _ rfl,h.cell 6 _ rfl,h.cell 7 _ rfl⟩
theorem Bx.free8 {g:Nat} {w:World} {vs:Array Value} (h:Bx g w vs):w.frozen? ⟨g,0,none⟩=false∧w.frozen? ⟨g,1,none⟩=false∧w.frozen? ⟨g,2,none⟩=false∧w.frozen? ⟨g,3,none⟩=false∧w.frozen? ⟨g,4,none⟩=false∧w.frozen? ⟨g,5,none⟩=false∧w.frozen? ⟨g,6,none⟩=false∧w.frozen? ⟨g,7,none⟩=false:=
 ⟨h.free 0,h.free 1,h.free 2,h.free 3,h.free 4,h.free 5,h.free 6,h.free 7⟩
theorem EvRow.keep {base n c:Nat} {S:Nat→Prop} {w w':World} {a:Option Addr} {L:List Ev} (h:EvRow base w a n c L) (hO:Only S w w') (hS:∀ b,S b→b<base):EvRow base w' a n c L:=by
 refine ⟨⟨h.row.1,?_⟩,h.cap,h.inner⟩
 rcases h.row.2 with h0 | ⟨g,cap,cur,e,hb,hg,hrest⟩
 ·exact .inl h0
 ·have hlt:g<w.heap.size:=by
   rcases Nat.lt_or_ge g w.heap.size with h' | h'
   ·exact h'
   ·rw [Array.getElem?_eq_none h'] at hg; cases hg
  exact .inr ⟨g,cap,cur,e,hb,(hO.block g hlt (fun hs=>by have:=hS g hs; omega)).trans hg,hrest⟩
set_option maxHeartbeats 4000000 in
theorem decode_any (a:Option Addr) (n cap:Nat) (l:Bs) (w:World) (hl:Bytes w w.heap.size a n l) (hcap:n≤cap) (hm:cap≤9223372036854775807) :
    Calls Tryz.prog 71 #[.slice a n cap] w (DGivesS l w):=by
  have hlen:=hl.1;have HL:=lj hl;have HLen:=lj hlen;clear hl hlen;have HX:=lj (Bx.new w w.heap.size rfl #[.int .i64 0,.int .i64 0,.int .i64 0,.int .i64 0,.int .i64 0,.int .i64 0,.int .i64 0,.int .i64 0] 23);have HB:=lj ((Below.refl w.heap.size w).alloc (Nat.le_refl _) (.cells #[.int .i64 0,.int .i64 0,.int .i64 0,.int .i64 0,.int .i64 0,.int .i64 0,.int .i64 0,.int .i64 0] 23))
  go_enter Tryz.func71,Tryz.ntmps71
  go_upto_region 1 with fail
  generalize w.alloc _=w1 at *
  obtain ⟨g,hg⟩:∃ g,w.heap.size=g:=⟨_,rfl⟩
  rw [hg] at HX HB HL;simp only [hg];have HG:=lj hg;clear hg;obtain ⟨z0,z1,z2,z3,z4,z5,z6,z7⟩:=HX.out.cells8;obtain ⟨f0,f1,f2,f3,f4,f5,f6,f7⟩:=HX.out.free8
  by_cases hlong:262144<n
  · have hd:decide ((n:Int) > 262144)=true:=by simp; omega
    have HQ:=lj hlong;clear hlong;have hfin:=set8v (v0:=.int .i64 0) (v1:=.int .i64 0) (v2:=.int .i64 0) (v3:=.int .i64 0) (v4:=.int .i64 0) (v5:=.int .i64 0) (v6:=.int .i64 0) (v7:=.int .i64 0) HX.out HB.out (Nat.le_refl _);go_wp2;generalize World.setCell _ _ _=W at hfin ⊢;obtain ⟨r0,r1,r2,r3,r4,r5,r6,r7⟩:=hfin.1.cells8;exact bodyPost_ret (by simp [results,go_sem,r0,r1,r2,r3,r4,r5,r6,r7]; rfl) rfl (d_long (by rw [HLen.out]; exact HQ.out) (by rw [HG.out]; exact hfin.2.1))
  have hd:decide ((n:Int) > 262144)=false:=by simp; omega
  by_cases h24:n<24
  · have hd2:decide ((n:Int)<24)=true:=by simp; omega
    have HQ:=lj h24;clear h24 hlong;have hfin:=set8v (v0:=.int .i64 0) (v1:=.int .i64 0) (v2:=.int .i64 0) (v3:=.int .i64 0) (v4:=.int .i64 0) (v5:=.int .i64 0) (v6:=.int .i64 0) (v7:=.int .i64 0) HX.out HB.out (Nat.le_refl _);go_wp2;generalize World.setCell _ _ _=W at hfin ⊢;obtain ⟨r0,r1,r2,r3,r4,r5,r6,r7⟩:=hfin.1.cells8;exact bodyPost_ret (by simp [results,go_sem,r0,r1,r2,r3,r4,r5,r6,r7]; rfl) rfl (d_short (by rw [HLen.out]; exact HQ.out) (by rw [HG.out]; exact hfin.2.1))
  have hd2:decide ((n:Int)<24)=false:=by simp; omega
  clear z0 z1 z2 z3 z4 z5 z6 z7 f0 f1 f2 f3 f4 f5 f6 f7;have hgw:g+1≤w1.heap.size:=HX.out.room
  go_wp2_with fail
  refine (getc_any a n cap l w1 ((HL.out.below HB.out).more (by omega)) (by omega) hcap hm).mono ?_;rintro e w2 ⟨rfl,hb2⟩;have HX2:=lj (HX.out.go hb2 hgw);have HB2:=lj (HB.out.trans (hb2.mono (by omega)));have hgw2:g+1≤w2.heap.size:=Nat.le_trans hgw hb2.size;clear hb2 HX HB hgw hd hd2;unfold cf8
  go_upto_region 6 with fail
  have HC:=lj (Bx.new w2 w2.heap.size rfl #[.int .i64 (cof l 0:Nat),.int .i64 (cof l 1:Nat),.int .i64 (cof l 2:Nat),.int .i64 (cof l 3:Nat),.int .i64 (cof l 4:Nat),.int .i64 (cof l 5:Nat),.int .i64 (cof l 6:Nat),.int .i64 (cof l 7:Nat)] 23);have HX3:=lj (HX2.out.go ((Below.refl _ w2).alloc (Nat.le_refl _) (.cells #[.int .i64 (cof l 0:Nat),.int .i64 (cof l 1:Nat),.int .i64 (cof l 2:Nat),.int .i64 (cof l 3:Nat),.int .i64 (cof l 4:Nat),.int .i64 (cof l 5:Nat),.int .i64 (cof l 6:Nat),.int .i64 (cof l 7:Nat)] 23)) hgw2);have HB3:=lj (HB2.out.alloc (by omega) (.cells #[.int .i64 (cof l 0:Nat),.int .i64 (cof l 1:Nat),.int .i64 (cof l 2:Nat),.int .i64 (cof l 3:Nat),.int .i64 (cof l 4:Nat),.int .i64 (cof l 5:Nat),.int .i64 (cof l 6:Nat),.int .i64 (cof l 7:Nat)] 23));generalize w2.alloc _=w3 at *
  obtain ⟨gc,hgc⟩:∃ gc,w2.heap.size=gc:=⟨_,rfl⟩
  rw [hgc] at HC hgw2;simp only [hgc];clear hgc HX2 HB2;have hcw:gc+1≤w3.heap.size:=HC.out.room;obtain ⟨k0,k1,k2,k3,k4,k5,k6,k7⟩:=HC.out.cells8;have HRt:=lj (cright_any (cof l 0) (cof l 1) (cof l 2) (cof l 3) (cof l 4) (cof l 5) (cof l 6) (cof l 7));unfold cv at HRt;have hr0:rtc l=rt (cof l 0) (cof l 1) (cof l 2) (cof l 3) (cof l 4) (cof l 5) (cof l 6) (cof l 7):=rfl
  obtain ⟨R,hR⟩:∃ R,rtc l=R:=⟨_,rfl⟩
  rw [← hr0,hR] at HRt;have HR:=lj hR;clear hR hr0
  go_wp2_with fail
  refine (HRt.out _).mono ?_;rintro e w4 ⟨rfl,hb4⟩;have HC4:=lj (HC.out.go hb4 hcw);have HX4:=lj (HX3.out.go hb4 (by omega));have HB4:=lj (HB3.out.trans (hb4.mono (by omega)));have hcw4:gc+1≤w4.heap.size:=Nat.le_trans hcw hb4.size;clear hb4 HC HX3 HB3 hcw k0 k1 k2 k3 k4 k5 k6 k7 HRt;cases R
  · obtain ⟨z0,z1,z2,z3,z4,z5,z6,z7⟩:=HX4.out.cells8
    obtain ⟨f0,f1,f2,f3,f4,f5,f6,f7⟩:=HX4.out.free8;have hfin:=set8v (v0:=.int .i64 0) (v1:=.int .i64 0) (v2:=.int .i64 0) (v3:=.int .i64 0) (v4:=.int .i64 0) (v5:=.int .i64 0) (v6:=.int .i64 0) (v7:=.int .i64 0) HX4.out HB4.out (Nat.le_refl _);go_wp2;generalize World.setCell _ _ _=W at hfin ⊢;obtain ⟨r0,r1,r2,r3,r4,r5,r6,r7⟩:=hfin.1.cells8;exact bodyPost_ret (by simp [results,go_sem,r0,r1,r2,r3,r4,r5,r6,r7]; rfl) rfl (d_form (by rw [HLen.out]; omega) (by rw [HLen.out]; omega) HR.out (by rw [HG.out]; exact hfin.2.1))
  go_wp2_with fail
  have hrl:(l.drop 24).length=n - 24:=by simp [HLen.out]
  have HRl:=lj hrl;have HD:=lj (fun (m:Nat)=>(show (l.drop 24).drop m=l.drop (24+m) by rw [List.drop_drop]));clear hrl
  go_loopw [7,8] (fun s p wr=>∃ (L:List Ev) (m N:Nat) (A:Option Addr) (k c:Nat),Hid (N=24+m)∧N≤n∧k≤8192∧p = .int .i64 (N:Nat)∧s = .slice A k c∧EvRow (gc+1) wr A k c L∧Sofar (l.drop 24) L m∧Bx gc wr #[.int .i64 (cof l 0:Nat),.int .i64 (cof l 1:Nat),.int .i64 (cof l 2:Nat),.int .i64 (cof l 3:Nat),.int .i64 (cof l 4:Nat),.int .i64 (cof l 5:Nat),.int .i64 (cof l 6:Nat),.int .i64 (cof l 7:Nat)]∧Bx g wr #[.int .i64 0,.int .i64 0,.int .i64 0,.int .i64 0,.int .i64 0,.int .i64 0,.int .i64 0,.int .i64 0]∧Below g w wr) (fun _ p _=>n - (intOf p).toNat)
  case atStart=>exact ⟨[],0,24,none,0,0,lj rfl,by omega,by omega,rfl,rfl,EvRow.nil _ _,Sofar.zero _,HC4.out,HX4.out,HB4.out⟩
  case round =>
    obtain ⟨L,m,N,A,k,c,HN,hNn,hk8,rfl,rfl,hrow,hso,hc,hx,hb⟩:=hrel;have HRow:=lj hrow;have HSo:=lj hso;have HC:=lj hc;have HX:=lj hx;have HB:=lj hb;have hcw:gc+1≤wr.heap.size:=hc.room;clear hrow hso hc hx hb HC4 HX4 HB4 hcw4
    by_cases hlt:N<n
    · obtain ⟨b,off,rfl,hbB,_⟩:=HL.out.2 (by omega)
      have hne:¬ cap=N:=by omega
      have hgw:g+1≤wr.heap.size:=by omega
      have HF:=lj (show Bytes wr wr.heap.size (some ⟨b,off+N,none⟩) (n - N) (l.drop N) from ((HL.out.below HB.out).cut2 (cap:=cap) (j:=N) (by omega) hcap (by omega)).more (by omega))
      have hml:m<(l.drop 24).length:=by have:=HRl.out; have:=HN.out; omega
      have HMl:=lj hml
      have hdr:(l.drop 24).drop m=l.drop N:=by rw [HN.out]; exact HD.out m
      have HDr:=lj hdr;clear hml hdr
      go_wp2_with fail
      refine (get16_any _ (n - N) (cap - N) (l.drop N) wr HF.out (by omega) (by omega)).mono ?_;rintro e w5 ⟨ev,m2,er,rfl,hb5,hgv⟩;have HGv:=lj hgv;have HC5:=lj (HC.out.go hb5 hcw);have HX5:=lj (HX.out.go hb5 hgw);have HB5:=lj (HB.out.trans (hb5.mono (by omega)));have HRow5:=lj (HRow.out.below hb5);have hcw5:gc+1≤w5.heap.size:=Nat.le_trans hcw hb5.size;clear hb5 hgv HC HX HB HRow hcw hgw;unfold evv
      go_upto_region 12 with fail
      have HE6:=lj (Bx.new w5 w5.heap.size rfl #[.int .i64 ev.k,.int .i64 ev.i,.int .i64 ev.n,.string (str ev.t)] 30);have hb6:=(Below.refl w5.heap.size w5).alloc (Nat.le_refl _) (.cells #[.int .i64 ev.k,.int .i64 ev.i,.int .i64 ev.n,.string (str ev.t)] 30);have HC6:=lj (HC5.out.go hb6 hcw5);have HX6:=lj (HX5.out.go hb6 (by omega));have HB6:=lj (HB5.out.alloc (by omega) (.cells #[.int .i64 ev.k,.int .i64 ev.i,.int .i64 ev.n,.string (str ev.t)] 30));have HRow6:=lj (HRow5.out.below hb6);have hcw6:=Nat.le_trans hcw5 hb6.size;clear hb6 HC5 HX5 HB5 HRow5;generalize w5.alloc _=w6 at *
      obtain ⟨ge,hge⟩:∃ ge,w5.heap.size=ge:=⟨_,rfl⟩
      rw [hge] at HE6;simp only [hge];clear hge
      rcases HGv.out with ⟨rfl,hs⟩ | ⟨rfl,hs,hr,rfl,rfl⟩ | ⟨rfl,hs,hr⟩
      · have HS:=lj hs
        clear hs HGv;have hfin:=set8v (v0:=.int .i64 (cof l 0:Nat)) (v1:=.int .i64 (cof l 1:Nat)) (v2:=.int .i64 (cof l 2:Nat)) (v3:=.int .i64 (cof l 3:Nat)) (v4:=.int .i64 (cof l 4:Nat)) (v5:=.int .i64 (cof l 5:Nat)) (v6:=.int .i64 (cof l 6:Nat)) (v7:=.int .i64 (cof l 7:Nat)) HX6.out HB6.out (Nat.le_refl _);obtain ⟨k0,k1,k2,k3,k4,k5,k6,k7⟩:=HC6.out.cells8;obtain ⟨z0,z1,z2,z3,z4,z5,z6,z7⟩:=HX6.out.cells8;obtain ⟨f0,f1,f2,f3,f4,f5,f6,f7⟩:=HX6.out.free8;go_wp2;generalize World.setCell _ _ _=W at hfin ⊢;obtain ⟨r0,r1,r2,r3,r4,r5,r6,r7⟩:=hfin.1.cells8;have hD:=d_read (w:=w) (w':=W) (by rw [HLen.out]; omega) (by rw [HLen.out]; omega) HR.out (by rw [HG.out]; exact hfin.2.1) HN.out (by rw [HG.out]; exact (HRow6.out.keep hfin.2.2 (fun b (hb:b=g)=>by omega)).mono (by omega)) (HSo.out.short HMl.out (by rw [HDr.out]; exact HS.out));exact bodyPost_ret (by simp [results,go_sem,r0,r1,r2,r3,r4,r5,r6,r7]; rfl) rfl hD
      · have HS:=lj hs
        have HRr:=lj hr;clear hs hr HGv;have hLk:=HRow6.out.len
        by_cases hfull:k=8192
        · subst hfull
          have HLk:=lj hLk;clear hLk;have hfin:=set8v (v0:=.int .i64 (cof l 0:Nat)) (v1:=.int .i64 (cof l 1:Nat)) (v2:=.int .i64 (cof l 2:Nat)) (v3:=.int .i64 (cof l 3:Nat)) (v4:=.int .i64 (cof l 4:Nat)) (v5:=.int .i64 (cof l 5:Nat)) (v6:=.int .i64 (cof l 6:Nat)) (v7:=.int .i64 (cof l 7:Nat)) HX6.out HB6.out (Nat.le_refl _);obtain ⟨k0,k1,k2,k3,k4,k5,k6,k7⟩:=HC6.out.cells8;obtain ⟨z0,z1,z2,z3,z4,z5,z6,z7⟩:=HX6.out.cells8;obtain ⟨f0,f1,f2,f3,f4,f5,f6,f7⟩:=HX6.out.free8;go_wp2;generalize World.setCell _ _ _=W at hfin ⊢;obtain ⟨r0,r1,r2,r3,r4,r5,r6,r7⟩:=hfin.1.cells8;have hD:=d_read (w:=w) (w':=W) (by rw [HLen.out]; omega) (by rw [HLen.out]; omega) HR.out (by rw [HG.out]; exact hfin.2.1) HN.out (by rw [HG.out]; exact (HRow6.out.keep hfin.2.2 (fun b (hb:b=g)=>by omega)).mono (by omega)) (HSo.out.full HMl.out (by rw [HDr.out]; exact HS.out) (by rw [HDr.out]; exact HRr.out) HLk.out);exact bodyPost_ret (by simp [results,go_sem,r0,r1,r2,r3,r4,r5,r6,r7]; rfl) rfl hD
        · have hdk:((k:Int) == 8192)=false:=by simp; omega
          have HLk:=lj hLk;obtain ⟨e0,e1,e2,e3⟩:=HE6.out.ev;have hst:=HSo.out.step (by rw [HDr.out]; exact HS.out) (by rw [HDr.out]; exact HRr.out) (by omega);rw [HDr.out] at hst;have HSt:=lj hst;have hle:=hst.le;have HLe:=lj hle;clear hLk hst hle
          have hev:(evOf (l.drop N)).t.length≤maxLen:=by have:=(rtE_in HRr.out).2.2.2.2.2.2; unfold maxLen; omega
          have HEv:=lj hev;have HSz:=lj (show 24+(m+size (l.drop N))≤n by have h1:=HLe.out; rw [HRl.out] at h1; omega)
          have hsz:N+size (l.drop N)≤n:=by have:=HSz.out; have:=HN.out; omega
          have hk9:k+1≤8192:=by omega
          have hs7:7≤size (l.drop N):=by unfold size; omega
          clear hev hfull;generalize evOf (l.drop N)=ev at *;generalize size (l.drop N)=sz at *
          go_wp2_with (first
            | (at_builtin
               refine wpList_eapp rfl (.tmp 51) (.tmp 53) rfl (base:=gc+1) (n:=k) rfl (HRow6.out.below ((Below.refl _ _).alloc (Nat.le_refl _) _)) rfl (ev_one w6 ev HEv.out _) rfl (by omega) (by simp; omega) ?_;intro A7 c7 w7 hrow7 hb7;have HRow7:=lj hrow7;have HB7:=lj (Below.trans (((Below.refl w6.heap.size w6).alloc (Nat.le_refl _) _).mono hcw6) hb7)
               clear hrow7 hb7)
            | fail)
          go_roundw
          case rel=>exact ⟨L ++ [ev],m+sz,N+sz,A7,k+1,c7,lj (by have:=HN.out; omega),by omega,by omega,by go_num,rfl,HRow7.out,HSt.out,HC6.out.go HB7.out (Nat.le_refl _),HX6.out.go HB7.out (by omega),HB6.out.trans (HB7.out.mono (by omega))⟩
          case measure=>simp [intOf]; omega
      · have HS:=lj hs
        have HRr:=lj hr;clear hs hr HGv;have hfin:=set8v (v0:=.int .i64 (cof l 0:Nat)) (v1:=.int .i64 (cof l 1:Nat)) (v2:=.int .i64 (cof l 2:Nat)) (v3:=.int .i64 (cof l 3:Nat)) (v4:=.int .i64 (cof l 4:Nat)) (v5:=.int .i64 (cof l 5:Nat)) (v6:=.int .i64 (cof l 6:Nat)) (v7:=.int .i64 (cof l 7:Nat)) HX6.out HB6.out (Nat.le_refl _);obtain ⟨k0,k1,k2,k3,k4,k5,k6,k7⟩:=HC6.out.cells8;obtain ⟨z0,z1,z2,z3,z4,z5,z6,z7⟩:=HX6.out.cells8;obtain ⟨f0,f1,f2,f3,f4,f5,f6,f7⟩:=HX6.out.free8;go_wp2;generalize World.setCell _ _ _=W at hfin ⊢;obtain ⟨r0,r1,r2,r3,r4,r5,r6,r7⟩:=hfin.1.cells8;have hD:=d_read (w:=w) (w':=W) (by rw [HLen.out]; omega) (by rw [HLen.out]; omega) HR.out (by rw [HG.out]; exact hfin.2.1) HN.out (by rw [HG.out]; exact (HRow6.out.keep hfin.2.2 (fun b (hb:b=g)=>by omega)).mono (by omega)) (HSo.out.form HMl.out (by rw [HDr.out]; exact HS.out) (by rw [HDr.out]; exact HRr.out));exact bodyPost_ret (by simp [results,go_sem,r0,r1,r2,r3,r4,r5,r6,r7]; rfl) rfl hD
    · obtain rfl:N=n:=by omega
      have hd:decide ((N:Int)<(N:Int))=false:=by simp
      obtain ⟨z0,z1,z2,z3,z4,z5,z6,z7⟩:=HX.out.cells8;obtain ⟨f0,f1,f2,f3,f4,f5,f6,f7⟩:=HX.out.free8;obtain ⟨k0,k1,k2,k3,k4,k5,k6,k7⟩:=HC.out.cells8;clear hlt;have hfin:=set8v (v0:=.int .i64 (cof l 0:Nat)) (v1:=.int .i64 (cof l 1:Nat)) (v2:=.int .i64 (cof l 2:Nat)) (v3:=.int .i64 (cof l 3:Nat)) (v4:=.int .i64 (cof l 4:Nat)) (v5:=.int .i64 (cof l 5:Nat)) (v6:=.int .i64 (cof l 6:Nat)) (v7:=.int .i64 (cof l 7:Nat)) HX.out HB.out (Nat.le_refl _);have hrw:=(HRow.out.mono (base':=g) (by omega));go_wp2;generalize World.setCell _ _ _=W at hfin ⊢;obtain ⟨r0,r1,r2,r3,r4,r5,r6,r7⟩:=hfin.1.cells8;have hD:=d_read (w:=w) (w':=W) (by rw [HLen.out]; omega) (by rw [HLen.out]; omega) HR.out (by rw [HG.out]; exact hfin.2.1) HN.out (by rw [HG.out]; exact (HRow.out.keep hfin.2.2 (fun b (hb:b=g)=>by omega)).mono (by omega)) (HSo.out.ok (by have:=HRl.out; have:=HN.out; omega));exact bodyPost_ret (by simp [results,go_sem,r0,r1,r2,r3,r4,r5,r6,r7]; rfl) rfl hD
end
end Go.Proofs.YtalichkdeekdcaaGreatDoor
