/- TellMessages: for every input the law answers true, and its arguments read as before. Conditions: none. -/
import Derived.Test.YtecjpkjbgknnnaaGreatDoorZd25
import Derived.Test.YtecjpkjbgknnnaaGreatDoorZd40
import Derived.Test.YtecjpkjbgknnnaaGreatDoorZd41
namespace Go.Proofs.YtecjpkjbgknnnaaGreatDoor
set_option maxRecDepth 100000
open Go.Lib renaming hid → lj
namespace tellMessages
open Go.ChangeShapes Go.WideShapes Go.ChangeAt Go.RowKit
open Fr Tl Go.Deep
theorem line_word (k a b:Int) (t:Bs):∃ R,lineM k a b t=wkT k ++ R:=⟨_,rfl⟩
set_option maxHeartbeats 8000000 in
theorem walk (k_0 x0 y0:Int) (t0:Bs) (w:World) (w0:(Lit.int .i64 k_0).wf=true∧(Lit.int .i64 x0).wf=true∧(Lit.int .i64 y0).wf=true∧t0.length≤maxLen) (ht:TW w) :
  Calls Tryz.prog 3 #[.agg #[.int .i64 k_0,.int .i64 x0,.int .i64 y0,.string (str t0)]] w fun e w'=>e = .returned (.bool true)∧Below w.heap.size w w':=by
 have HA:=lj (i64_bounds w0.2.1);have HB:=lj (i64_bounds w0.2.2.1);have HT:=lj ht;clear w0 ht;have hx:=Bx.new w _ rfl #[.int .i64 k_0,.int .i64 x0,.int .i64 y0,.string (str t0)] 24;have hb1:Below w.heap.size w (w.alloc (.cells #[.int .i64 k_0,.int .i64 x0,.int .i64 y0,.string (str t0)] 24)):=(Below.refl _ _).alloc (Nat.le_refl _) _
 obtain ⟨g,hg⟩:∃ g,w.heap.size=g:=⟨_,rfl⟩
 have HG:=lj hg;rw [hg] at hx
 go_enter Tryz.func3,Tryz.ntmps3
 go_upto_region 1 with fail
 generalize w.alloc _=w1 at *;have HH:=lj (head_any w1 (HT.out.below hb1));have HX1:=lj hx;have HB1:=lj hb1;clear hx hb1 hg
 go_wp2_with fail
 refine HH.out.mono ?_;rintro e w2 ⟨rfl,hb2⟩;have hx2:=HX1.out.go hb2 HX1.out.room;have HB2:=lj (HB1.out.trans (hb2.mono HB1.out.size));have hgc:g<w2.heap.size:=Nat.lt_of_lt_of_le (Nat.lt_of_succ_le HX1.out.room) hb2.size;have c0:=hx2.cell 0 (.int .i64 k_0) rfl;have c1:=hx2.cell 1 (.int .i64 x0) rfl;have c2:=hx2.cell 2 (.int .i64 y0) rfl;have c3:=hx2.cell 3 (.string (str t0)) rfl;have HX2:=lj hx2;clear HH HX1 HB1 hb2 hx2;have hsz:=str_size t0
 by_cases h3:t0.length≤300
 rotate_left
 ·have d3:decide ((300:Int)<(t0.length:Int))=true:=decide_eq_true (by omega)
  go_wp2_with fail
  go_ret;exact ⟨rfl,HB2.out⟩
 have d3:decide ((300:Int)<(t0.length:Int))=false:=decide_eq_false (by omega);have HL:Hid (t0.length≤100000000):=lj (by omega);have HTW:=lj (HT.out.below HB2.out)
 go_wp2_with fail
 refine (word_any k_0 w2 HTW.out).mono ?_;rintro e w2' ⟨rfl,rfl⟩
 go_wp2_with fail
 refine (lline_any k_0 x0 y0 t0 HA.out HB.out HL.out w2 HTW.out).mono ?_;rintro e w3 ⟨rfl,hb3⟩;have hx3:=HX2.out.go hb3 HX2.out.room;have HFB:=lj (HB2.out.trans (hb3.mono HB2.out.size));have hgd:g<w3.heap.size:=Nat.lt_of_lt_of_le hgc hb3.size
 have HS:=lj (show ∀ W,Below w3.heap.size w3 W→W.cell? ⟨g,0,none⟩=some (.int .i64 k_0)∧W.cell? ⟨g,1,none⟩=some (.int .i64 x0)∧W.cell? ⟨g,2,none⟩=some (.int .i64 y0)∧W.cell? ⟨g,3,none⟩=some (.string (str t0)) from fun W hb =>
  ⟨(hb.cell (p:=⟨g,0,none⟩) hgd).trans (hx3.cell 0 _ rfl),(hb.cell (p:=⟨g,1,none⟩) hgd).trans (hx3.cell 1 _ rfl),(hb.cell (p:=⟨g,2,none⟩) hgd).trans (hx3.cell 2 _ rfl),(hb.cell (p:=⟨g,3,none⟩) hgd).trans (hx3.cell 3 _ rfl)⟩)
 have HCM:=lj (show ∀ W,Below w3.heap.size w3 W→_ from fun W hb=>message_any k_0 x0 y0 t0 HA.out HB.out HL.out W ((HTW.out.below hb3).below hb));obtain ⟨R,hR⟩:=line_word k_0 x0 y0 t0
 obtain ⟨T,hT⟩:∃ T,wkT k_0=T:=⟨_,rfl⟩
 obtain ⟨L,hL⟩:∃ L,lineM k_0 x0 y0 t0=L:=⟨_,rfl⟩
 obtain ⟨n,hn⟩:∃ n,(str T).size=n:=⟨_,rfl⟩
 have hnl:n≤(str L).size:=by rw [← hn,← hL,hR,hT,str_size,str_size,List.length_append]; omega
 have hcut:(str L).extract 0 n=str T:=by rw [← hn,← hL,hR,hT,str_size,s_cut,List.drop_zero,List.take_left]
 have hnB:n≤7:=by rw [← hn,← hT,str_size]; exact wkT_len k_0
 rw [hT,hL];rw [hL] at HCM
 have hemp:(str T).toList.isEmpty=decide (T=[]):=by
  rcases T with _ | ⟨a,l⟩
  ·rw [ByteArray.toList_eq,str_toL]; rfl
  ·rw [ByteArray.toList_eq,str_toL]; simp
 clear hR hL c0 c1 c2 c3 hx3 hb3 hgc hgd d3 HX2 hsz h3;have HTk:=lj hT;clear hT
 go_upto_region 7 with fail
 clear HTW
 by_cases hk1:k_0<1
 ·have d1:decide (k_0<1)=true:=decide_eq_true hk1
  have e1:decide (T=[])=true:=decide_eq_true (by rw [← HTk.out]; exact if_neg (by omega));rw [e1] at hemp;clear e1 hk1
  have hmix:Tryz.prog.follows .mixedOrders=true:=by kernel_rfl
  have hS0:Below w3.heap.size w3 w3.drew:=(Below.refl _ _).drew;refine wp_region_held (S:=fun W=>Below w3.heap.size w3 W) hmix ?_
  change wpAnyH _ _ _ _ _ _ _ _ (World.drew _)
  refine wpAnyH_take (i:=0) (v:=.agg #[.int .i64 k_0,.int .i64 x0,.int .i64 y0,.string (str t0)]) rfl (by kernel_rfl) (by kernel_rfl) (by kernel_rfl) (fun _ _ _ h=>h) (.inl ⟨by kernel_rfl,fun W hW=>?_⟩) hS0 ?_
  ·obtain ⟨c0,c1,c2,c3⟩:=HS.out W hW; go_simp
  refine wpAnyH_take (i:=2) (v:=.string (str L)) rfl (by kernel_rfl) (by kernel_rfl) (by kernel_rfl) (fun _ _ _ h=>h) (.inl ⟨by kernel_rfl,fun W hW=>?_⟩) hS0 ?_
  ·go_simp
  refine wpAnyH_all (rs:=[1]) (by kernel_rfl) (by simp) ?_;intro z hz;rw [List.mem_singleton.1 hz];clear hz;unfold wpOp
  go_simp
  refine .inl ((HCM.out _ hS0).mono ?_);rintro e v1 ⟨rfl,hb1⟩;have hS1:Below w3.heap.size w3 v1:=hS0.trans (hb1.mono hS0.size);refine ⟨hS1,?_⟩;refine wpAnyH_take (i:=3) (v:=.bool true) rfl (by kernel_rfl) (by kernel_rfl) (by kernel_rfl) (fun _ _ _ h=>h) (.inl ⟨by kernel_rfl,fun W hW=>?_⟩) hS1 ?_
  ·go_simp
  refine wpAnyH_take (i:=4) (v:=.bool true) rfl (by kernel_rfl) (by kernel_rfl) (by kernel_rfl) (fun _ _ _ h=>h) (.inl ⟨by kernel_rfl,fun W hW=>?_⟩) hS1 ?_
  ·go_simp
  refine wpAnyH_take (i:=5) (v:=.pointer (some ⟨g,3,none⟩)) rfl (by kernel_rfl) (by kernel_rfl) (by kernel_rfl) (fun _ _ _ h=>h) (.inl ⟨by kernel_rfl,fun W hW=>?_⟩) hS1 ?_
  ·go_simp
  refine wpAnyH_take (i:=6) (v:=.string (str t0)) rfl (by kernel_rfl) (by kernel_rfl) (by kernel_rfl) (fun _ _ _ h=>h) (.inl ⟨by kernel_rfl,fun W hW=>?_⟩) hS1 ?_
  ·obtain ⟨c0,c1,c2,c3⟩:=HS.out W hW; go_simp
  refine wpAnyH_take (i:=8) (v:=.pointer (some ⟨g,3,none⟩)) rfl (by kernel_rfl) (by kernel_rfl) (by kernel_rfl) (fun _ _ _ h=>h) (.inl ⟨by kernel_rfl,fun W hW=>?_⟩) hS1 ?_
  ·go_simp
  refine wpAnyH_take (i:=9) (v:=.string (str t0)) rfl (by kernel_rfl) (by kernel_rfl) (by kernel_rfl) (fun _ _ _ h=>h) (.inl ⟨by kernel_rfl,fun W hW=>?_⟩) hS1 ?_
  ·obtain ⟨c0,c1,c2,c3⟩:=HS.out W hW; go_simp
  refine wpAnyH_all (rs:=[7]) (by kernel_rfl) (by simp) ?_;intro z hz;rw [List.mem_singleton.1 hz];clear hz;unfold wpOp
  go_simp
  refine .inl ((hex_any t0 HL.out _).mono ?_);rintro e v2 ⟨rfl,hb2⟩;have hS2:Below w3.heap.size w3 v2:=hS1.trans (hb2.mono hS1.size);refine ⟨hS2,?_⟩;refine wpAnyH_all (rs:=[10]) (by kernel_rfl) (by simp) ?_;intro z hz;rw [List.mem_singleton.1 hz];clear hz;unfold wpOp
  go_simp
  refine .inl ((lhex_any t0 HL.out _).mono ?_);rintro e v3 ⟨rfl,hb3⟩;have hS3:Below w3.heap.size w3 v3:=hS2.trans (hb3.mono hS2.size);refine ⟨hS3,?_⟩;refine wpAnyH_take (i:=11) (v:=.bool true) rfl (by kernel_rfl) (by kernel_rfl) (by kernel_rfl) (fun _ _ _ h=>h) (.inl ⟨by kernel_rfl,fun W hW=>?_⟩) hS3 ?_
  ·go_simp
  refine wpAnyH_take (i:=12) (v:=.bool true) rfl (by kernel_rfl) (by kernel_rfl) (by kernel_rfl) (fun _ _ _ h=>h) (.inl ⟨by kernel_rfl,fun W hW=>?_⟩) hS3 ?_
  ·go_simp
  refine wpAnyH_take (i:=13) (v:=.bool true) rfl (by kernel_rfl) (by kernel_rfl) (by kernel_rfl) (fun _ _ _ h=>h) (.inl ⟨by kernel_rfl,fun W hW=>?_⟩) hS3 ?_
  ·go_simp
  refine wpAnyH_take (i:=14) (v:=.string (str L)) rfl (by kernel_rfl) (by kernel_rfl) (by kernel_rfl) (fun _ _ _ h=>h) (.inl ⟨by kernel_rfl,fun W hW=>?_⟩) hS3 ?_
  ·go_simp
  refine wpAnyH_take (i:=15) (v:=.string (str T)) rfl (by kernel_rfl) (by kernel_rfl) (by kernel_rfl) (fun _ _ _ h=>h) (.inl ⟨by kernel_rfl,fun W hW=>?_⟩) hS3 ?_
  ·go_simp
  refine wpAnyH_take (i:=16) (v:=.int .i64 (n:Nat)) rfl (by kernel_rfl) (by kernel_rfl) (by kernel_rfl) (fun _ _ _ h=>h) (.inl ⟨by kernel_rfl,fun W hW=>?_⟩) hS3 ?_
  ·go_simp
  refine wpAnyH_take (i:=17) (v:=.string (str T)) rfl (by kernel_rfl) (by kernel_rfl) (by kernel_rfl) (fun _ _ _ h=>h) (.inl ⟨by kernel_rfl,fun W hW=>?_⟩) hS3 ?_
  ·go_simp
  refine wpAnyH_take (i:=18) (v:=.string (str T)) rfl (by kernel_rfl) (by kernel_rfl) (by kernel_rfl) (fun _ _ _ h=>h) (.inl ⟨by kernel_rfl,fun W hW=>?_⟩) hS3 ?_
  ·go_simp
  refine wpAnyH_take (i:=19) (v:=.bool true) rfl (by kernel_rfl) (by kernel_rfl) (by kernel_rfl) (fun _ _ _ h=>h) (.inl ⟨by kernel_rfl,fun W hW=>?_⟩) hS3 ?_
  ·go_simp
  refine wpAnyH_take (i:=20) (v:=.bool true) rfl (by kernel_rfl) (by kernel_rfl) (by kernel_rfl) (fun _ _ _ h=>h) (.inl ⟨by kernel_rfl,fun W hW=>?_⟩) hS3 ?_
  ·go_simp
  refine wpAnyH_take (i:=21) (v:=.bool true) rfl (by kernel_rfl) (by kernel_rfl) (by kernel_rfl) (fun _ _ _ h=>h) (.inl ⟨by kernel_rfl,fun W hW=>?_⟩) hS3 ?_
  ·go_simp
  refine wpAnyH_take (i:=22) (v:=.string (str T)) rfl (by kernel_rfl) (by kernel_rfl) (by kernel_rfl) (fun _ _ _ h=>h) (.inl ⟨by kernel_rfl,fun W hW=>?_⟩) hS3 ?_
  ·go_simp
  refine wpAnyH_take (i:=23) (v:=.bool true) rfl (by kernel_rfl) (by kernel_rfl) (by kernel_rfl) (fun _ _ _ h=>h) (.inl ⟨by kernel_rfl,fun W hW=>?_⟩) hS3 ?_
  ·go_simp
  refine wpAnyH_take (i:=24) (v:=.pointer (some ⟨g,0,none⟩)) rfl (by kernel_rfl) (by kernel_rfl) (by kernel_rfl) (fun _ _ _ h=>h) (.inl ⟨by kernel_rfl,fun W hW=>?_⟩) hS3 ?_
  ·go_simp
  refine wpAnyH_take (i:=25) (v:=.int .i64 k_0) rfl (by kernel_rfl) (by kernel_rfl) (by kernel_rfl) (fun _ _ _ h=>h) (.inl ⟨by kernel_rfl,fun W hW=>?_⟩) hS3 ?_
  ·obtain ⟨c0,c1,c2,c3⟩:=HS.out W hW; go_simp
  refine wpAnyH_take (i:=26) (v:=.bool true) rfl (by kernel_rfl) (by kernel_rfl) (by kernel_rfl) (fun _ _ _ h=>h) (.inl ⟨by kernel_rfl,fun W hW=>?_⟩) hS3 ?_
  ·go_simp
  refine wpAnyH_take (i:=27) (v:=.bool true) rfl (by kernel_rfl) (by kernel_rfl) (by kernel_rfl) (fun _ _ _ h=>h) (.inl ⟨by kernel_rfl,fun W hW=>?_⟩) hS3 ?_
  ·go_simp
  refine wpAnyH_take (i:=28) (v:=undef) rfl (by kernel_rfl) (by kernel_rfl) (by kernel_rfl) (fun _ _ _ h=>h) (.inr ⟨by kernel_rfl,rfl⟩) hS3 ?_;refine wpAnyH_take (i:=29) (v:=undef) rfl (by kernel_rfl) (by kernel_rfl) (by kernel_rfl) (fun _ _ _ h=>h) (.inr ⟨by kernel_rfl,rfl⟩) hS3 ?_;refine wpAnyH_take (i:=30) (v:=undef) rfl (by kernel_rfl) (by kernel_rfl) (by kernel_rfl) (fun _ _ _ h=>h) (.inr ⟨by kernel_rfl,rfl⟩) hS3 ?_;refine wpAnyH_take (i:=31) (v:=.bool true) rfl (by kernel_rfl) (by kernel_rfl) (by kernel_rfl) (fun _ _ _ h=>h) (.inl ⟨by kernel_rfl,fun W hW=>?_⟩) hS3 ?_
  ·go_simp
  refine wpAnyH_take (i:=32) (v:=.bool true) rfl (by kernel_rfl) (by kernel_rfl) (by kernel_rfl) (fun _ _ _ h=>h) (.inl ⟨by kernel_rfl,fun W hW=>?_⟩) hS3 ?_
  ·go_simp
  refine wpAnyH_take (i:=33) (v:=.bool true) rfl (by kernel_rfl) (by kernel_rfl) (by kernel_rfl) (fun _ _ _ h=>h) (.inl ⟨by kernel_rfl,fun W hW=>?_⟩) hS3 ?_
  ·go_simp
  refine wpAnyH_all (rs:=[34]) (by kernel_rfl) (by simp) ?_;intro z hz;rw [List.mem_singleton.1 hz];clear hz;unfold wpOp;have HZ:=lj hS3;clear hS3
  go_simp
  refine .inl ⟨HZ.out,?_⟩;refine wpAnyH_done (by kernel_rfl) ?_ _
  go_simp
  go_wp2;exact bodyPost_ret (v:=.bool true) (by simp [results,Tryz.results3,go_sem]) rfl ⟨rfl,HFB.out.trans (HZ.out.mono HFB.out.size)⟩
 ·have d1:decide (k_0<1)=false:=decide_eq_false hk1
  by_cases hk2:15<k_0
  ·have d2:decide (15<k_0)=true:=decide_eq_true hk2
   have e1:decide (T=[])=true:=decide_eq_true (by rw [← HTk.out]; exact if_neg (by omega));rw [e1] at hemp;clear e1 hk1 hk2
   have hmix:Tryz.prog.follows .mixedOrders=true:=by kernel_rfl
   have hS0:Below w3.heap.size w3 w3.drew:=(Below.refl _ _).drew;refine wp_region_held (S:=fun W=>Below w3.heap.size w3 W) hmix ?_
   change wpAnyH _ _ _ _ _ _ _ _ (World.drew _)
   refine wpAnyH_take (i:=0) (v:=.agg #[.int .i64 k_0,.int .i64 x0,.int .i64 y0,.string (str t0)]) rfl (by kernel_rfl) (by kernel_rfl) (by kernel_rfl) (fun _ _ _ h=>h) (.inl ⟨by kernel_rfl,fun W hW=>?_⟩) hS0 ?_
   ·obtain ⟨c0,c1,c2,c3⟩:=HS.out W hW; go_simp
   refine wpAnyH_take (i:=2) (v:=.string (str L)) rfl (by kernel_rfl) (by kernel_rfl) (by kernel_rfl) (fun _ _ _ h=>h) (.inl ⟨by kernel_rfl,fun W hW=>?_⟩) hS0 ?_
   ·go_simp
   refine wpAnyH_all (rs:=[1]) (by kernel_rfl) (by simp) ?_;intro z hz;rw [List.mem_singleton.1 hz];clear hz;unfold wpOp
   go_simp
   refine .inl ((HCM.out _ hS0).mono ?_);rintro e v1 ⟨rfl,hb1⟩;have hS1:Below w3.heap.size w3 v1:=hS0.trans (hb1.mono hS0.size);refine ⟨hS1,?_⟩;refine wpAnyH_take (i:=3) (v:=.bool true) rfl (by kernel_rfl) (by kernel_rfl) (by kernel_rfl) (fun _ _ _ h=>h) (.inl ⟨by kernel_rfl,fun W hW=>?_⟩) hS1 ?_
   ·go_simp
   refine wpAnyH_take (i:=4) (v:=.bool true) rfl (by kernel_rfl) (by kernel_rfl) (by kernel_rfl) (fun _ _ _ h=>h) (.inl ⟨by kernel_rfl,fun W hW=>?_⟩) hS1 ?_
   ·go_simp
   refine wpAnyH_take (i:=5) (v:=.pointer (some ⟨g,3,none⟩)) rfl (by kernel_rfl) (by kernel_rfl) (by kernel_rfl) (fun _ _ _ h=>h) (.inl ⟨by kernel_rfl,fun W hW=>?_⟩) hS1 ?_
   ·go_simp
   refine wpAnyH_take (i:=6) (v:=.string (str t0)) rfl (by kernel_rfl) (by kernel_rfl) (by kernel_rfl) (fun _ _ _ h=>h) (.inl ⟨by kernel_rfl,fun W hW=>?_⟩) hS1 ?_
   ·obtain ⟨c0,c1,c2,c3⟩:=HS.out W hW; go_simp
   refine wpAnyH_take (i:=8) (v:=.pointer (some ⟨g,3,none⟩)) rfl (by kernel_rfl) (by kernel_rfl) (by kernel_rfl) (fun _ _ _ h=>h) (.inl ⟨by kernel_rfl,fun W hW=>?_⟩) hS1 ?_
   ·go_simp
   refine wpAnyH_take (i:=9) (v:=.string (str t0)) rfl (by kernel_rfl) (by kernel_rfl) (by kernel_rfl) (fun _ _ _ h=>h) (.inl ⟨by kernel_rfl,fun W hW=>?_⟩) hS1 ?_
   ·obtain ⟨c0,c1,c2,c3⟩:=HS.out W hW; go_simp
   refine wpAnyH_all (rs:=[7]) (by kernel_rfl) (by simp) ?_;intro z hz;rw [List.mem_singleton.1 hz];clear hz;unfold wpOp
   go_simp
   refine .inl ((hex_any t0 HL.out _).mono ?_);rintro e v2 ⟨rfl,hb2⟩;have hS2:Below w3.heap.size w3 v2:=hS1.trans (hb2.mono hS1.size);refine ⟨hS2,?_⟩;refine wpAnyH_all (rs:=[10]) (by kernel_rfl) (by simp) ?_;intro z hz;rw [List.mem_singleton.1 hz];clear hz;unfold wpOp
   go_simp
   refine .inl ((lhex_any t0 HL.out _).mono ?_);rintro e v3 ⟨rfl,hb3⟩;have hS3:Below w3.heap.size w3 v3:=hS2.trans (hb3.mono hS2.size);refine ⟨hS3,?_⟩;refine wpAnyH_take (i:=11) (v:=.bool true) rfl (by kernel_rfl) (by kernel_rfl) (by kernel_rfl) (fun _ _ _ h=>h) (.inl ⟨by kernel_rfl,fun W hW=>?_⟩) hS3 ?_
   ·go_simp
   refine wpAnyH_take (i:=12) (v:=.bool true) rfl (by kernel_rfl) (by kernel_rfl) (by kernel_rfl) (fun _ _ _ h=>h) (.inl ⟨by kernel_rfl,fun W hW=>?_⟩) hS3 ?_
   ·go_simp
   refine wpAnyH_take (i:=13) (v:=.bool true) rfl (by kernel_rfl) (by kernel_rfl) (by kernel_rfl) (fun _ _ _ h=>h) (.inl ⟨by kernel_rfl,fun W hW=>?_⟩) hS3 ?_
   ·go_simp
   refine wpAnyH_take (i:=14) (v:=.string (str L)) rfl (by kernel_rfl) (by kernel_rfl) (by kernel_rfl) (fun _ _ _ h=>h) (.inl ⟨by kernel_rfl,fun W hW=>?_⟩) hS3 ?_
   ·go_simp
   refine wpAnyH_take (i:=15) (v:=.string (str T)) rfl (by kernel_rfl) (by kernel_rfl) (by kernel_rfl) (fun _ _ _ h=>h) (.inl ⟨by kernel_rfl,fun W hW=>?_⟩) hS3 ?_
   ·go_simp
   refine wpAnyH_take (i:=16) (v:=.int .i64 (n:Nat)) rfl (by kernel_rfl) (by kernel_rfl) (by kernel_rfl) (fun _ _ _ h=>h) (.inl ⟨by kernel_rfl,fun W hW=>?_⟩) hS3 ?_
   ·go_simp
   refine wpAnyH_take (i:=17) (v:=.string (str T)) rfl (by kernel_rfl) (by kernel_rfl) (by kernel_rfl) (fun _ _ _ h=>h) (.inl ⟨by kernel_rfl,fun W hW=>?_⟩) hS3 ?_
   ·go_simp
   refine wpAnyH_take (i:=18) (v:=.string (str T)) rfl (by kernel_rfl) (by kernel_rfl) (by kernel_rfl) (fun _ _ _ h=>h) (.inl ⟨by kernel_rfl,fun W hW=>?_⟩) hS3 ?_
   ·go_simp
   refine wpAnyH_take (i:=19) (v:=.bool true) rfl (by kernel_rfl) (by kernel_rfl) (by kernel_rfl) (fun _ _ _ h=>h) (.inl ⟨by kernel_rfl,fun W hW=>?_⟩) hS3 ?_
   ·go_simp
   refine wpAnyH_take (i:=20) (v:=.bool true) rfl (by kernel_rfl) (by kernel_rfl) (by kernel_rfl) (fun _ _ _ h=>h) (.inl ⟨by kernel_rfl,fun W hW=>?_⟩) hS3 ?_
   ·go_simp
   refine wpAnyH_take (i:=21) (v:=.bool true) rfl (by kernel_rfl) (by kernel_rfl) (by kernel_rfl) (fun _ _ _ h=>h) (.inl ⟨by kernel_rfl,fun W hW=>?_⟩) hS3 ?_
   ·go_simp
   refine wpAnyH_take (i:=22) (v:=.string (str T)) rfl (by kernel_rfl) (by kernel_rfl) (by kernel_rfl) (fun _ _ _ h=>h) (.inl ⟨by kernel_rfl,fun W hW=>?_⟩) hS3 ?_
   ·go_simp
   refine wpAnyH_take (i:=23) (v:=.bool true) rfl (by kernel_rfl) (by kernel_rfl) (by kernel_rfl) (fun _ _ _ h=>h) (.inl ⟨by kernel_rfl,fun W hW=>?_⟩) hS3 ?_
   ·go_simp
   refine wpAnyH_take (i:=24) (v:=.pointer (some ⟨g,0,none⟩)) rfl (by kernel_rfl) (by kernel_rfl) (by kernel_rfl) (fun _ _ _ h=>h) (.inl ⟨by kernel_rfl,fun W hW=>?_⟩) hS3 ?_
   ·go_simp
   refine wpAnyH_take (i:=25) (v:=.int .i64 k_0) rfl (by kernel_rfl) (by kernel_rfl) (by kernel_rfl) (fun _ _ _ h=>h) (.inl ⟨by kernel_rfl,fun W hW=>?_⟩) hS3 ?_
   ·obtain ⟨c0,c1,c2,c3⟩:=HS.out W hW; go_simp
   refine wpAnyH_take (i:=26) (v:=.bool false) rfl (by kernel_rfl) (by kernel_rfl) (by kernel_rfl) (fun _ _ _ h=>h) (.inl ⟨by kernel_rfl,fun W hW=>?_⟩) hS3 ?_
   ·go_simp
   refine wpAnyH_take (i:=27) (v:=.bool false) rfl (by kernel_rfl) (by kernel_rfl) (by kernel_rfl) (fun _ _ _ h=>h) (.inl ⟨by kernel_rfl,fun W hW=>?_⟩) hS3 ?_
   ·go_simp
   refine wpAnyH_take (i:=28) (v:=.pointer (some ⟨g,0,none⟩)) rfl (by kernel_rfl) (by kernel_rfl) (by kernel_rfl) (fun _ _ _ h=>h) (.inl ⟨by kernel_rfl,fun W hW=>?_⟩) hS3 ?_
   ·go_simp
   refine wpAnyH_take (i:=29) (v:=.int .i64 k_0) rfl (by kernel_rfl) (by kernel_rfl) (by kernel_rfl) (fun _ _ _ h=>h) (.inl ⟨by kernel_rfl,fun W hW=>?_⟩) hS3 ?_
   ·obtain ⟨c0,c1,c2,c3⟩:=HS.out W hW; go_simp
   refine wpAnyH_take (i:=30) (v:=.bool true) rfl (by kernel_rfl) (by kernel_rfl) (by kernel_rfl) (fun _ _ _ h=>h) (.inl ⟨by kernel_rfl,fun W hW=>?_⟩) hS3 ?_
   ·go_simp
   refine wpAnyH_take (i:=31) (v:=.bool true) rfl (by kernel_rfl) (by kernel_rfl) (by kernel_rfl) (fun _ _ _ h=>h) (.inl ⟨by kernel_rfl,fun W hW=>?_⟩) hS3 ?_
   ·go_simp
   refine wpAnyH_take (i:=32) (v:=.bool true) rfl (by kernel_rfl) (by kernel_rfl) (by kernel_rfl) (fun _ _ _ h=>h) (.inl ⟨by kernel_rfl,fun W hW=>?_⟩) hS3 ?_
   ·go_simp
   refine wpAnyH_take (i:=33) (v:=.bool true) rfl (by kernel_rfl) (by kernel_rfl) (by kernel_rfl) (fun _ _ _ h=>h) (.inl ⟨by kernel_rfl,fun W hW=>?_⟩) hS3 ?_
   ·go_simp
   refine wpAnyH_all (rs:=[34]) (by kernel_rfl) (by simp) ?_;intro z hz;rw [List.mem_singleton.1 hz];clear hz;unfold wpOp;have HZ:=lj hS3;clear hS3
   go_simp
   refine .inl ⟨HZ.out,?_⟩;refine wpAnyH_done (by kernel_rfl) ?_ _
   go_simp
   go_wp2;exact bodyPost_ret (v:=.bool true) (by simp [results,Tryz.results3,go_sem]) rfl ⟨rfl,HFB.out.trans (HZ.out.mono HFB.out.size)⟩
  ·have d2:decide (15<k_0)=false:=decide_eq_false hk2
   have e1:decide (T=[])=false:=decide_eq_false (by
    rw [← HTk.out,show wkT k_0=wk k_0.toNat from if_pos (by omega)]
    rcases (by omega:k_0=1∨k_0=2∨k_0=3∨k_0=4∨k_0=5∨k_0=6∨k_0=7∨k_0=8∨k_0=9∨k_0=10∨k_0=11∨k_0=12∨k_0=13∨k_0=14∨k_0=15) with rfl | rfl | rfl | rfl | rfl | rfl | rfl | rfl | rfl | rfl | rfl | rfl | rfl | rfl | rfl <;> exact fun h=>nomatch h)
   rw [e1] at hemp;clear e1 hk1 hk2
   have hmix:Tryz.prog.follows .mixedOrders=true:=by kernel_rfl
   have hS0:Below w3.heap.size w3 w3.drew:=(Below.refl _ _).drew;refine wp_region_held (S:=fun W=>Below w3.heap.size w3 W) hmix ?_
   change wpAnyH _ _ _ _ _ _ _ _ (World.drew _)
   refine wpAnyH_take (i:=0) (v:=.agg #[.int .i64 k_0,.int .i64 x0,.int .i64 y0,.string (str t0)]) rfl (by kernel_rfl) (by kernel_rfl) (by kernel_rfl) (fun _ _ _ h=>h) (.inl ⟨by kernel_rfl,fun W hW=>?_⟩) hS0 ?_
   ·obtain ⟨c0,c1,c2,c3⟩:=HS.out W hW; go_simp
   refine wpAnyH_take (i:=2) (v:=.string (str L)) rfl (by kernel_rfl) (by kernel_rfl) (by kernel_rfl) (fun _ _ _ h=>h) (.inl ⟨by kernel_rfl,fun W hW=>?_⟩) hS0 ?_
   ·go_simp
   refine wpAnyH_all (rs:=[1]) (by kernel_rfl) (by simp) ?_;intro z hz;rw [List.mem_singleton.1 hz];clear hz;unfold wpOp
   go_simp
   refine .inl ((HCM.out _ hS0).mono ?_);rintro e v1 ⟨rfl,hb1⟩;have hS1:Below w3.heap.size w3 v1:=hS0.trans (hb1.mono hS0.size);refine ⟨hS1,?_⟩;refine wpAnyH_take (i:=3) (v:=.bool true) rfl (by kernel_rfl) (by kernel_rfl) (by kernel_rfl) (fun _ _ _ h=>h) (.inl ⟨by kernel_rfl,fun W hW=>?_⟩) hS1 ?_
   ·go_simp
   refine wpAnyH_take (i:=4) (v:=.bool true) rfl (by kernel_rfl) (by kernel_rfl) (by kernel_rfl) (fun _ _ _ h=>h) (.inl ⟨by kernel_rfl,fun W hW=>?_⟩) hS1 ?_
   ·go_simp
   refine wpAnyH_take (i:=5) (v:=.pointer (some ⟨g,3,none⟩)) rfl (by kernel_rfl) (by kernel_rfl) (by kernel_rfl) (fun _ _ _ h=>h) (.inl ⟨by kernel_rfl,fun W hW=>?_⟩) hS1 ?_
   ·go_simp
   refine wpAnyH_take (i:=6) (v:=.string (str t0)) rfl (by kernel_rfl) (by kernel_rfl) (by kernel_rfl) (fun _ _ _ h=>h) (.inl ⟨by kernel_rfl,fun W hW=>?_⟩) hS1 ?_
   ·obtain ⟨c0,c1,c2,c3⟩:=HS.out W hW; go_simp
   refine wpAnyH_take (i:=8) (v:=.pointer (some ⟨g,3,none⟩)) rfl (by kernel_rfl) (by kernel_rfl) (by kernel_rfl) (fun _ _ _ h=>h) (.inl ⟨by kernel_rfl,fun W hW=>?_⟩) hS1 ?_
   ·go_simp
   refine wpAnyH_take (i:=9) (v:=.string (str t0)) rfl (by kernel_rfl) (by kernel_rfl) (by kernel_rfl) (fun _ _ _ h=>h) (.inl ⟨by kernel_rfl,fun W hW=>?_⟩) hS1 ?_
   ·obtain ⟨c0,c1,c2,c3⟩:=HS.out W hW; go_simp
   refine wpAnyH_all (rs:=[7]) (by kernel_rfl) (by simp) ?_;intro z hz;rw [List.mem_singleton.1 hz];clear hz;unfold wpOp
   go_simp
   refine .inl ((hex_any t0 HL.out _).mono ?_);rintro e v2 ⟨rfl,hb2⟩;have hS2:Below w3.heap.size w3 v2:=hS1.trans (hb2.mono hS1.size);refine ⟨hS2,?_⟩;refine wpAnyH_all (rs:=[10]) (by kernel_rfl) (by simp) ?_;intro z hz;rw [List.mem_singleton.1 hz];clear hz;unfold wpOp
   go_simp
   refine .inl ((lhex_any t0 HL.out _).mono ?_);rintro e v3 ⟨rfl,hb3⟩;have hS3:Below w3.heap.size w3 v3:=hS2.trans (hb3.mono hS2.size);refine ⟨hS3,?_⟩;refine wpAnyH_take (i:=11) (v:=.bool true) rfl (by kernel_rfl) (by kernel_rfl) (by kernel_rfl) (fun _ _ _ h=>h) (.inl ⟨by kernel_rfl,fun W hW=>?_⟩) hS3 ?_
   ·go_simp
   refine wpAnyH_take (i:=12) (v:=.bool true) rfl (by kernel_rfl) (by kernel_rfl) (by kernel_rfl) (fun _ _ _ h=>h) (.inl ⟨by kernel_rfl,fun W hW=>?_⟩) hS3 ?_
   ·go_simp
   refine wpAnyH_take (i:=13) (v:=.bool true) rfl (by kernel_rfl) (by kernel_rfl) (by kernel_rfl) (fun _ _ _ h=>h) (.inl ⟨by kernel_rfl,fun W hW=>?_⟩) hS3 ?_
   ·go_simp
   refine wpAnyH_take (i:=14) (v:=.string (str L)) rfl (by kernel_rfl) (by kernel_rfl) (by kernel_rfl) (fun _ _ _ h=>h) (.inl ⟨by kernel_rfl,fun W hW=>?_⟩) hS3 ?_
   ·go_simp
   refine wpAnyH_take (i:=15) (v:=.string (str T)) rfl (by kernel_rfl) (by kernel_rfl) (by kernel_rfl) (fun _ _ _ h=>h) (.inl ⟨by kernel_rfl,fun W hW=>?_⟩) hS3 ?_
   ·go_simp
   refine wpAnyH_take (i:=16) (v:=.int .i64 (n:Nat)) rfl (by kernel_rfl) (by kernel_rfl) (by kernel_rfl) (fun _ _ _ h=>h) (.inl ⟨by kernel_rfl,fun W hW=>?_⟩) hS3 ?_
   ·go_simp
   refine wpAnyH_take (i:=17) (v:=.string (str T)) rfl (by kernel_rfl) (by kernel_rfl) (by kernel_rfl) (fun _ _ _ h=>h) (.inl ⟨by kernel_rfl,fun W hW=>?_⟩) hS3 ?_
   ·go_simp
   refine wpAnyH_take (i:=18) (v:=.string (str T)) rfl (by kernel_rfl) (by kernel_rfl) (by kernel_rfl) (fun _ _ _ h=>h) (.inl ⟨by kernel_rfl,fun W hW=>?_⟩) hS3 ?_
   ·go_simp
   refine wpAnyH_take (i:=19) (v:=.bool true) rfl (by kernel_rfl) (by kernel_rfl) (by kernel_rfl) (fun _ _ _ h=>h) (.inl ⟨by kernel_rfl,fun W hW=>?_⟩) hS3 ?_
   ·go_simp
   refine wpAnyH_take (i:=20) (v:=.bool true) rfl (by kernel_rfl) (by kernel_rfl) (by kernel_rfl) (fun _ _ _ h=>h) (.inl ⟨by kernel_rfl,fun W hW=>?_⟩) hS3 ?_
   ·go_simp
   refine wpAnyH_take (i:=21) (v:=.bool true) rfl (by kernel_rfl) (by kernel_rfl) (by kernel_rfl) (fun _ _ _ h=>h) (.inl ⟨by kernel_rfl,fun W hW=>?_⟩) hS3 ?_
   ·go_simp
   refine wpAnyH_take (i:=22) (v:=.string (str T)) rfl (by kernel_rfl) (by kernel_rfl) (by kernel_rfl) (fun _ _ _ h=>h) (.inl ⟨by kernel_rfl,fun W hW=>?_⟩) hS3 ?_
   ·go_simp
   refine wpAnyH_take (i:=23) (v:=.bool false) rfl (by kernel_rfl) (by kernel_rfl) (by kernel_rfl) (fun _ _ _ h=>h) (.inl ⟨by kernel_rfl,fun W hW=>?_⟩) hS3 ?_
   ·go_simp
   refine wpAnyH_take (i:=24) (v:=.pointer (some ⟨g,0,none⟩)) rfl (by kernel_rfl) (by kernel_rfl) (by kernel_rfl) (fun _ _ _ h=>h) (.inl ⟨by kernel_rfl,fun W hW=>?_⟩) hS3 ?_
   ·go_simp
   refine wpAnyH_take (i:=25) (v:=.int .i64 k_0) rfl (by kernel_rfl) (by kernel_rfl) (by kernel_rfl) (fun _ _ _ h=>h) (.inl ⟨by kernel_rfl,fun W hW=>?_⟩) hS3 ?_
   ·obtain ⟨c0,c1,c2,c3⟩:=HS.out W hW; go_simp
   refine wpAnyH_take (i:=26) (v:=.bool false) rfl (by kernel_rfl) (by kernel_rfl) (by kernel_rfl) (fun _ _ _ h=>h) (.inl ⟨by kernel_rfl,fun W hW=>?_⟩) hS3 ?_
   ·go_simp
   refine wpAnyH_take (i:=27) (v:=.bool false) rfl (by kernel_rfl) (by kernel_rfl) (by kernel_rfl) (fun _ _ _ h=>h) (.inl ⟨by kernel_rfl,fun W hW=>?_⟩) hS3 ?_
   ·go_simp
   refine wpAnyH_take (i:=28) (v:=.pointer (some ⟨g,0,none⟩)) rfl (by kernel_rfl) (by kernel_rfl) (by kernel_rfl) (fun _ _ _ h=>h) (.inl ⟨by kernel_rfl,fun W hW=>?_⟩) hS3 ?_
   ·go_simp
   refine wpAnyH_take (i:=29) (v:=.int .i64 k_0) rfl (by kernel_rfl) (by kernel_rfl) (by kernel_rfl) (fun _ _ _ h=>h) (.inl ⟨by kernel_rfl,fun W hW=>?_⟩) hS3 ?_
   ·obtain ⟨c0,c1,c2,c3⟩:=HS.out W hW; go_simp
   refine wpAnyH_take (i:=30) (v:=.bool false) rfl (by kernel_rfl) (by kernel_rfl) (by kernel_rfl) (fun _ _ _ h=>h) (.inl ⟨by kernel_rfl,fun W hW=>?_⟩) hS3 ?_
   ·go_simp
   refine wpAnyH_take (i:=31) (v:=.bool false) rfl (by kernel_rfl) (by kernel_rfl) (by kernel_rfl) (fun _ _ _ h=>h) (.inl ⟨by kernel_rfl,fun W hW=>?_⟩) hS3 ?_
   ·go_simp
   refine wpAnyH_take (i:=32) (v:=.bool true) rfl (by kernel_rfl) (by kernel_rfl) (by kernel_rfl) (fun _ _ _ h=>h) (.inl ⟨by kernel_rfl,fun W hW=>?_⟩) hS3 ?_
   ·go_simp
   refine wpAnyH_take (i:=33) (v:=.bool true) rfl (by kernel_rfl) (by kernel_rfl) (by kernel_rfl) (fun _ _ _ h=>h) (.inl ⟨by kernel_rfl,fun W hW=>?_⟩) hS3 ?_
   ·go_simp
   refine wpAnyH_all (rs:=[34]) (by kernel_rfl) (by simp) ?_;intro z hz;rw [List.mem_singleton.1 hz];clear hz;unfold wpOp;have HZ:=lj hS3;clear hS3
   go_simp
   refine .inl ⟨HZ.out,?_⟩;refine wpAnyH_done (by kernel_rfl) ?_ _
   go_simp
   go_wp2;exact bodyPost_ret (v:=.bool true) (by simp [results,Tryz.results3,go_sem]) rfl ⟨rfl,HFB.out.trans (HZ.out.mono HFB.out.size)⟩
theorem w_in:Tryz.checked.prog.inits.idxOf? 3=none:=by kernel_rfl
theorem w_ok (os:Os):Input.okWideB Tryz.prog ((World.doorLaid Tryz.prog 400 os).forCall (fun _ _=>0) ⟨#[],#[.agg #[.int .i64 0,.int .i64 0,.int .i64 0,.string ⟨#[]⟩]],[]⟩) 3 ⟨#[],#[.agg #[.int .i64 0,.int .i64 0,.int .i64 0,.string ⟨#[]⟩]],[]⟩=true:=by kernel_rfl
theorem w_pre (os:Os) (H:Type) (enc:TypeId×Value→H):Rows.tellMessagesSpec.preB enc Tryz.prog Tryz.f3 [] false ((World.doorLaid Tryz.prog 400 os).forCall (fun _ _=>0) ⟨#[],#[.agg #[.int .i64 0,.int .i64 0,.int .i64 0,.string ⟨#[]⟩]],[]⟩).memory #[.agg #[.int .i64 0,.int .i64 0,.int .i64 0,.string ⟨#[]⟩]] 8=true:=by kernel_rfl
theorem w_sz (os:Os) (H:Type) (enc:TypeId×Value→H):Rows.tellMessagesSpec.sizedB enc Tryz.prog Tryz.f3 false ((World.doorLaid Tryz.prog 400 os).forCall (fun _ _=>0) ⟨#[],#[.agg #[.int .i64 0,.int .i64 0,.int .i64 0,.string ⟨#[]⟩]],[]⟩).memory #[.agg #[.int .i64 0,.int .i64 0,.int .i64 0,.string ⟨#[]⟩]] 8=true:=by kernel_rfl
theorem lifted (os:Os) (started:os.Started) (H:Type) (enc:TypeId×Value→H) :
  ReturnsInHanded {} Tryz.checked os 3 .any (fun w args=>(Rows.tellMessagesSpec.pre enc Tryz.prog Tryz.f3 [] false w args∧laidMetH Tryz.prog laidL w)∧sizedMet enc Tryz.prog Tryz.f3 (OpenSpec.ofChange Rows.tellMessagesSpec) false w args)
   (Rows.tellMessagesSpec.post enc Tryz.prog Tryz.f3 false true false false):=by
 refine returnsInHanded_of_change_and (C:=Tryz.checked) (X:=fun w _=>laidMetH Tryz.prog laidL w) (fun _ _ _ hh h=>h.of_heap hh) own started w_in Tryz.func3
  (ChangeSpec.witness_shaped (enc:=enc) (C:=Tryz.checked) (os:=os) (X:=fun w _=>laidMetH Tryz.prog laidL w) false (World.doorLaid Tryz.prog 400 os) #[.agg #[.int .i64 0,.int .i64 0,.int .i64 0,.string ⟨#[]⟩]] 8 rfl (door_shaped os _) (w_ok os) (w_pre os H enc) (w_sz os H enc) (door_met os _)) ?_
 intro W base args ds gs before hval0 hW hcnd hsz0 hL _;have hti:=tw_of hL
 have hval:∀ (j:Nat) t v,Tryz.f3.params[j]?=some t→args[j]?=some v→Value.okWide Tryz.prog W .any base t v:=hval0
 have hW':=hW;obtain ⟨p,q,hA0,hV,rfl,hfz,hnd⟩:=hW;have hsz:(DataW.weightsEach Tryz.prog (Tryz.f3.params.toList ++ Rows.tellMessagesSpec.plain.varTypes Tryz.prog) (ds ++ gs)).all (·≤reachBytes)=true:=hsz0;have hA:DataW.TrodAll enc Tryz.prog W 0 (fun _=>true) true Tryz.f3.params.toList args.toList ds p:=hA0;rw [Tryz.params3] at hA hval hsz;obtain ⟨v0,vs0,d0,ds0,p0,q0,hargs,rfl,rfl,h0,r0⟩:=trodAll_cons hA;obtain ⟨rfl,rfl,rfl⟩:=trodAll_nil r0
 obtain rfl:args = #[v0]:=by cases args; simp_all
 obtain ⟨rfl,rfl⟩:=trodVars_none hV;have k0:=h0
 have lt0:∀ x∈p0,x.block<W.heap.size:=by obtain ⟨m,hm⟩:=k0; exact DataW.trod_lt m _ _ _ hm
 obtain ⟨k_0,x0,y0,t0,rfl,w0⟩:=open_msg (hval 0 24 v0 rfl rfl) h0;clear hA0 hval0 hsz hsz0
 refine (walk k_0 x0 y0 t0 W w0 hti).mono fun e W' ⟨he,bel⟩=>?_
 subst he;exact ⟨_,rfl,_,_,_,[],_,[],hW',trodAll_mk1 (shut_bool Tryz.underlying4 _),(trodAll_cons_mk (Below.trod laidOut (by kernel_rfl) (of_decide_eq_true (by kernel_rfl)) k0 bel lt0) trodAll_mk0),rfl,bel.frame _,fun h=>by cases h⟩
theorem q0:(Rows.tellMessagesRow.wf (OpenSpec.ofChange Rows.tellMessagesSpec))=true:=by kernel_rfl
theorem q3:(Tryz.f3.params.all (Tryz.prog.readableRec ·))=true:=by kernel_rfl
theorem q4:(namedTie Tryz.prog Rows.tellMessagesRow.named Rows.tellMessagesSpec.vars)=true:=by kernel_rfl
theorem q5:((Rows.tellMessagesRow.stops == []))=true:=by kernel_rfl
theorem q7:((Rows.tellMessagesRow.knobs == []))=true:=by kernel_rfl
theorem q9:((Rows.tellMessagesRow.inPlace == Tryz.prog.inPlace 3))=true:=by kernel_rfl
theorem q10:((Rows.tellMessagesRow.unfollowed == Tryz.prog.unfollowed 3))=true:=by kernel_rfl
theorem q11:((Rows.tellMessagesRow.recurses == Tryz.prog.recurses 3))=true:=by kernel_rfl
theorem q12:((Rows.tellMessagesRow.named == Tryz.prog.varsNamed 3))=true:=by kernel_rfl
theorem q13:((Rows.tellMessagesRow.maps == (Tryz.f3.params.toList ++ Rows.tellMessagesSpec.plain.varTypes Tryz.prog).any (Tryz.prog.mapsRec ·)))=true:=by kernel_rfl
theorem q14:((Rows.tellMessagesRow.ifaces == (Tryz.f3.params.toList ++ Rows.tellMessagesSpec.plain.varTypes Tryz.prog).any (Tryz.prog.ifacesRec ·)))=true:=by kernel_rfl
theorem q15:((Rows.tellMessagesRow.mapsOut == Tryz.prog.mapsAmong Tryz.f3.resultTypes.toList))=true:=by kernel_rfl
theorem q16:((Rows.tellMessagesRow.loops == (Tryz.f3.params.toList ++ Rows.tellMessagesSpec.plain.varTypes Tryz.prog).any (Tryz.prog.loopsFrom ·)))=true:=by kernel_rfl
theorem q17:((Rows.tellMessagesRow.wideKeys == (Tryz.f3.params.toList ++ Rows.tellMessagesSpec.plain.varTypes Tryz.prog ++ Tryz.f3.resultTypes.toList).any (Tryz.prog.wideKeysFrom ·)))=true:=by kernel_rfl
theorem q18:(Rows.tellMessagesSpec.vars.all (Tryz.prog.varReadable ·))=true:=by kernel_rfl
theorem q19:(Tryz.f3.resultTypes.all (fun t=>Tryz.prog.readableRec t && decide (t<Tryz.prog.types.size)))=true:=by kernel_rfl
theorem q20:((Rows.tellMessagesRow.ifacesOut == Tryz.f3.resultTypes.toList.any (Tryz.prog.ifacesRec ·)))=true:=by kernel_rfl
theorem q21:((Rows.tellMessagesRow.loopsOut == Tryz.f3.resultTypes.toList.any (Tryz.prog.loopsFrom ·)))=true:=by kernel_rfl
theorem q22:((Rows.tellMessagesRow.plainKeys == Tryz.prog.plainKeys))=true:=(show Rows.tellMessagesRow.plainKeys=Rows.tellMessagesRow.plainKeys from rfl) ▸ pq22
theorem q23:(Rows.tellMessagesRow.shortTexts.isNone)=true:=by kernel_rfl
theorem q26:((Rows.tellMessagesRow.lifted == Tryz.prog.liftsFinal))=true:=(show Rows.tellMessagesRow.lifted=Rows.tellMessagesRow.lifted from rfl) ▸ pq26
theorem q27:((Tryz.prog.make == some Rows.tellMessagesRow.make))=true:=(show Rows.tellMessagesRow.make=Rows.tellMessagesRow.make from rfl) ▸ pq27
theorem q28:kindsAre Tryz.prog Rows.tellMessagesRow Tryz.f3=true:=by kernel_rfl
theorem q29:((Rows.tellMessagesRow.pinned == Rows.tellMessagesRow.pinnedBy))=true:=by kernel_rfl
theorem q30:((Rows.tellMessagesRow.veiled == (Tryz.f3.params.toList ++ Rows.tellMessagesSpec.plain.varTypes Tryz.prog ++ Tryz.f3.resultTypes.toList).any (Tryz.prog.veiledRec ·)))=true:=by kernel_rfl
theorem q31:(Rows.tellMessagesRow.veiledFits Tryz.prog Tryz.f3.params.toList (Tryz.f3.params.toList ++ Rows.tellMessagesSpec.plain.varTypes Tryz.prog ++ Tryz.f3.resultTypes.toList))=true:=by kernel_rfl
theorem q_named:Tryz.prog.funcNamed Rows.tellMessagesRow.func=some 3:=by kernel_rfl
theorem q_inst:Tryz.f3.isInstance Tryz.prog Rows.tellMessagesRow.origin Rows.tellMessagesRow.targs:=of_decide_eq_true (by kernel_rfl)
theorem q_wrap:Tryz.f3.isWrapper Tryz.prog Rows.tellMessagesRow.wrapper Rows.tellMessagesRow.mainSum:=by unfold Func.isWrapper; first | (rw [if_pos (by decide +kernel)]; kernel_rfl) | (rw [if_neg (by decide +kernel)]; exact ⟨rfl,rfl⟩)
theorem q_all:joinedFacts Tryz.prog 3 Tryz.f3 Rows.tellMessagesSpec Rows.tellMessagesRow=true:=joined_of (P:=Tryz.prog) (f:=3) (fn:=Tryz.f3) (s:=Rows.tellMessagesSpec) (c:=Rows.tellMessagesRow) q0 pq1 pq2 q3 q4 q5 pq6 q7 pq8 q9 q10 q11 q12 q13 q14 q15 q16 q17 q18 q19 q20 q21 q22 q23 pq24 pq25 q26 q27 q28 q29 q30 q31
theorem over:Rows.TellMessagesSaid:=
 OpenClaim.holds_of_wide 3 Tryz.f3 rfl rfl rfl rfl rfl rfl rfl ⟨rfl,rfl,rfl,rfl,rfl⟩ rfl rfl rfl rfl rfl q_named Tryz.func3 q_all q_inst q_wrap
  (fun os started H enc _=>lifted os started H enc)
theorem c_wf:Rows.tellMessagesRow.wfByText (OpenSpec.ofChange Rows.tellMessagesSpec)=true:=by kernel_rfl
theorem c_looks:true=Tryz.prog.looks []:=by kernel_rfl
theorem c_stand:([24].all fun u=>!Tryz.prog.wantsStandIn u)=true:=by kernel_rfl
theorem c_goes:false=Rows.tellMessagesRow.goesBy Tryz.prog:=by kernel_rfl
end tellMessages
theorem tellMessages_holds:Rows.TellMessagesCardSaid:=
 Claim7.holds_tied_plain_at (c:=Rows.tellMessagesRow) .later [] _ true _ true
  tellMessages.over (fun _ h=>by cases h) tellMessages.c_wf (fun _ h=>by cases h) tellMessages_row_tie rfl ⟨rfl,rfl⟩ main_is rfl
  (fun f fn hf hfn=>by
   obtain rfl:f=3:=Option.some.inj (tellMessages.q_named.symm.trans hf) |>.symm
   obtain rfl:fn=Tryz.f3:=(Option.some.inj (Tryz.func3.symm.trans hfn)).symm
   exact ⟨tellMessages.c_looks,fun j t ht=>by
    rw [Tryz.params3] at ht
    have hm:t∈[24]:=by simpa using Array.mem_of_getElem? ht
    exact (show Tryz.prog.wantsStandIn t=false by simpa using List.all_eq_true.1 tellMessages.c_stand t hm)⟩)
  tellMessages.c_goes
#print axioms tellMessages_holds
end Go.Proofs.YtecjpkjbgknnnaaGreatDoor
