/- PIq -/
import Derived.Test.YtdpagmcickkbmaaGreatDoorZd12
import Derived.Test.YtdpagmcickkbmaaGreatDoorZd40
namespace Go.Proofs.YtdpagmcickkbmaaGreatDoor
set_option maxRecDepth 100000
open Go.Lib renaming hid → lj
section
open Go.RowKit
def QuIs (z:Zo) (G:Nat→Prop) (R:List Value) (w:World) (g size:Nat) (l:Bs):Prop:=
 ∃ a c,Que z R 0 w g size a l.length c l∧G g∧(∀ b,In a b→G b)∧∀ b,G b→b<w.heap.size
def QGives (z:Zo) (G:Nat→Prop) (g:Nat) (w:World) (R:List Value) (size:Nat) (l:Bs) (v:Value) (e:Ending) (w':World):Prop:=
 ∃ G2,e = .returned v∧QuIs z G2 R w' g size l∧(∀ b,G2 b→G b∨w.heap.size≤b)∧Only G w w'
section
variable {z:Zo} {R:List Value} {G S:Nat→Prop} {g size:Nat} {w w':World} {l:Bs}
theorem QuIs.keep (h:QuIs z G R w g size l) (hO:Only S w w') (hS:∀ b,G b→¬ S b):QuIs z G R w' g size l:=by
 obtain ⟨a,c,h,h1,h2,h3⟩:=h;exact ⟨a,c,h.only hO (hS _ h1) (fun p hp=>hS _ (h2 _ ⟨p,hp,rfl⟩)),h1,h2,fun b hb=>Nat.lt_of_lt_of_le (h3 b hb) hO.size⟩
theorem QuIs.fit (h:QuIs z G R w g size l):l.length≤size∧size≤65536:=by
 obtain ⟨a,c,h,_⟩:=h;exact ⟨h.few,h.small⟩
theorem QuIs.lt (h:QuIs z G R w g size l):∀ b,G b→b<w.heap.size:=by
 obtain ⟨a,c,h,_,_,h3⟩:=h;exact h3
theorem QuIs.drewN (h:QuIs z G R w g size l) (n:Nat):QuIs z G R (w.drewN n) g size l:=h.keep ((Only.refl (fun _=>False) w).drewN n) (fun _ _ h=>h)
theorem q_len (h:QuIs z G R w g size l):Calls Tryz.prog 57 #[.pointer (some ⟨g,z.o,none⟩)] w fun e w'=>e = .returned (.int .i64 l.length)∧w=w':=by
 obtain ⟨a,c,h,_⟩:=h;exact outq_len w h
theorem q_put_no (h:QuIs z G R w g size l) (A:Option Addr) (m c2:Nat) (hm:size<l.length+m) :
  Calls Tryz.prog 85 #[.pointer (some ⟨g,z.o,none⟩),.slice A m c2] w fun e w'=>e = .returned (.bool false)∧∃ k,w'=w.drewN k:=by
 obtain ⟨a,c,h,_⟩:=h;exact outq_put_no w h A m c2 hm
theorem q_put_yes (h:QuIs z G R w g size l) {B:Nat} {A:Option Addr} {m:Nat} (c2:Nat) {t:Bs} (ht:Bytes w B A m t) (hm:l.length+m≤size) :
  Calls Tryz.prog 85 #[.pointer (some ⟨g,z.o,none⟩),.slice A m c2] w (QGives z G g w R size (l ++ t) (.bool true)):=by
 obtain ⟨a,c,h,h1,h2,h3⟩:=h
 refine (outq_put_yes w h B A m c2 t ht (Nat.zero_le _) hm).mono fun e w' ⟨he,a2,c3,hq,ho,hn⟩=>?_
 refine ⟨fun b=>b=g∨In a2 b,he,⟨a2,c3,?_,.inl rfl,fun b hb=>.inr hb,?_⟩,?_,ho.mono ?_⟩
 ·rw [List.length_append,ht.1]
  exact hq
 ·rintro b (rfl | hb)
  ·exact hq.bx.room
  ·obtain ⟨p,hp,rfl⟩:=hb
   exact (hq.mid.lt hp).2
 ·rintro b (rfl | hb)
  ·exact .inl h1
  ·rcases hn b hb with h4 | h4
   ·exact .inl (h2 b h4)
   ·exact .inr h4
 ·rintro b _ (rfl | hb)
  ·exact h1
  ·exact h2 b hb
abbrev IR (tot:Nat) (en:Bool):List Value:=[.int .i64 tot,.bool en]
end
section
variable {z y:Zo} {F G:Nat→Prop} {g gt size tot N:Nat} {en:Bool} {w w':World} {l:Bs} {s:Fl}
theorem iq_new (sz:Int) (w:World):Calls Tryz.prog 24 #[.int .i64 sz] w fun e w' =>
  ∃ g G,e = .returned (.pointer (some ⟨g,0,none⟩))∧QuIs z0 G (IR 0 false) w' g (sizeOf' sz) []∧(∀ b,G b→w.heap.size≤b)∧Below w.heap.size w w':=by
 go_enter Tryz.func24,Tryz.ntmps24
 go_wp2_with fail
 refine (outq_new sz w).mono ?_;rintro e w1 ⟨rfl,hq,hb⟩;have c0:w1.cell? ⟨w.heap.size,0,none⟩=some (.int .i64 (sizeOf' sz)):=hq.c0;have c1:w1.cell? ⟨w.heap.size,1,none⟩=some (.slice none 0 0):=hq.c1;have hz:sizeOf' sz≤65536:=hq.small;have HB:=lj hb;clear hq hb;go_wp2;go_ret;refine ⟨w1.heap.size,fun b=>b=w1.heap.size,rfl,⟨none,0,⟨Bo.new _ _ rfl _ _,Nat.zero_le _,hz,Nat.zero_le _,Mid.nil _ _,fun ⟨_,h,_⟩=>by cases h⟩,rfl,(fun b hb=>by obtain ⟨_,h,_⟩:=hb; cases h),fun b hb=>by subst hb; simp⟩,fun b hb=>by subst hb; exact HB.out.size,HB.out.alloc HB.out.size _⟩
def whyE (en:Bool) (s:Fl) (id:Int):Int:=
 if en then 1 else if rhas s.roles id=false then 2 else if rrole s.roles id=0 then 3 else if fhold s≠id then 4 else 0
theorem iq_may (h:QuIs z G (IR tot en) w g size l) (ht:TabIs y F gt w s) (hk:FOk N s) (id:Int) (hid:wf64 id) :
    Calls Tryz.prog 127 #[.pointer (some ⟨g,z.o,none⟩),.pointer (some ⟨gt,y.o,none⟩),.int .i64 id] w fun e w'=>e = .returned (.int .i64 (whyE en s id))∧∃ m,w'=w.drewN m:=by
  have hT:=lj (trole_any ht hk id hid);have hH:=lj (fun W (hW:TabIs y F gt W s)=>thold_any hW hk);have HT:=lj ht
  have hc:∀ n,(w.drewN n).cell? ⟨g,z.o+3,none⟩=some (.bool en):=fun n=>by
    obtain ⟨a,c,h,_⟩:=h.drewN n;exact h.bx.cell 3 (.bool en) rfl
  have HW:=lj (show whyE en s id=if en then 1 else if rhas s.roles id=false then 2 else if rrole s.roles id=0 then 3 else if fhold s≠id then 4 else 0 from rfl);generalize whyE en s id=why at *;generalize rhas s.roles id=B at *;generalize rrole s.roles id=r at *;generalize fhold s=hd at *;clear h ht;cases en
  · cases B
    · go_enter Tryz.func127,Tryz.ntmps127
      go_wp2_with fail
      refine hT.out.mono ?_;rintro e w1 ⟨rfl,m,rfl⟩;have hcm:=hc m;go_wp2;go_ret;exact ⟨ret_int (by rw [HW.out]; rfl),m,rfl⟩
    · by_cases h1:r=0
      · subst h1
        go_enter Tryz.func127,Tryz.ntmps127
        go_wp2_with fail
        refine hT.out.mono ?_;rintro e w1 ⟨rfl,m,rfl⟩;have hcm:=hc m;go_wp2;go_ret;exact ⟨ret_int (by rw [HW.out]; rfl),m,rfl⟩
      · have h2:(r == 0)=false:=by simpa using h1
        by_cases h3:hd=id
        · have h4:(hd != id)=false:=by simpa using h3
          go_enter Tryz.func127,Tryz.ntmps127
          go_wp2_with fail
          refine hT.out.mono ?_;rintro e w1 ⟨rfl,m,rfl⟩;have hcm:=hc m
          go_wp2_with fail
          refine (hH.out _ (HT.out.keep ((Only.refl (fun _=>False) w).drewN m) (fun _ _ h=>h))).mono ?_;rintro e w2 ⟨rfl,m2,rfl⟩;go_wp2;go_ret;exact ⟨ret_int (by rw [HW.out]; simp [h1,h3]),m+m2,by simp⟩
        · have h4:(hd != id)=true:=by simpa using h3
          go_enter Tryz.func127,Tryz.ntmps127
          go_wp2_with fail
          refine hT.out.mono ?_;rintro e w1 ⟨rfl,m,rfl⟩;have hcm:=hc m
          go_wp2_with fail
          refine (hH.out _ (HT.out.keep ((Only.refl (fun _=>False) w).drewN m) (fun _ _ h=>h))).mono ?_;rintro e w2 ⟨rfl,m2,rfl⟩;go_wp2;go_ret;exact ⟨ret_int (by rw [HW.out]; simp [h1,h3]),m+m2,by simp⟩
  · go_enter Tryz.func127,Tryz.ntmps127
    go_wp2_with fail
    refine hT.out.mono ?_;rintro e w1 ⟨rfl,m,rfl⟩;have hcm:=hc m;go_wp2;go_ret;exact ⟨ret_int (by rw [HW.out]; rfl),m,rfl⟩
theorem QuIs.behind (h:QuIs z G (IR tot en) w g size l):w.cell? ⟨g,z.o+2,none⟩=some (.int .i64 tot)∧w.frozen? ⟨g,z.o+2,none⟩=false ∧
  ∀ k:Nat,QuIs z G (IR k en) (w.setCell ⟨g,z.o+2,none⟩ (.int .i64 k)) g size l:=by
 obtain ⟨a,c,h,h1,h2,h3⟩:=h;refine ⟨h.bx.cell 2 _ rfl,h.bx.free 2,fun k=>?_⟩;have hO:=Bx.only g w (z.o+2) (.int .i64 k);exact ⟨a,c,⟨h.bx.set 2 _,h.low,h.small,h.few,h.mid.only hO (fun p hp e=>h.apart ⟨p,hp,e⟩),h.apart⟩,h1,h2,fun b hb=>Nat.lt_of_lt_of_le (h3 b hb) hO.size⟩
theorem QuIs.own (h:QuIs z G (IR tot en) w g size l):G g:=by
 obtain ⟨a,c,h,h1,_⟩:=h;exact h1
theorem iq_offer_why (h:QuIs z G (IR tot en) w g size l) (ht:TabIs y F gt w s) (hk:FOk N s) (id:Int) (hid:wf64 id) (A:Option Addr) (m c2:Nat) (v:Int) (hv:whyE en s id=v) (h0:v≠0) :
  Calls Tryz.prog 107 #[.pointer (some ⟨g,z.o,none⟩),.pointer (some ⟨gt,y.o,none⟩),.int .i64 id,.slice A m c2] w fun e w'=>e = .returned (.int .i64 v)∧∃ k,w'=w.drewN k:=by
 have HM:=iq_may h ht hk id hid;rw [hv] at HM
 have hd:(v != 0)=true:=by simpa using h0
 have HMH:=lj HM;clear HM hv h ht
 go_enter Tryz.func107,Tryz.ntmps107
 go_wp2_with fail
 refine HMH.out.mono ?_;rintro e w1 ⟨rfl,k,rfl⟩;go_wp2;go_ret;exact ⟨rfl,k,rfl⟩
theorem iq_offer_full (h:QuIs z G (IR tot en) w g size l) (ht:TabIs y F gt w s) (hk:FOk N s) (id:Int) (hid:wf64 id) (A:Option Addr) (m c2:Nat) (hv:whyE en s id=0) (hm:size<l.length+m) :
  Calls Tryz.prog 107 #[.pointer (some ⟨g,z.o,none⟩),.pointer (some ⟨gt,y.o,none⟩),.int .i64 id,.slice A m c2] w fun e w'=>e = .returned (.int .i64 5)∧∃ k,w'=w.drewN k:=by
 have HM:=iq_may h ht hk id hid;rw [hv] at HM;have HMH:=lj HM;have HQ:=lj h;clear HM hv h ht
 go_enter Tryz.func107,Tryz.ntmps107
 go_wp2_with fail
 refine HMH.out.mono ?_;rintro e w1 ⟨rfl,k,rfl⟩
 go_wp2_with fail
 refine (q_put_no (HQ.out.drewN k) A m c2 hm).mono ?_;rintro e w2 ⟨rfl,k2,rfl⟩;go_wp2;go_ret;exact ⟨rfl,k+k2,by simp⟩
theorem iq_offer_yes (h:QuIs z G (IR tot en) w g size l) (ht:TabIs y F gt w s) (hk:FOk N s) (id:Int) (hid:wf64 id) {B:Nat} {A:Option Addr} {m:Nat} (c2:Nat) {t:Bs} (hb:Bytes w B A m t) (hv:whyE en s id=0) (hm:l.length+m≤size) (htot:tot≤1000000000) :
  Calls Tryz.prog 107 #[.pointer (some ⟨g,z.o,none⟩),.pointer (some ⟨gt,y.o,none⟩),.int .i64 id,.slice A m c2] w (QGives z G g w (IR (tot+m) en) size (l ++ t) (.int .i64 0)):=by
 have HM:=iq_may h ht hk id hid;rw [hv] at HM;have HMH:=lj HM;have HQ:=lj h;have HBy:=lj hb
 have hms:m≤65536:=by have:=h.fit; omega
 clear HM hv h ht hb
 go_enter Tryz.func107,Tryz.ntmps107
 go_wp2_with fail
 refine HMH.out.mono ?_;rintro e w1 ⟨rfl,k,rfl⟩
 go_wp2_with fail
 refine (q_put_yes (HQ.out.drewN k) c2 (HBy.out.below (below_drewN (Below.refl _ _) k)) hm).mono ?_;rintro e w2 ⟨G2,rfl,hq2,hG2,hO2⟩;obtain ⟨b1,b2,b3⟩:=hq2.behind;have H3:=lj (b3 (tot+m));have HO:=lj ((((Only.refl G w).drewN k).trans (hO2)).setCell (p:=⟨g,z.o+2,none⟩) HQ.out.own (.int .i64 ((tot+m:Nat):Int)));have HG2:=lj hG2;clear hq2 hG2 hO2 b3;go_wp2;go_ret;exact ⟨G2,rfl,H3.out,HG2.out,HO.out⟩
theorem iq_end (h:QuIs z G (IR tot en) w g size l) :
  Calls Tryz.prog 51 #[.pointer (some ⟨g,z.o,none⟩)] w (QGives z G g w (IR tot true) 0 [] (.tuple #[])):=by
 obtain ⟨a,c,h,h1,h2,h3⟩:=h;have hx:=h.bx;have hg:g<w.heap.size:=hx.room;have hc3:=hx.cell 3 (.bool en) rfl;have hf3:=hx.free 3;have HX:=lj (hx.set 3 (.bool true));have HO:=lj (Bx.only g w (z.o+3) (.bool true));have HG:=lj (And.intro h1 h3);clear h hx h1 h2 h3
 go_enter Tryz.func51,Tryz.ntmps51
 go_upto_region 1 with fail
 clear hc3 hf3;generalize w.setCell ⟨g,z.o+3,none⟩ (.bool true)=W at *
 go_wp2_with fail
 refine (outq_new 0 W).mono ?_;rintro e w1 ⟨rfl,hq,hb⟩;have c0:w1.cell? ⟨W.heap.size,0,none⟩=some (.int .i64 (sizeOf' 0)):=hq.c0;have c1:w1.cell? ⟨W.heap.size,1,none⟩=some (.slice none 0 0):=hq.c1;have hx1:=HX.out.keep (only_of_below hb) (fun h=>h);have f0:=hx1.free0;have f1:=hx1.free 1;have b0:=hx1.cell0 (.int .i64 size) rfl;have b1:=hx1.cell 1 (.slice a l.length c) rfl;have HX1:=lj hx1;have HO1:=lj (HO.out.trans' (S:=fun b=>b=g) (T:=fun _=>False) (only_of_below hb) (fun _ h=>h.elim));rw [show sizeOf' 0=0 from rfl] at c0;clear hq hb hx1;go_wp2;refine bodyPost_ret (v:=.tuple #[]) (by simp [results,Tryz.results51,go_sem]) rfl ⟨fun b=>b=g,rfl,?_,fun b hb=>.inl (by subst hb; exact HG.out.1),?_⟩
 ·have hx:=((HX1.out.set0 (.int .i64 0) (by simp)).set 1 (.slice none 0 0) (by simp))
  refine ⟨none,0,⟨hx,Nat.zero_le _,Nat.zero_le _,Nat.zero_le _,Mid.nil _ _,fun ⟨_,h,_⟩=>by cases h⟩,rfl,(fun b hb=>by obtain ⟨_,h,_⟩:=hb; cases h),fun b hb=>by subst hb; exact hx.room⟩
 ·exact (HO1.out.trans ((Bx.only g w1 z.o _).trans (Bx.only g _ (z.o+1) _))).mono (fun b _ hb=>by subst hb; exact HG.out.1)
end
end
end Go.Proofs.YtdpagmcickkbmaaGreatDoor
