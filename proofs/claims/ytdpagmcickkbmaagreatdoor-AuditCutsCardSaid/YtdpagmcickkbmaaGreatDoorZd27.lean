/- PSame PFeedw PFst -/
import Derived.Deep.DeepCutAuto
import Derived.Test.YtdpagmcickkbmaaGreatDoorZd12
import Derived.Test.YtdpagmcickkbmaaGreatDoorZd23
namespace Go.Proofs.YtdpagmcickkbmaaGreatDoor
set_option maxRecDepth 100000
open Go.Lib renaming hid → lj
section
open Go.RowKit
open Fr
theorem rec_fr {es:List Ent} {e:Ent} {fs:List (BitVec 8×Bs)}:kl (es ++ [e]) ++ fs=kl es ++ (e.k,e.l) :: fs:=by simp [kl]
theorem get_err (l:Bs):(Fr.get l).err=err l:=by
 unfold Fr.get
 split
 ·simp [*]
 ·rfl
theorem fsrc_one (w:World) (e:Ent) (C:Array Value) (hC:C=(Ent.cells e).toArray) (fr:Nat×Nat):Fsrc (w.alloc (.cells C 96 fr)) (some ⟨w.heap.size,0,none⟩) 1 [e]:=by
 subst hC;refine ⟨rfl,fun _=>⟨_,rfl,fun j u hu=>?_⟩⟩;rw [add_none,cell_of_row _ _ _ _ _ _ (heap_alloc_new _ _),Nat.zero_add]
 simpa [cellsOf] using hu
end
section
open Go.RowKit
open Fr
structure Fed (base:Nat) (w:World) (g:Nat) (a:Option Addr) (n c:Nat) (l:Bs) (e:Nat):Prop where
 head:w.heap[g]?=some (.cells #[.slice a n c,.int .i64 e] 129 (0,0))
 low:base≤g
 mid:Mid base w a n c l
 apart:¬ In a g
def JF (g:Nat) (A:Option Addr) (m c2:Nat) (s5 s6:Value) (a':Act):Prop:=
 ∃ u2 u3 u4 u7 u8 u9 u10 u11 u12 u13 u14 u15 u16 u17 u18 u19 u20 u21 u22 u23 u24 u25 u26 u27 u28 u29 u30 u31 u32 u33 u34 u35 u36 u37 u38 u39 u40 u41 u42 u43 u44 u45 u46 u47 u48 u49 u50 u51 u52 u53 u54 u55:Value,a'={ tmps:=#[.pointer (some ⟨g,0,none⟩),.slice A m c2,u2,u3,u4,s5,s6,u7,u8,u9,u10,u11,u12,u13,u14,u15,u16,u17,u18,u19,u20,u21,u22,u23,u24,u25,u26,u27,u28,u29,u30,u31,u32,u33,u34,u35,u36,u37,u38,u39,u40,u41,u42,u43,u44,u45,u46,u47,u48,u49,u50,u51,u52,u53,u54,u55],defers:=[] }
theorem wp_scope_back {P:Program} {a:Act} {w:World} {Q:Exit→Act→World→Prop} {c rest:Code} (l:Nat) (J:Act→World→Prop) (μ:Act→World→Nat) (hf:findLabel c l=some (Code.skip.seq rest))
  (first:(∀ a w,J a w→rest.wp P (Exit.jump l J Q) a w)→c.wp P (Exit.jump l J Q) a w)
  (pass:∀ a w,J a w→rest.wp P (Exit.jump l (fun a' w'=>J a' w'∧μ a' w'<μ a w) Q) a w):(Code.scope c).wp P Q a w:=by
 refine wp_scope_jumps l J μ hf (first fun a w h=>Code.wp_mono (fun e a' w' hq=>?_) (pass a w h)) (fun a w h=>wp_seq (wp_skip (pass a w h)))
 cases e <;> first | exact hq | exact ⟨hq.1,hq.2.1⟩
structure Inv (base:Nat) (w0:World) (g:Nat) (a:Option Addr) (n c:Nat) (lt:Bs) (Lf:Option Addr) (ln lc:Nat) (q:Bs) (R:Option Addr) (rn rc:Nat) (es:List Ent) (w:World):Prop where
 mid:Mid base w Lf ln lc q
 row:FrRow w0.heap.size w R rn rc es
 tells:∀ fs r,Tells q fs r→Tells lt (kl es ++ fs) r
 few:5 * rn+ln≤lt.length
 new:Off (fun b=>b<w0.heap.size) es
 offL:Off (In Lf) es
 offR:Off (In R) es
 sep:∀ p,R=some p→¬ In Lf p.block
 from_:∀ p,Lf=some p→In a p.block∨w0.heap.size≤p.block
 head:w.heap[g]?=some (.cells #[.slice a n c,.int .i64 (0:Nat)] 129 (0,0))
 only:Only (In a) w0 w
 caps:∀ e∈es,e.n≤e.c
section
variable {base g n c m e:Nat} {w w':World} {a:Option Addr} {l:Bs}
theorem feed_lt {w:World} {g:Nat} {o:Obj} (h:w.heap[g]?=some o):g<w.heap.size:=by
 rcases Nat.lt_or_ge g w.heap.size with h' | h'
 ·exact h'
 ·rw [Array.getElem?_eq_none h'] at h; cases h
theorem Fed.c0 (h:Fed base w g a n c l e):w.cell? ⟨g,0,none⟩=some (.slice a n c):=by rw [cell_of_row _ _ _ _ _ _ h.head]; rfl
theorem Fed.c1 (h:Fed base w g a n c l e):w.cell? ⟨g,1,none⟩=some (.int .i64 e):=by rw [cell_of_row _ _ _ _ _ _ h.head]; rfl
theorem Fed.only {S:Nat→Prop} (h:Fed base w g a n c l e) (hO:Only S w w') (h1:¬ S g) (h2:∀ p,a=some p→¬ S p.block):Fed base w' g a n c l e:=
 ⟨(hO.block g (feed_lt h.head) h1).trans h.head,h.low,h.mid.only hO h2,h.apart⟩
theorem Fed.mono {base':Nat} (h:Fed base w g a n c l e) (hb:base'≤base):Fed base' w g a n c l e:=⟨h.head,Nat.le_trans hb h.low,h.mid.mono hb,h.apart⟩
def PushGives (base:Nat) (w:World) (g:Nat) (a:Option Addr) (lt:Bs) (e:Ending) (w':World):Prop:=
 ∃ R rn rc es r a2 n2 c2,e = .returned (.slice R rn rc)∧Tells lt (kl es) r∧FrRow w.heap.size w' R rn rc es∧Fed base w' g a2 n2 c2 (keep r) (broke r) ∧
  Off (fun b=>b<w.heap.size∨In a2 b) es∧(∀ p,R=some p→¬ In a2 p.block)∧(∀ p,a2=some p→In a p.block∨w.heap.size≤p.block)∧Only (fun b=>b=g∨In a b) w w'∧∀ e∈es,e.n≤e.c
theorem In.cut {a:Option Addr} {c k b:Nat} (h:In (cutA a c k) b):In a b:=by
 obtain ⟨p,hp,rfl⟩:=h;obtain ⟨q,h1,h2⟩:=cutA_block hp;exact ⟨q,h1,h2⟩
section
variable {base0 g0 n0 c0 ln lc rn rc:Nat} {w0 w1 w5 w6:World} {a0 Lf R:Option Addr} {lt q:Bs} {es:List Ent}
theorem Inv.below (h:Inv base0 w0 g0 a0 n0 c0 lt Lf ln lc q R rn rc es w1) (hb:Below w1.heap.size w1 w5):Inv base0 w0 g0 a0 n0 c0 lt Lf ln lc q R rn rc es w5:=
 ⟨h.mid.below hb,h.row.below hb,h.tells,h.few,h.new,h.offL,h.offR,h.sep,h.from_,(hb.block g0 (feed_lt h.head)).trans h.head,h.only.trans ((only_of_below hb).mono fun _ _ h=>h.elim),h.caps⟩
theorem Inv.next (h:Inv base0 w0 g0 a0 n0 c0 lt Lf ln lc q R rn rc es w1) (hg:g0<w0.heap.size) (he:err q=0) (hb:Below w1.heap.size w1 w5) {A3:Option Addr} {c3:Nat}
  (hy:Bytes w5 w5.heap.size A3 (Fr.get q).body.length (Fr.get q).body) (hf:0<(Fr.get q).body.length→∀ p,A3=some p→w1.heap.size≤p.block) (hcp:(Fr.get q).body.length≤c3) {R6:Option Addr} {rc6:Nat}
  (hr:FrRow w0.heap.size w6 R6 (rn+1) rc6 (es ++ [⟨(Fr.get q).k,A3,(Fr.get q).body.length,c3,(Fr.get q).body⟩])) (ho:Only (In R) w5 w6) (hp6:∀ p,R6=some p→In R p.block∨w5.heap.size≤p.block) :
  Inv base0 w0 g0 a0 n0 c0 lt (cutA Lf lc (Fr.get q).n) (ln - (Fr.get q).n) (lc - (Fr.get q).n) (q.drop (Fr.get q).n) R6 (rn+1) rc6 (es ++ [⟨(Fr.get q).k,A3,(Fr.get q).body.length,c3,(Fr.get q).body⟩]) w6:=by
 obtain ⟨hn5,hnq⟩:=get_n5 he;rw [h.mid.len] at hnq;have hb5:=hb.size;have hw1:=h.only.size
 have hRL:∀ p,Lf=some p→¬ In R p.block:=fun p hp ⟨r,hr,hrp⟩=>h.sep r hr ⟨p,hp,hrp.symm⟩
 have hentry:∀ e∈[(⟨(Fr.get q).k,A3,(Fr.get q).body.length,c3,(Fr.get q).body⟩:Ent)],0<e.n→∀ p,e.A=some p→w1.heap.size≤p.block∧p.block<w5.heap.size:=by
  intro e hm hn p hp;rw [List.mem_singleton] at hm;subst hm;refine ⟨hf hn p hp,?_⟩;obtain ⟨b,off,e1,hlt,_⟩:=hy.2 hn;rw [show A3=some p from hp] at e1
  injection e1 with e1
  subst e1;exact hlt
 have hold:∀ e∈es,0<e.n→∀ p,e.A=some p→p.block<w1.heap.size:=by
  intro e hm hn p hp;obtain ⟨b,off,e1,hlt,_⟩:=(h.row.ents e hm).2 hn;rw [hp] at e1
  injection e1 with e1
  subst e1;exact hlt
 refine ⟨((h.mid.below hb).only ho hRL).cut hnq,hr,fun fs r ht=>?_,by have:=h.few; omega,?_,?_,?_,fun p hp hL=>?_,fun p hp=>?_,?_,?_,fun e he=>?_⟩
 ·rw [rec_fr]
  exact h.tells _ r (Tells.next q he fs r ht)
 ·exact Off.app h.new fun e hm hn p hp hlt=>by have:=(hentry e hm hn p hp).1; omega
 ·refine Off.app (h.offL.mono fun b hb=>hb.cut) fun e hm hn p hp hL=>?_
  obtain ⟨r,hr1,hr2⟩:=hL.cut;have h1:=(hentry e hm hn p hp).1;have h2:=(h.mid.lt hr1).2;omega
 ·refine Off.app (fun e hm hn p hp hR=>?_) fun e hm hn p hp hR=>?_
  ·obtain ⟨r,hr1,hr2⟩:=hR
   have h1:=hold e hm hn p hp
   rcases hp6 r hr1 with h2 | h2
   ·exact h.offR e hm hn p hp (hr2 ▸ h2)
   ·omega
  ·obtain ⟨r,hr1,hr2⟩:=hR
   obtain ⟨h1,h2⟩:=hentry e hm hn p hp
   rcases hp6 r hr1 with ⟨x,hx,hxr⟩ | h3
   ·have:=(h.row.lt hx).2
    omega
   ·omega
 ·obtain ⟨r,hr1,hr2⟩:=hL.cut
  rcases hp6 p hp with ⟨x,hx,hxr⟩ | h2
  ·exact h.sep x hx ⟨r,hr1,by omega⟩
  ·have:=(h.mid.lt hr1).2
   omega
 ·obtain ⟨r,hr1,hr2⟩:=cutA_block hp
  rcases h.from_ r hr1 with h1 | h1
  ·exact .inl (hr2 ▸ h1)
  ·exact .inr (by omega)
 ·have hgR:¬ In R g0:=fun ⟨r,hr,hrg⟩=>by have:=(h.row.lt hr).1; omega
  exact (ho.block g0 (by omega) hgR).trans ((hb.block g0 (by omega)).trans h.head)
 ·have t1:Only (fun b=>In a0 b∨w0.heap.size≤b) w0 w1:=h.only.mono fun _ _ h=>.inl h
  have t2:Only (fun b=>In a0 b∨w0.heap.size≤b) w1 w5:=(only_of_below hb).mono fun _ _ h=>h.elim
  have t3:Only (fun b=>In a0 b∨w0.heap.size≤b) w5 w6:=ho.mono fun b _ ⟨r,hr,hrb⟩=>.inr (by have:=(h.row.lt hr).1; omega)
  exact ((t1.trans t2).trans t3).mono fun b hb hS=>by
   rcases hS with h1 | h1
   ·exact h1
   ·omega
 ·rcases List.mem_append.1 he with h1 | h1
  ·exact h.caps e h1
  ·rw [List.mem_singleton.1 h1]; exact hcp
theorem Inv.fin (h:Inv base0 w0 g0 a0 n0 c0 lt Lf ln lc q R rn rc es w1) (hg:g0<w0.heap.size) (hlow:base0≤g0) (he:err q≠0) {x:Option Addr} {xn xc:Nat} (hm:Mid base0 w1 x xn xc (keep q))
  (hxo:Off (In x) es) (hxs:∀ p,R=some p→¬ In x p.block) (hxf:∀ p,x=some p→In a0 p.block∨w0.heap.size≤p.block) (hxg:¬ In x g0)
  (hh:w6.heap[g0]?=some (.cells #[.slice x xn xc,.int .i64 (broke q)] 129 (0,0))) (ho:Only (fun b=>b=g0) w1 w6):PushGives base0 w0 g0 a0 lt (.returned (.slice R rn rc)) w6:=by
 refine ⟨R,rn,rc,es,q,x,xn,xc,rfl,?_,h.row.only ho (fun p hp hpg=>by have:=(h.row.lt hp).1; omega) (h.new.mono fun b hb=>by omega),⟨hh,hlow,hm.only ho (fun p hp hpg=>hxg ⟨p,hp,hpg⟩),hxg⟩,?_,hxs,hxf,?_,h.caps⟩
 ·have:=h.tells [] q (.stop q he)
  rwa [List.append_nil] at this
 ·intro e hm hn p hp hS
  rcases hS with h1 | h1
  ·exact h.new e hm hn p hp h1
  ·exact hxo e hm hn p hp h1
 ·exact (h.only.mono fun _ _ h=>.inr h).trans (ho.mono fun _ _ h=>.inl h)
end
theorem feed_new (w:World):Calls Tryz.prog 42 #[] w fun e w'=>e = .returned (.pointer (some ⟨w.heap.size,0,none⟩))∧Fed w.heap.size w' w.heap.size none 0 0 [] 0∧Below w.heap.size w w':=by
 have H:∀ W:World,W=w.alloc (.cells #[.slice none 0 0,.int .i64 (0:Nat)] 129)→Fed w.heap.size W w.heap.size none 0 0 [] 0∧Below w.heap.size w W:=by
  rintro W rfl;exact ⟨⟨heap_alloc_new _ _,Nat.le_refl _,Mid.nil _ _,fun ⟨_,h,_⟩=>by cases h⟩,(Below.refl _ _).alloc (Nat.le_refl _) _⟩
 go_enter Tryz.func42,Tryz.ntmps42
 go_wp2;go_ret;exact ⟨rfl,H _ rfl⟩
theorem feed_err (w:World) (h:Fed base w g a n c l e):Calls Tryz.prog 70 #[.pointer (some ⟨g,0,none⟩)] w fun r w'=>r = .returned (.int .i64 e)∧w=w':=by
 have hk:=h.c1
 go_enter Tryz.func70,Tryz.ntmps70
 go_wp2;go_ret;exact ⟨rfl,rfl⟩
theorem push_dead (w:World) (h:Fed base w g a n c l e) (he:e≠0) (A:Option Addr) (m c2:Nat) :
  Calls Tryz.prog 68 #[.pointer (some ⟨g,0,none⟩),.slice A m c2] w fun r w'=>r = .returned (.slice none 0 0)∧w=w':=by
 have hk:=h.c1
 have hd:((e:Int) != 0)=true:=by simp; omega
 go_enter Tryz.func68,Tryz.ntmps68
 go_wp2
 go_step3
 go_wp2;rw [Exit.noGoto_ret];go_ret;exact ⟨rfl,rfl⟩
def lenw:Value→Nat
 | .slice _ m _=>m
 | _=>0
theorem push_live (w:World) (h:Fed base w g a n c l 0) (B:Nat) (A:Option Addr) (m c2:Nat) (t:Bs) (ht:Bytes w B A m t) (hbase:base≤w.heap.size) (hm:n+m≤1000000000) :
    Calls Tryz.prog 68 #[.pointer (some ⟨g,0,none⟩),.slice A m c2] w (PushGives base w g a (l ++ t)):=by
  have hk:=h.c1;have hk0:=h.c0
  have hll:(l ++ t).length=n+m:=by rw [List.length_append,h.mid.len,ht.1]
  have HF:=lj h;have HT:=lj ht;have HLL:=lj hll;clear h ht hll
  go_enter Tryz.func68,Tryz.ntmps68
  go_wp2
  refine wp_scope_back 0 (fun a' w'=>∃ Lf ln lc q R rn rc es,JF g A m c2 (.slice R rn rc) (.slice Lf ln lc) a'∧Inv base w g a n c (l ++ t) Lf ln lc q R rn rc es w') (fun a' _=>(lenw (a'.tmps.getD 6 undef))) rfl ?first ?pass
  case first =>
    intro hp
    go_wp2_with (first
      | (at_builtin
         refine wpList_mid rfl (.tmp 18) (.tmp 19) rfl base rfl HF.out.mid rfl HT.out (by omega) hbase ?_;intro A2 c3 w2 hm2 ho2 hp2;have HM:=lj hm2;have HO:=lj ho2;have HP:=lj hp2
         clear hm2 ho2 hp2))
    go_step3
    rename_i hK
    refine hK _ _ (hp _ _ ⟨A2,n+m,c3,l ++ t,none,0,0,[],?_,?_⟩)
    · unfold JF
      repeat apply Exists.intro
      rfl
    · exact ⟨HM.out,FrRow.nil _ _,fun fs r h=>h,by rw [HLL.out]; omega,(fun _ h=>by cases h),(fun _ h=>by cases h),(fun _ h=>by cases h),(fun p hp=>by cases hp),HP.out,(HO.out.block g (feed_lt HF.out.head) HF.out.apart).trans HF.out.head,HO.out,fun _ h=>by cases h⟩
  case pass =>
    rintro a' w1 ⟨Lf,ln,lc,q,R,rn,rc,es,hJ,hI⟩;unfold JF at hJ;obtain ⟨u2,u3,u4,u7,u8,u9,u10,u11,u12,u13,u14,u15,u16,u17,u18,u19,u20,u21,u22,u23,u24,u25,u26,u27,u28,u29,u30,u31,u32,u33,u34,u35,u36,u37,u38,u39,u40,u41,u42,u43,u44,u45,u46,u47,u48,u49,u50,u51,u52,u53,u54,u55,rfl⟩:=hJ;have HI:=lj hI;clear hI
    dsimp only
    have hlc:=HI.out.mid.cap;have hln:=HI.out.few;rw [HLL.out] at hln;have hwz:=HI.out.only.size;clear hk hk0
    go_wp2_with fail
    refine (get_anyF Lf ln lc w1.heap.size q w1 HI.out.mid.bytes (Nat.le_refl _) hlc (by omega)).mono ?_;rintro e w3 ⟨A3,c3,rfl,hby,hb3,hfresh,hcp⟩;have HCp:=lj hcp;have HB3:=lj hb3;have HBy:=lj hby;have HFr:=lj hfresh;have HI3:=lj (HI.out.below hb3);have hsz3:=hb3.size;have hgw:g<w.heap.size:=feed_lt HF.out.head;clear hby hb3 hfresh hcp
    by_cases he:err q=0
    · obtain ⟨hn5,hnq⟩:=get_n5 he
      rw [HI.out.mid.len] at hnq;have hge:=get_err q;rw [he] at hge;rw [hge]
      have HNext:=lj (fun (w5 w6:World) (hb:Below w1.heap.size w1 w5) (hy:Bytes w5 w5.heap.size A3 (Fr.get q).body.length (Fr.get q).body) (R6:Option Addr) (rc6:Nat)
        (hr:FrRow w.heap.size w6 R6 (rn+1) rc6 (es ++ [⟨(Fr.get q).k,A3,(Fr.get q).body.length,c3,(Fr.get q).body⟩])) (ho:Only (In R) w5 w6) (hp6:∀ p,R6=some p→In R p.block∨w5.heap.size≤p.block)=>HI.out.next hgw he hb hy HFr.out HCp.out hr ho hp6)
      have HOld:=lj (fun (e:Ent) (hm:e∈es)=>(HI.out.row.ents e hm));clear hge he;generalize Fr.get q=G at *
      have hal:∀ (w:World) o,Below w.heap.size w (w.alloc o):=fun w o=>(Below.refl _ _).alloc (Nat.le_refl _) o
      have hN1:(G.n:Int)≤(ln:Int):=by omega
      have hsrc:Fsrc ((w3.alloc (.cells #[.int .u8 G.k.toNat,.slice A3 G.body.length c3] 96)).alloc (.cells #[.int .u8 G.k.toNat,.slice A3 G.body.length c3] 96)) (some ⟨w3.heap.size+1,0,none⟩) 1 [⟨G.k,A3,G.body.length,c3,G.body⟩]:=by
        have:=fsrc_one (w3.alloc (.cells #[.int .u8 G.k.toNat,.slice A3 G.body.length c3] 96)) ⟨G.k,A3,G.body.length,c3,G.body⟩ #[.int .u8 G.k.toNat,.slice A3 G.body.length c3] rfl (0,0)
        rwa [show (w3.alloc (.cells #[.int .u8 G.k.toNat,.slice A3 G.body.length c3] 96)).heap.size=w3.heap.size+1 by simp] at this
      have hb5:Below w3.heap.size w3 ((w3.alloc (.cells #[.int .u8 G.k.toNat,.slice A3 G.body.length c3] 96)).alloc (.cells #[.int .u8 G.k.toNat,.slice A3 G.body.length c3] 96)):=((Below.refl _ _).alloc (Nat.le_refl _) _).alloc (by simp) _;have hy5:=(HBy.out.below hb5).more hb5.size
      have hOff:Off (In R) (es ++ [⟨G.k,A3,G.body.length,c3,G.body⟩]):=by
        refine Off.app HI.out.offR ?_;intro e he hn p hp hR;rw [List.mem_singleton] at he;subst he;obtain ⟨r,hr,hrp⟩:=hR;have h1:=HFr.out hn p hp;have h2:=(HI.out.row.lt hr).2;omega
      have HSrc:=lj hsrc;have HB5:=lj hb5;have HY5:=lj hy5;have HOff:=lj hOff;clear hsrc hb5 hy5 hOff
      go_wp2_with (first
        | (at_builtin
           refine wpList_fapp rfl (.tmp 37) (.tmp 39) rfl rfl (HI3.out.row.below HB5.out) rfl HSrc.out ?ents HOff.out (by omega) (Nat.le_trans (Nat.le_trans hwz hsz3) HB5.out.size) ?_
           case ents =>
             intro e he;rw [List.mem_singleton] at he;subst he;exact HY5.out
           intro A6 c6 w6 hr6 ho6 hp6;have HN:=lj (HNext.out _ w6 (Below.trans HB3.out (HB5.out.mono hsz3)) HY5.out A6 c6 hr6 ho6 hp6)
           clear hr6 ho6 hp6))
      all_goals
        have HN2:=HN.out;unfold cutA at HN2
        first | rw [if_neg h] at HN2 | rw [if_pos h,h,Nat.sub_self] at HN2
        go_step3
        refine ⟨rfl,⟨_,_,_,_,_,_,_,_,?_,HN2⟩,?_⟩
        · unfold JF
          repeat apply Exists.intro
          rfl
        · show ln - G.n<ln
          omega
    · have hg:=get_no rfl he
      rw [hg];have HFin:=lj (fun (x:Option Addr) (xn xc:Nat) (w5 w6:World) (hI:Inv base w g a n c (l ++ t) Lf ln lc q R rn rc es w5) (hm:Mid base w5 x xn xc (keep q))=>hI.fin (w6:=w6) hgw HF.out.low he hm);have hI4:=HI3.out.below ((Below.refl _ _).alloc (Nat.le_refl _) (.cells #[.int .u8 0,.slice A3 0 c3] 96));have HI4:=lj hI4;have hfree:(w3.alloc (.cells #[.int .u8 0,.slice A3 0 c3] 96)).frozen? ⟨g,0,none⟩=false:=frozen_of_row _ _ _ _ _ hI4.head;have hfree1:(w3.alloc (.cells #[.int .u8 0,.slice A3 0 c3] 96)).frozen? ⟨g,1,none⟩=false:=frozen_of_row _ _ _ _ _ hI4.head
      have hcell0:(w3.alloc (.cells #[.int .u8 0,.slice A3 0 c3] 96)).cell? ⟨g,0,none⟩=some (.slice a n c):=by rw [cell_of_row _ _ _ _ _ _ hI4.head]; rfl
      have hcell1:(w3.alloc (.cells #[.int .u8 0,.slice A3 0 c3] 96)).cell? ⟨g,1,none⟩=some (.int .i64 (0:Nat)):=by rw [cell_of_row _ _ _ _ _ _ hI4.head]; rfl
      clear hI4
      go_upto_region 6 with fail
      generalize w3.alloc (.cells #[.int .u8 0,.slice A3 0 c3] 96)=W at *;have hWw:w.heap.size≤W.heap.size:=HI4.out.only.size;have hbg:base≤g:=HF.out.low;have hgA:¬ In a g:=HF.out.apart
      by_cases h5:err q=5
      · have hkp:=keep_short h5
        have HK:=lj hkp
        have hd:((err q:Int) == 5)=true:=by simp; omega
        have hd0:((err q:Int) == 0)=false:=by simp; omega
        clear hkp
        by_cases hrn:0<rn
        · go_wp2_with fail
          refine (clone_any Lf ln lc W.heap.size q W HI4.out.mid.bytes (Nat.le_refl _) (by omega)).mono ?_;rintro e w5 ⟨A5,c5,rfl,hown,hb5⟩;have hI5:=HI4.out.below hb5;have HI5:=lj hI5;have HO5:=lj hown;have hfree5:w5.frozen? ⟨g,0,none⟩=false:=frozen_of_row _ _ _ _ _ hI5.head
          have hcell5:w5.cell? ⟨g,0,none⟩=some (.slice a n c):=by rw [cell_of_row _ _ _ _ _ _ hI5.head]; rfl
          clear hown hb5 hI5;go_wp2
          try simp only [Exit.jump]
          go_ret
          have hnew:∀ p,A5=some p→W.heap.size≤p.block:=fun p hp=>(HO5.out.mid.lt hp).1
          refine HFin.out A5 ln c5 w5 _ HI5.out (by rw [HK.out.1]; exact HO5.out.mid.mono (by omega)) ?_ ?_ (fun p hp=>.inr (by have:=hnew p hp; omega)) ?_ ?_ ((Only.refl (fun b=>b=g) w5).setCell rfl _)
          · rintro e he hn p hp ⟨r,hr,hrp⟩
            obtain ⟨b,off,e1,hlt,_⟩:=(HI4.out.row.ents e he).2 hn;rw [hp] at e1
            injection e1 with e1
            subst e1;have:=hnew r hr;simp at hrp;omega
          · rintro p hp ⟨r,hr,hrp⟩
            have h1:=hnew r hr;have h2:=(HI4.out.row.lt hp).2;omega
          · rintro ⟨r,hr,hrp⟩
            have h1:=hnew r hr;omega
          · rw [heap_setCell_same w5 g 0 _ _ _ HI5.out.head,HK.out.2]
            rfl
        · obtain rfl:rn=0:=by omega
          go_wp2
          try simp only [Exit.jump]
          go_ret;refine HFin.out Lf ln lc W _ HI4.out (by rw [HK.out.1]; exact HI4.out.mid) HI4.out.offL HI4.out.sep HI4.out.from_ ?_ ?_ ((Only.refl (fun b=>b=g) W).setCell rfl _)
          · rintro ⟨r,hr,hrp⟩
            rcases HI4.out.from_ r hr with h1 | h1
            · exact hgA (hrp ▸ h1)
            · omega
          · rw [heap_setCell_same W g 0 _ _ _ HI4.out.head,HK.out.2]
            rfl
      · have hkp:=keep_else h5
        have HK:=lj hkp
        have hd:((err q:Int) == 5)=false:=by simp; omega
        have hd0:((err q:Int) == 0)=false:=by simp; omega
        clear hkp;go_wp2
        try simp only [Exit.jump]
        go_ret;refine HFin.out none 0 0 W _ HI4.out (by rw [HK.out.1]; exact Mid.nil _ _) ?_ ?_ ?_ ?_ ?_ (((Only.refl (fun b=>b=g) W).setCell rfl _).setCell rfl _)
        · rintro e he hn p hp ⟨r,hr,_⟩
          cases hr
        · rintro p hp ⟨r,hr,_⟩
          cases hr
        · intro p hp
          cases hp
        · rintro ⟨r,hr,_⟩
          cases hr
        · rw [heap_setCell_same _ g 1 _ _ _ (heap_setCell_same W g 0 _ _ _ HI4.out.head),HK.out.2]
          rfl
end
end
section
open Go.RowKit
open Fr
def FS (g:Nat) (a:Option Addr) (b:Nat):Prop:=b=g∨In a b
structure St (base:Nat) (w:World) (g:Nat) (l:Bs) (e:Nat) (ra:Option Addr) (rn rc:Nat) (X:Bs) (R:Option Addr) (fn fc:Nat) (es:List Ent) (a:Option Addr) (n c:Nat):Prop where
 fed:Fed base w g a n c l e
 all:Mid base w ra rn rc X
 got:FrRow base w R fn fc es
 s1:∀ b,FS g a b→¬ In ra b
 s2:∀ b,FS g a b→¬ In R b
 s3:∀ b,In ra b→¬ In R b
 s4:Off (FS g a) es
 s5:Off (In ra) es
 s6:Off (In R) es
section
variable {base g n c e rn rc fn fc:Nat} {w w':World} {l X:Bs} {ra R a:Option Addr} {es:List Ent}
structure Told (base:Nat) (w0 w:World) (g:Nat) (l:Bs) (e:Nat) (ra:Option Addr) (rn rc:Nat) (X:Bs) (R:Option Addr) (fn fc:Nat) (es:List Ent) (a:Option Addr) (n c:Nat) (R2:Option Addr) (f2 c2:Nat) (es2:List Ent):Prop where
 st:St base w g l e ra rn rc X R fn fc es a n c
 row:FrRow w0.heap.size w R2 f2 c2 es2
 off2:Off (fun b=>b<w0.heap.size∨FS g a b) es2
 old:∀ b,In ra b∨In R b→b<w0.heap.size
 size:w0.heap.size≤w.heap.size
end
end
end Go.Proofs.YtdpagmcickkbmaaGreatDoor
