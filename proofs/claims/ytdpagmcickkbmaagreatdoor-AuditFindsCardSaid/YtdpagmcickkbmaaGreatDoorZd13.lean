/- PLxp PLxs PLxi PLxj PCr -/
import Derived.Deep.DeepCutAuto
import Derived.Test.YtdpagmcickkbmaaGreatDoorZd09
namespace Go.Proofs.YtdpagmcickkbmaaGreatDoor
set_option maxRecDepth 100000
open Go.Lib renaming hid → lj
section
open Go.RowKit
open Lx
def sv (b:Bs):Value:=.string (str b)
def strs (ss:List Bs):List Value:=ss.map sv
theorem strs_one (ss:List Bs):∀ v∈strs ss,v.oneCell'=true:=by
 intro v hv;simp only [strs,List.mem_map] at hv;obtain ⟨b,_,rfl⟩:=hv;rfl
theorem strs_app (a b:List Bs):strs (a ++ b)=strs a ++ strs b:=by simp [strs]
theorem strs_len (a:List Bs):(strs a).length=a.length:=by simp [strs]
theorem strs_get (ss:List Bs) (j:Nat) (h:j<ss.length):(strs ss)[j]?=some (sv (ss.getD j [])):=by
 simp [strs,List.getElem?_eq_getElem h,List.getD_eq_getElem?_getD]
theorem elem_str:Elem 157 9 (.string (str [])) 16:=⟨Tryz.underlying157,by
 obtain ⟨i,h1,h2,h3,h4⟩:=(info_parts (by kernel_rfl):∃ i,Tryz.prog.info? 9=some i∧i.zero=some (.string ⟨#[]⟩)∧i.size=1∧i.bytes=16)
 exact ⟨i,h1,h2,h3,h4⟩,rfl,by omega⟩
structure KO (base:Nat) (w:World) (ka:Option Addr) (kn kc:Nat) (K:Bs) (ra:Option Addr) (rn rc:Nat) (C:List Bs):Prop where
 keys:Mid base w ka kn kc K
 cmds:Rw base w ra rn rc (strs C)
 apart:∀ b,In ka b→¬ In ra b
section
variable {base kn kc rn rc:Nat} {w w':World} {ka ra:Option Addr} {K:Bs} {C:List Bs}
theorem KO.below (h:KO base w ka kn kc K ra rn rc C) (hb:Below w.heap.size w w'):KO base w' ka kn kc K ra rn rc C:=⟨h.keys.below hb,h.cmds.below hb,h.apart⟩
theorem KO.key (h:KO base w ka kn kc K ra rn rc C) {A2:Option Addr} {n2 c2:Nat} {K2:Bs} (hm:Mid base w' A2 n2 c2 K2) (ho:Only (In ka) w w') (hp:∀ p,A2=some p→In ka p.block∨w.heap.size≤p.block) :
  KO base w' A2 n2 c2 K2 ra rn rc C:=by
 refine ⟨hm,h.cmds.only ho (fun b hb hk=>h.apart b hk hb),?_⟩;rintro b ⟨p,hp2,rfl⟩ hb
 rcases hp p hp2 with h1 | h1
 ·exact h.apart _ h1 hb
 ·have:=(h.cmds.inlt hb).2; omega
theorem KO.cmd (h:KO base w ka kn kc K ra rn rc C) {A2:Option Addr} {n2 c2:Nat} {C2:List Bs} (hm:Rw base w' A2 n2 c2 (strs C2)) (ho:Only (In ra) w w') (hp:∀ b,In A2 b→In ra b∨w.heap.size≤b) :
  KO base w' ka kn kc K A2 n2 c2 C2:=by
 refine ⟨h.keys.only ho (fun p hp hr=>h.apart _ ⟨p,hp,rfl⟩ hr),hm,?_⟩;intro b hb hb2
 rcases hp b hb2 with h1 | h1
 ·exact h.apart _ hb h1
 ·have:=(h.keys.inlt hb).2; omega
end
structure PI (base:Nat) (w0 w:World) (l:Bs) (i:Nat) (ka:Option Addr) (kn kc:Nat) (ra:Option Addr) (rn rc:Nat):Prop where
 ko:KO base w ka kn kc (K l i) ra rn rc (C l i)
 bel:Below base w0 w
 room:base≤w.heap.size
 kle:kn≤i
 rle:rn≤i
theorem at_small (l:Bs) (i:Nat):(at_ l i).toNat<256:=(at_ l i).isLt
theorem lit1 (w:World) (x:BitVec 8) (v:Int) (hv:v=x.toNat):Bytes (w.alloc (.cells #[.int .u8 v] 5)) (w.heap.size+1) (some ⟨w.heap.size,0,none⟩) 1 [x]:=by
 subst hv;exact one_new w x
theorem lits (w:World) (x:Bs) (v:Value) (hv:v=sv x):Vals (w.alloc (.cells #[v] 9)) (w.heap.size+1) (some ⟨w.heap.size,0,none⟩) 1 [sv x]:=by
 subst hv;exact Vals.lit w [sv x] 9 (strs_one [x]) (0,0) _ rfl
theorem below_lit (w:World) (o:Obj):Below w.heap.size w (w.alloc o):=(Below.refl _ _).alloc (Nat.le_refl _) o
end
section
open Go.RowKit
open Lx
theorem Vals.at {w:World} {B n:Nat} {a:Option Addr} {A:List Bs} (h:Vals w B a n (strs A)) (hn:0<n):∃ b off,a=some ⟨b,off,none⟩∧b<B∧∀ r,r<n→w.cell? ⟨b,off+r,none⟩=some (.string (str (A.getD r []))):=by
 obtain ⟨b,off,e,hb,hc⟩:=h.2.2 hn;exact ⟨b,off,e,hb,fun r hr=>hc r _ (strs_get A r (by have:=h.1; rw [strs_len] at this; omega))⟩
end
section
open Go.RowKit
open Lx
def LV (q:Nat) (a:Option Addr) (n c:Nat):Array Value:=#[.int .i64 q,.slice a n c]
theorem Mid.inlt' {base n c:Nat} {w:World} {a:Option Addr} {l:Bs} (h:Mid base w a n c l) {b:Nat} (hb:In a b):b<w.heap.size:=(h.inlt hb).2
def EscGives (g:Nat) (a:Option Addr) (n c:Nat) (w:World) (q:Nat) (r:Bool) (e:Ending) (w':World):Prop:=
 e = .returned (.bool r)∧Bx g w' (LV q a n c)∧Only (fun b=>b=g) w w'
theorem xescape_any (g n c:Nat) (a:Option Addr) (w:World) (h:Bx g w (LV 1 a n c)) (v:Int) (q:Nat) (r:Bool) (hv:(v=58∧q=2∧r=false)∨(v=29∧q=0∧r=true)∨(v≠58∧v≠29∧q=0∧r=false)) :
  Calls Tryz.prog 124 #[.pointer (some ⟨g,0,none⟩),.int .u8 v] w (EscGives g a n c w q r):=by
 have h0:=h.cell 0 _ rfl;have hf:=h.free 0;have HX:=lj h;clear h
 rcases hv with ⟨rfl,rfl,rfl⟩ | ⟨rfl,rfl,rfl⟩ | ⟨h1,h2,rfl,rfl⟩
 ·go_enter Tryz.func124,Tryz.ntmps124
  go_wp2;go_ret;exact ⟨rfl,(HX.out.set 0 _).set 0 _,(Bx.only g w 0 _).trans (Bx.only g _ 0 _)⟩
 ·go_enter Tryz.func124,Tryz.ntmps124
  go_wp2;go_ret;exact ⟨rfl,HX.out.set 0 _,Bx.only g w 0 _⟩
 ·have h3:(v == 58)=false:=by simp [h1]
  have h4:(v == 29)=false:=by simp [h2]
  go_enter Tryz.func124,Tryz.ntmps124
  go_wp2;go_ret;exact ⟨rfl,HX.out.set 0 _,Bx.only g w 0 _⟩
def AddGives (g:Nat) (a:Option Addr) (w:World) (l:Bs) (e:Ending) (w':World):Prop:=
 ∃ a2 n2 c2,e = .returned (.tuple #[])∧Bx g w' (LV 2 a2 n2 c2)∧Mid 0 w' a2 n2 c2 l∧Only (fun b=>b=g∨In a b) w w'∧∀ b,In a2 b→In a b∨w.heap.size≤b
theorem xadd_more (g n c:Nat) (a:Option Addr) (l:Bs) (w:World) (h:Bx g w (LV 2 a n c)) (hm:Mid 0 w a n c l) (hg:¬ In a g) (hn:n≤80) (x:BitVec 8) (v:Int) (hv:v=x.toNat) :
    Calls Tryz.prog 126 #[.pointer (some ⟨g,0,none⟩),.int .u8 v] w (AddGives g a w (l ++ [x])):=by
  have h1:w.cell? ⟨g,1,none⟩=some (.slice a n c):=h.cell 1 _ rfl;have hf:=h.free 1;have hroom:=h.room;have HX:=lj h;have HM:=lj hm;have HV:=lj hv;have HG:=lj hg;clear h hm hv hg
  go_enter Tryz.func126,Tryz.ntmps126
  go_wp2_with (first
    | (at_builtin
       refine wpList_mid rfl (.tmp 14) (.tmp 16) rfl 0 rfl (HM.out.below (below_lit _ _)) rfl (lit1 w x v HV.out) (by omega) (by omega) ?_;intro A2 c2 w2 hm2 ho2 hp2;have HX2:=lj ((HX.out.go (below_lit w _) (by omega)).keep ho2 HG.out);have hf2:=HX2.out.free 1;have hk2:w2.cell? ⟨g,1,none⟩=some (.slice a n c):=HX2.out.cell 1 _ rfl;have HM2:=lj hm2;have HO2:=lj ((only_of_below (below_lit w _)).mono (fun _ _ h=>h.elim) |>.trans (ho2.mono (T:=fun b=>b=g∨In a b) fun _ _ h=>.inr h));have HP2:=lj hp2
       clear hm2 ho2 hp2))
  refine bodyPost_ret (v:=.tuple #[]) (by simp [results,Tryz.results126,go_sem]) rfl ?_
  have hsz:w.heap.size≤(w.alloc (.cells #[.int .u8 v] 5)).heap.size:=by simp
  have hA:∀ b,In A2 b→In a b∨w.heap.size≤b:=by
    rintro b ⟨p,hp,rfl⟩
    rcases HP2.out p hp with h | h
    · exact .inl h
    · exact .inr (Nat.le_trans hsz h)
  refine ⟨A2,n+1,c2,rfl,HX2.out.set 1 _,HM2.out.only ((Only.refl (fun b=>b=g) w2).setCell (p:=⟨g,1,none⟩) rfl _) ?_,HO2.out.setCell (p:=⟨g,1,none⟩) (.inl rfl) _,hA⟩;intro p hp e
  rcases hA _ ⟨p,hp,rfl⟩ with h | h
  · exact HG.out (e ▸ h)
  · omega
theorem xadd_full (g n c:Nat) (a:Option Addr) (l:Bs) (w:World) (h:Bx g w (LV 2 a n c)) (hm:Mid 0 w a n c l) (hn:81≤n) (v:Int) :
  Calls Tryz.prog 126 #[.pointer (some ⟨g,0,none⟩),.int .u8 v] w (AddGives g a w l):=by
 have h1:w.cell? ⟨g,1,none⟩=some (.slice a n c):=h.cell 1 _ rfl;have HX:=lj h;have HM:=lj hm;clear h hm
 go_enter Tryz.func126,Tryz.ntmps126
 go_wp2;exact bodyPost_ret (v:=.tuple #[]) (by simp [results,Tryz.results126,go_sem]) rfl ⟨a,n,c,rfl,HX.out,HM.out,Only.refl _ _,fun _ h=>.inl h⟩
def EndGives (g:Nat) (a:Option Addr) (c:Nat) (w:World) (l:Bs) (e:Ending) (w':World):Prop:=
 e = .returned (.string (str l))∧Bx g w' (LV 0 a 0 c)∧Only (fun b=>b=g) w w'
theorem xend_any (g n c:Nat) (a:Option Addr) (l:Bs) (w:World) (h:Bx g w (LV 2 a n c)) (hm:Mid 0 w a n c l) (hn:n≤81) (l2:Bs) (h2:(80<n∧l2=[])∨(n≤80∧l2=l)) :
  Calls Tryz.prog 125 #[.pointer (some ⟨g,0,none⟩)] w (EndGives g a c w l2):=by
 have h0:w.cell? ⟨g,0,none⟩=some (.int .i64 (2:Nat)):=h.cell 0 _ rfl;have h1:w.cell? ⟨g,1,none⟩=some (.slice a n c):=h.cell 1 _ rfl;have hf0:=h.free 0;have hf1:=h.free 1;have hcv:=conv_str (cap:=c) hm.bytes;have hsz:=str_size l;rw [hm.len] at hsz;have HX:=lj h;have hcap:=hm.cap;have hmax:=hm.max;clear h hm
 rcases h2 with ⟨h2,rfl⟩ | ⟨h2,rfl⟩
 ·go_enter Tryz.func125,Tryz.ntmps125
  go_wp2
  go_region
  go_wp2;go_ret;exact ⟨rfl,((HX.out.set 0 _).set 1 _).drewN 1,((Bx.only g w 0 _).trans (Bx.only g _ 1 _)).drew⟩
 ·go_enter Tryz.func125,Tryz.ntmps125
  go_wp2
  go_region
  go_wp2;go_ret;exact ⟨rfl,((HX.out.set 0 _).set 1 _).drewN 1,((Bx.only g w 0 _).trans (Bx.only g _ 1 _)).drew⟩
def SS (s:Lx) (t:Bs) (i:Nat):Lx:=lrun s (t.take i)
def KK (s:Lx) (t:Bs) (i:Nat):Bs:=lkeys s (t.take i)
def CC (s:Lx) (t:Bs) (i:Nat):List Bs:=lcmds s (t.take i)
theorem SS_next (s:Lx) (t:Bs) (i:Nat) (h:i<t.length):SS s t (i+1)=lstep (SS s t i) (at_ t i):=by
 unfold SS;rw [take_at t i h,lrun_app];rfl
theorem KK_next (s:Lx) (t:Bs) (i:Nat) (h:i<t.length):KK s t (i+1)=KK s t i ++ lkey (SS s t i) (at_ t i):=by
 unfold KK SS;rw [take_at t i h,lkeys_app]
 show _ ++ (lkey _ _ ++ [])=_
 rw [List.append_nil]
theorem CC_next (s:Lx) (t:Bs) (i:Nat) (h:i<t.length):CC s t (i+1)=CC s t i ++ lcmd (SS s t i) (at_ t i):=by
 unfold CC SS;rw [take_at t i h,lcmds_app]
 show _ ++ (lcmd _ _ ++ [])=_
 rw [List.append_nil]
theorem SS_all (s:Lx) (l:Bs):SS s l l.length=lrun s l:=by unfold SS; rw [List.take_length]
theorem KK_all (s:Lx) (l:Bs):KK s l l.length=lkeys s l:=by unfold KK; rw [List.take_length]
theorem CC_all (s:Lx) (l:Bs):CC s l l.length=lcmds s l:=by unfold CC; rw [List.take_length]
theorem go_plain {s:Lx} {l:Bs} {k:Nat} (h:k<l.length) (hs:SS s l k=⟨0,[]⟩) (hc:(at_ l k).toNat≠29):SS s l (k+1)=⟨0,[]⟩∧KK s l (k+1)=KK s l k ++ [at_ l k]∧CC s l (k+1)=CC s l k:=by
 rw [SS_next s l k h,KK_next s l k h,CC_next s l k h,hs];exact ⟨by simp [lstep,hc],by simp [lkey,hc],by simp [lcmd]⟩
theorem go_esc {s:Lx} {l:Bs} {k:Nat} (h:k<l.length) (hs:SS s l k=⟨0,[]⟩) (hc:(at_ l k).toNat=29):SS s l (k+1)=⟨1,[]⟩∧KK s l (k+1)=KK s l k∧CC s l (k+1)=CC s l k:=by
 rw [SS_next s l k h,KK_next s l k h,CC_next s l k h,hs];exact ⟨by simp [lstep,hc],by simp [lkey,hc],by simp [lcmd]⟩
theorem go_twice {s:Lx} {l:Bs} {k:Nat} (h:k<l.length) (hs:SS s l k=⟨1,[]⟩) (hc:(at_ l k).toNat=29):SS s l (k+1)=⟨0,[]⟩∧KK s l (k+1)=KK s l k ++ [at_ l k]∧CC s l (k+1)=CC s l k:=by
 rw [SS_next s l k h,KK_next s l k h,CC_next s l k h,hs];exact ⟨by simp [lstep,hc,lx0],by simp [lkey,hc],by simp [lcmd]⟩
theorem go_colon {s:Lx} {l:Bs} {k:Nat} (h:k<l.length) (hs:SS s l k=⟨1,[]⟩) (hc:(at_ l k).toNat=58):SS s l (k+1)=⟨2,[]⟩∧KK s l (k+1)=KK s l k∧CC s l (k+1)=CC s l k:=by
 rw [SS_next s l k h,KK_next s l k h,CC_next s l k h,hs];exact ⟨by simp [lstep,hc],by simp [lkey,hc],by simp [lcmd]⟩
theorem go_none {s:Lx} {l:Bs} {k:Nat} (h:k<l.length) (hs:SS s l k=⟨1,[]⟩) (h1:(at_ l k).toNat≠29) (h2:(at_ l k).toNat≠58):SS s l (k+1)=⟨0,[]⟩∧KK s l (k+1)=KK s l k∧CC s l (k+1)=CC s l k:=by
 rw [SS_next s l k h,KK_next s l k h,CC_next s l k h,hs];exact ⟨by simp [lstep,h2,lx0],by simp [lkey,h1],by simp [lcmd]⟩
theorem go_in {s:Lx} {l b:Bs} {k:Nat} (h:k<l.length) (hs:SS s l k=⟨2,b⟩) (hc:(at_ l k).toNat≠10):SS s l (k+1)=⟨2,b ++ [at_ l k]⟩∧KK s l (k+1)=KK s l k∧CC s l (k+1)=CC s l k:=by
 rw [SS_next s l k h,KK_next s l k h,CC_next s l k h,hs];exact ⟨by simp [lstep,hc],by simp [lkey],by simp [lcmd,hc]⟩
theorem go_out {s:Lx} {l b:Bs} {k:Nat} (h:k<l.length) (hs:SS s l k=⟨2,b⟩) (hc:(at_ l k).toNat=10):SS s l (k+1)=⟨0,[]⟩∧KK s l (k+1)=KK s l k∧CC s l (k+1)=CC s l k ++ [shut b]:=by
 rw [SS_next s l k h,KK_next s l k h,CC_next s l k h,hs];exact ⟨by simp [lstep,hc,lx0],by simp [lkey],by simp [lcmd,hc]⟩
def Wf (s:Lx):Prop:=s.q≤2∧(s.q≠2→s.b=[])
theorem Wf.step {s:Lx} (h:Wf s) (c:BitVec 8):Wf (lstep s c):=by
 obtain ⟨h1,h2⟩:=h;unfold lstep Wf lx0
 split
 ·split
  ·exact ⟨by simp,fun _=>rfl⟩
  ·exact ⟨h1,h2⟩
 ·split
  ·split
   ·exact ⟨by simp,fun h=>absurd rfl h⟩
   ·exact ⟨by simp,fun _=>rfl⟩
  ·split
   ·exact ⟨by simp,fun _=>rfl⟩
   ·exact ⟨by simp,fun h=>absurd rfl h⟩
theorem Wf.run {s:Lx} (h:Wf s) (t:Bs):Wf (lrun s t):=by
 unfold lrun
 induction t generalizing s with
 | nil=>exact h
 | cons c t ih=>exact ih (h.step c)
theorem Wf.ways {s:Lx} (h:Wf s):s=⟨0,[]⟩∨s=⟨1,[]⟩∨∃ b,s=⟨2,b⟩:=by
 obtain ⟨q,b⟩:=s;obtain ⟨h1,h2⟩:=h
 dsimp only at h1 h2
 have:q=0∨q=1∨q=2:=by omega
 rcases this with rfl | rfl | rfl
 ·left; rw [h2 (by omega)]
 ·right; left; rw [h2 (by omega)]
 ·right; right; exact ⟨b,rfl⟩
theorem Mid.zero {base n c:Nat} {w:World} {a:Option Addr} {l:Bs} (h:Mid base w a n c l):Mid base w a 0 c []:=by
 refine ⟨rfl,Nat.zero_le _,h.max,?_⟩
 rcases h.lies with h0 | ⟨g,off,e,h1,h2,h3,h4⟩
 ·exact .inl h0
 ·exact .inr ⟨g,off,e,h1,h2,fun j hj=>absurd hj (by omega),h4⟩
def LexIs (F:Nat→Prop) (g:Nat) (w:World) (s:Lx):Prop:=
 ∃ a n c,Bx g w (LV s.q a n c)∧Mid 0 w a n c (s.b.take 81)∧¬ In a g∧(∀ b,F b↔b=g∨In a b)∧Wf s
theorem LexIs.lt {F:Nat→Prop} {g:Nat} {w:World} {s:Lx} (h:LexIs F g w s):∀ b,F b→b<w.heap.size:=by
 obtain ⟨a,n,c,h1,h2,h3,h4,h5⟩:=h;intro b hb
 rcases (h4 b).1 hb with rfl | hb
 ·have:=h1.room; omega
 ·exact h2.inlt' hb
theorem LexIs.keep {F S:Nat→Prop} {g:Nat} {w w':World} {s:Lx} (h:LexIs F g w s) (ho:Only S w w') (hs:∀ b,F b→¬ S b):LexIs F g w' s:=by
 obtain ⟨a,n,c,h1,h2,h3,h4,h5⟩:=h;exact ⟨a,n,c,h1.keep ho (hs g ((h4 g).2 (.inl rfl))),h2.only ho (fun p hp=>hs _ ((h4 _).2 (.inr ⟨p,hp,rfl⟩))),h3,h4,h5⟩
theorem xnew_any (w:World) :
  Calls Tryz.prog 43 #[] w fun e w'=>∃ F g,e = .returned (.pointer (some ⟨g,0,none⟩))∧LexIs F g w' lx0∧(∀ b,F b→w.heap.size≤b)∧Below w.heap.size w w':=by
 go_enter Tryz.func43,Tryz.ntmps43
 go_wp2;go_ret;refine ⟨fun b=>b=w.heap.size∨In none b,w.heap.size,rfl,⟨none,0,0,Bx.new w _ rfl _ _,Mid.nil _ _,?_,fun b=>Iff.rfl,⟨by simp [lx0],fun _=>rfl⟩⟩,?_,below_lit _ _⟩
 ·rintro ⟨p,hp,_⟩
  cases hp
 ·rintro b (rfl | ⟨p,hp,_⟩)
  ·exact Nat.le_refl _
  ·cases hp
structure LxJ (F:Nat→Prop) (g:Nat) (w0 w:World) (s:Lx) (a:Option Addr) (n c:Nat) (ka:Option Addr) (kn kc:Nat) (K:Bs) (ra:Option Addr) (rn rc:Nat) (C:List Bs):Prop where
 bx:Bx g w (LV s.q a n c)
 line:Mid 0 w a n c (s.b.take 81)
 ga:¬ In a g
 gF:F g
 flt:∀ b,F b→b<w0.heap.size
 fr:∀ b,In a b→F b∨w0.heap.size≤b
 ko:KO w0.heap.size w ka kn kc K ra rn rc C
 ak:∀ b,In a b→¬ In ka b
 ar:∀ b,In a b→¬ In ra b
 only:Only F w0 w
section
variable {F:Nat→Prop} {g n c kn kc rn rc:Nat} {w0 w w1 w2:World} {s:Lx} {a ka ra:Option Addr} {K:Bs} {C:List Bs}
theorem LxJ.gk (h:LxJ F g w0 w s a n c ka kn kc K ra rn rc C):¬ In ka g:=fun hk=>by have:=(h.ko.keys.inlt hk).1; have:=h.flt g h.gF; omega
theorem LxJ.gr (h:LxJ F g w0 w s a n c ka kn kc K ra rn rc C):¬ In ra g:=fun hk=>by have:=(h.ko.cmds.inlt hk).1; have:=h.flt g h.gF; omega
theorem LxJ.onto (h:LxJ F g w0 w s a n c ka kn kc K ra rn rc C) {S:Nat→Prop} (ho:Only S w w1) (hS:∀ b,S b→F b∨w0.heap.size≤b):Only F w0 w1:=by
 have t1:Only (fun b=>F b∨w0.heap.size≤b) w0 w:=h.only.mono fun _ _ h=>.inl h
 have t2:Only (fun b=>F b∨w0.heap.size≤b) w w1:=ho.mono fun b _ hb=>hS b hb
 exact (t1.trans t2).mono fun b hb hs=>by
  rcases hs with h | h
  ·exact h
  ·omega
theorem LxJ.below (h:LxJ F g w0 w s a n c ka kn kc K ra rn rc C) (hb:Below w.heap.size w w1):LxJ F g w0 w1 s a n c ka kn kc K ra rn rc C:=
 ⟨h.bx.keep (only_of_below hb) (fun h=>h),h.line.below hb,h.ga,h.gF,h.flt,h.fr,h.ko.below hb,h.ak,h.ar,h.onto (only_of_below hb) fun _ h=>h.elim⟩
theorem LxJ.key (h:LxJ F g w0 w s a n c ka kn kc K ra rn rc C) {A2:Option Addr} {n2 c2:Nat} {K2:Bs}
  (hm:Mid w0.heap.size w2 A2 n2 c2 K2) (ho:Only (In ka) w w2) (hp:∀ p,A2=some p→In ka p.block∨w.heap.size≤p.block):LxJ F g w0 w2 s a n c A2 n2 c2 K2 ra rn rc C:=by
 refine ⟨h.bx.keep ho h.gk,h.line.only ho (fun p hp hk=>h.ak _ ⟨p,hp,rfl⟩ hk),h.ga,h.gF,h.flt,h.fr,h.ko.key hm ho hp,?_,h.ar,h.onto ho fun b hb=>.inr (h.ko.keys.inlt hb).1⟩;rintro b hb ⟨p,hp2,rfl⟩
 rcases hp p hp2 with h1 | h1
 ·exact h.ak _ hb h1
 ·have:=h.line.inlt' hb; omega
theorem LxJ.cmd (h:LxJ F g w0 w s a n c ka kn kc K ra rn rc C) {A2:Option Addr} {n2 c2:Nat} {C2:List Bs}
  (hm:Rw w0.heap.size w2 A2 n2 c2 (strs C2)) (ho:Only (In ra) w w2) (hp:∀ b,In A2 b→In ra b∨w.heap.size≤b):LxJ F g w0 w2 s a n c ka kn kc K A2 n2 c2 C2:=by
 refine ⟨h.bx.keep ho h.gr,h.line.only ho (fun p hp hk=>h.ar _ ⟨p,hp,rfl⟩ hk),h.ga,h.gF,h.flt,h.fr,h.ko.cmd hm ho hp,h.ak,?_,h.onto ho fun b hb=>.inr (h.ko.cmds.inlt hb).1⟩;intro b hb hb2
 rcases hp b hb2 with h1 | h1
 ·exact h.ar _ hb h1
 ·have:=h.line.inlt' hb; omega
theorem LxJ.turn (h:LxJ F g w0 w s a n c ka kn kc K ra rn rc C) {s2:Lx} {a2:Option Addr} {n2 c2:Nat} (hb:Bx g w2 (LV s2.q a2 n2 c2)) (hl:Mid 0 w2 a2 n2 c2 (s2.b.take 81))
  (ho:Only (fun b=>b=g∨In a b) w w2) (hp:∀ b,In a2 b→In a b∨w.heap.size≤b):LxJ F g w0 w2 s2 a2 n2 c2 ka kn kc K ra rn rc C:=by
 have hgw:g<w.heap.size:=by have:=h.bx.room; omega
 refine ⟨hb,hl,?_,h.gF,h.flt,?_,⟨h.ko.keys.only ho ?_,h.ko.cmds.only ho ?_,h.ko.apart⟩,?_,?_,h.onto ho ?_⟩
 ·intro hg
  rcases hp g hg with h1 | h1
  ·exact h.ga h1
  ·omega
 ·intro b hb
  rcases hp b hb with h1 | h1
  ·exact h.fr b h1
  ·exact .inr (Nat.le_trans h.only.size h1)
 ·rintro p hp (e | e)
  ·exact h.gk ⟨p,hp,e⟩
  ·exact h.ak _ e ⟨p,hp,rfl⟩
 ·rintro b hb (e | e)
  ·exact h.gr (e ▸ hb)
  ·exact h.ar _ e hb
 ·intro b hb hk
  rcases hp b hb with h1 | h1
  ·exact h.ak _ h1 hk
  ·have:=(h.ko.keys.inlt hk).2; omega
 ·intro b hb hk
  rcases hp b hb with h1 | h1
  ·exact h.ar _ h1 hk
  ·have:=(h.ko.cmds.inlt hk).2; omega
 ·rintro b (rfl | hb)
  ·exact .inl h.gF
  ·exact h.fr b hb
theorem LxJ.field (h:LxJ F g w0 w s a n c ka kn kc K ra rn rc C) {q:Nat} (hb:Bx g w2 (LV q a n c)) (ho:Only (fun b=>b=g) w w2):LxJ F g w0 w2 ⟨q,s.b⟩ a n c ka kn kc K ra rn rc C:=
 h.turn (s2:=⟨q,s.b⟩) hb (h.line.only ho fun p hp e=>h.ga ⟨p,hp,e⟩) (ho.mono fun _ _ h=>.inl h) fun _ h=>.inl h
end
def LxGives (F:Nat→Prop) (g:Nat) (w:World) (s:Lx) (t:Bs) (e:Ending) (w':World):Prop:=
 ∃ F2 K kn kc R rn rc,e = .returned (.tuple #[.slice K kn kc,.slice R rn rc])∧LexIs F2 g w' (lrun s t)∧(∀ b,F2 b→F b∨w.heap.size≤b)∧Only F w w' ∧
  Bytes w' w'.heap.size K kn (lkeys s t)∧Vals w' w'.heap.size R rn (strs (lcmds s t))∧(0<kn→∀ b,In K b→w.heap.size≤b∧¬ F2 b)∧(0<rn→∀ b,In R b→w.heap.size≤b∧¬ F2 b)
theorem LxJ.fin {F:Nat→Prop} {g n c kn kc rn rc:Nat} {w0 w:World} {s:Lx} {t:Bs} {a ka ra:Option Addr} (hw:Wf s) (h:LxJ F g w0 w (lrun s t) a n c ka kn kc (lkeys s t) ra rn rc (lcmds s t)) :
  LxGives F g w0 s t (.returned (.tuple #[.slice ka kn kc,.slice ra rn rc])) w:=by
 refine ⟨fun b=>b=g∨In a b,ka,kn,kc,ra,rn,rc,rfl,⟨a,n,c,h.bx,h.line,h.ga,fun _=>Iff.rfl,hw.run t⟩,?_,h.only,h.ko.keys.bytes,h.ko.cmds.vals,fun _ b hb=>⟨(h.ko.keys.inlt hb).1,?_⟩,fun _ b hb=>⟨(h.ko.cmds.inlt hb).1,?_⟩⟩
 ·rintro b (rfl | hb)
  ·exact .inl h.gF
  ·exact h.fr b hb
 ·rintro (rfl | h1)
  ·exact h.gk hb
  ·exact h.ak _ h1 hb
 ·rintro (rfl | h1)
  ·exact h.gr hb
  ·exact h.ar _ h1 hb
end
section
open Go.RowKit
open Lx
set_option maxHeartbeats 1000000 in
theorem xpush_all (F:Nat→Prop) (g:Nat) (s:Lx) (a:Option Addr) (m cap B:Nat) (t:Bs) (w:World) (hs:LexIs F g w s) (hl:Bytes w B a m t) (hB:B≤w.heap.size) (hne:0<m→∀ b,In a b→¬ F b) (hm:m≤1000000) :
    Calls Tryz.prog 106 #[.pointer (some ⟨g,0,none⟩),.slice a m cap] w (LxGives F g w s t):=by
  have hlt:=hs.lt;obtain ⟨la,ln,lc,h1,h2,h3,h4,hwf⟩:=hs;have htl:t.length=m:=hl.1;have HT:=lj (fun (wr:World) (ho:Only F w wr)=>hl.only ho hB (fun hn p hp=>hne hn _ ⟨p,hp,rfl⟩));have HW:=lj hwf;have HB:=lj hB;have HL:=lj htl;have hP0:LxJ F g w w (SS s t 0) la ln lc none 0 0 (KK s t 0) none 0 0 (CC s t 0):=⟨h1,h2,h3,(h4 g).2 (.inl rfl),hlt,fun b hb=>.inl ((h4 b).2 (.inr hb)),⟨Mid.nil _ _,Rw.nil _ _,fun b ⟨p,hp,_⟩=>(by cases hp)⟩,(fun b _ ⟨p,hp,_⟩=>(by cases hp)),(fun b _ ⟨p,hp,_⟩=>(by cases hp)),Only.refl _ _⟩;have HP0:=lj hP0;clear hP0 h1 h2 h3 h4 hl hlt hwf hne hB htl
  go_enter Tryz.func106,Tryz.ntmps106
  go_wp2
  go_loopw [6,7,12] (fun s6 s7 s12 wr=>∃ i la ln lc ka kn kc ra rn rc,i≤m∧s12 = .int .i64 (i:Nat)∧s6 = .slice ka kn kc∧s7 = .slice ra rn rc∧LxJ F g w wr (SS s t i) la ln lc ka kn kc (KK s t i) ra rn rc (CC s t i)) (fun _ _ s12 _=>m - (intOf s12).toNat)
  case atStart=>exact ⟨0,la,ln,lc,_,_,_,_,_,_,by omega,rfl,rfl,rfl,HP0.out⟩
  case round =>
    clear HP0 la ln lc;obtain ⟨i,la,ln,lc,ka,kn,kc,ra,rn,rc,hi,rfl,rfl,rfl,hp⟩:=hrel;have HP:=lj hp
    have hkn:kn≤i:=by
      have e1:=hp.ko.keys.len;have e2:=lkeys_len s (t.take i);have e3:(KK s t i).length=(lkeys s (t.take i)).length:=rfl;rw [List.length_take] at e2;omega
    have hrn:rn≤i:=by
      have e1:=hp.ko.cmds.len;rw [strs_len] at e1;have e2:=lcmds_len s (t.take i);have e3:(CC s t i).length=(lcmds s (t.take i)).length:=rfl;rw [List.length_take] at e2;omega
    have hsz:=hp.only.size;clear hp
    by_cases hlt:i<m
    · have hlt2:i<t.length:=by rw [HL.out]; exact hlt
      obtain ⟨b0,off,rfl,_,hc⟩:=(HT.out wr HP.out.only).2 (by omega);have hc0:wr.cell? ⟨b0,off+i,none⟩=some (.int .u8 (at_ t i).toNat):=hc i hlt;have hx8:=at_small t i;have d0:wr.cell? ⟨g,0,none⟩=some (.int .i64 (SS s t i).q):=HP.out.bx.cell 0 _ rfl;have f0:=HP.out.bx.free 0;clear hc
      have hways:SS s t i=⟨0,[]⟩∨SS s t i=⟨1,[]⟩∨∃ b,SS s t i=⟨2,b⟩:=(HW.out.run (t.take i)).ways
      rcases hways with hs | hs | ⟨b,hs⟩
      · have HS:=lj hs
        by_cases hx:(at_ t i).toNat=29
        · have HE:=lj (go_esc hlt2 hs hx)
          rw [hx] at hc0
          have d1:wr.cell? ⟨g,0,none⟩=some (.int .i64 (0:Nat)):=by rw [d0,hs]
          clear d0;have HP2:=lj (HP.out.field (q:=1) (HP.out.bx.set 0 _) (Bx.only g wr 0 (.int .i64 (1:Nat))));clear hx hs;go_wp2;go_roundw
          case rel=>exact ⟨i+1,_,_,_,_,_,_,_,_,_,by omega,by go_num,rfl,rfl,by rw [HE.out.1,HE.out.2.1,HE.out.2.2]; have:=HP2.out; rw [HS.out] at this; exact this⟩
          case measure=>simp [intOf]; omega
        · have HE:=lj (go_plain hlt2 hs hx)
          have hne:(((at_ t i).toNat:Int) == 29)=false:=by simp; omega
          obtain ⟨v,hv⟩:∃ v:Int,v=(at_ t i).toNat:=⟨_,rfl⟩
          have HV:=lj hv
          have d1:wr.cell? ⟨g,0,none⟩=some (.int .i64 (0:Nat)):=by rw [d0,hs]
          clear d0;rw [← hv] at hc0 hne;clear hv hx hs
          go_wp2_with (first
            | (at_builtin
               refine wpList_mid rfl (.tmp 16) (.tmp 18) rfl w.heap.size rfl (HP.out.ko.keys.below (below_lit _ _)) rfl (lit1 wr (at_ t i) v HV.out) (by omega) (by simp; omega) ?_;intro A2 c2 w2 hm2 ho2 hp2;have HP2:=lj ((HP.out.below (below_lit _ _)).key hm2 ho2 hp2)
               clear hm2 ho2 hp2))
          go_roundw
          case rel=>exact ⟨i+1,_,_,_,_,_,_,_,_,_,by omega,by go_num,rfl,rfl,by rw [HE.out.1,HE.out.2.1,HE.out.2.2]; have:=HP2.out; rw [HS.out] at this; exact this⟩
          case measure=>simp [intOf]; omega
      · have HS:=lj hs
        by_cases hx:(at_ t i).toNat=29
        · have HE:=lj (go_twice hlt2 hs hx)
          obtain ⟨v,hv⟩:∃ v:Int,v=(at_ t i).toNat:=⟨_,rfl⟩
          have HV:=lj hv
          have d1:wr.cell? ⟨g,0,none⟩=some (.int .i64 (1:Nat)):=by rw [d0,hs]
          clear d0
          have hbx:Bx g wr (LV 1 la ln lc):=by have:=HP.out.bx; rw [HS.out] at this; exact this
          have HBX:=lj hbx
          have hv29:v=29:=by omega
          have HV29:=lj hv29;rw [← hv] at hc0;clear hv hx hs hbx hv29
          go_wp2_with fail
          refine (xescape_any g ln lc la wr HBX.out v 0 true (.inr (.inl ⟨HV29.out,rfl,rfl⟩))).mono ?_;rintro e w3 ⟨rfl,hb3,ho3⟩;have hp3:=HP.out.field (q:=0) hb3 ho3;rw [HS.out] at hp3;have HP3:=lj hp3;have hsz3:=ho3.size;clear hb3 ho3 hp3 d1 f0 hc0
          go_wp2_with (first
            | (at_builtin
               refine wpList_mid rfl (.tmp 29) (.tmp 31) rfl w.heap.size rfl (HP3.out.ko.keys.below (below_lit _ _)) rfl (lit1 w3 (at_ t i) v HV.out) (by omega) (by simp; omega) ?_;intro A2 c2 w2 hm2 ho2 hp2;have HP2:=lj ((HP3.out.below (below_lit _ _)).key hm2 ho2 hp2)
               clear hm2 ho2 hp2))
          go_roundw
          case rel=>exact ⟨i+1,_,_,_,_,_,_,_,_,_,by omega,by go_num,rfl,rfl,by rw [HE.out.1,HE.out.2.1,HE.out.2.2]; exact HP2.out⟩
          case measure=>simp [intOf]; omega
        by_cases hy:(at_ t i).toNat=58
        · have HE:=lj (go_colon hlt2 hs hy)
          obtain ⟨v,hv⟩:∃ v:Int,v=(at_ t i).toNat:=⟨_,rfl⟩
          have HV:=lj hv
          have d1:wr.cell? ⟨g,0,none⟩=some (.int .i64 (1:Nat)):=by rw [d0,hs]
          clear d0
          have hbx:Bx g wr (LV 1 la ln lc):=by have:=HP.out.bx; rw [HS.out] at this; exact this
          have HBX:=lj hbx
          have hv29:v=58:=by omega
          have HV29:=lj hv29;rw [← hv] at hc0;clear hv hx hs hbx hv29 hy
          go_wp2_with fail
          refine (xescape_any g ln lc la wr HBX.out v 2 false (.inl ⟨HV29.out,rfl,rfl⟩)).mono ?_;rintro e w3 ⟨rfl,hb3,ho3⟩;have hp3:=HP.out.field (q:=2) hb3 ho3;rw [HS.out] at hp3;have HP3:=lj hp3;clear hb3 ho3 hp3 d1 f0 hc0;go_wp2;go_roundw
          case rel=>exact ⟨i+1,_,_,_,_,_,_,_,_,_,by omega,by go_num,rfl,rfl,by rw [HE.out.1,HE.out.2.1,HE.out.2.2]; exact HP3.out⟩
          case measure=>simp [intOf]; omega
        · have HE:=lj (go_none hlt2 hs hx hy)
          obtain ⟨v,hv⟩:∃ v:Int,v=(at_ t i).toNat:=⟨_,rfl⟩
          have HV:=lj hv
          have d1:wr.cell? ⟨g,0,none⟩=some (.int .i64 (1:Nat)):=by rw [d0,hs]
          clear d0
          have hbx:Bx g wr (LV 1 la ln lc):=by have:=HP.out.bx; rw [HS.out] at this; exact this
          have HBX:=lj hbx
          have hv29:v≠58∧v≠29:=by omega
          have HV29:=lj hv29;rw [← hv] at hc0;clear hv hx hs hbx hv29 hy
          go_wp2_with fail
          refine (xescape_any g ln lc la wr HBX.out v 0 false (.inr (.inr ⟨HV29.out.1,HV29.out.2,rfl,rfl⟩))).mono ?_;rintro e w3 ⟨rfl,hb3,ho3⟩;have hp3:=HP.out.field (q:=0) hb3 ho3;rw [HS.out] at hp3;have HP3:=lj hp3;clear hb3 ho3 hp3 d1 f0 hc0;go_wp2;go_roundw
          case rel=>exact ⟨i+1,_,_,_,_,_,_,_,_,_,by omega,by go_num,rfl,rfl,by rw [HE.out.1,HE.out.2.1,HE.out.2.2]; exact HP3.out⟩
          case measure=>simp [intOf]; omega
      · have HS:=lj hs
        have hln:(b.take 81).length=ln:=by have:=HP.out.line.len; rw [HS.out] at this; exact this
        have hlm:Mid 0 wr la ln lc (b.take 81):=by have:=HP.out.line; rw [HS.out] at this; exact this
        have HLM:=lj hlm;rw [List.length_take] at hln;clear hlm
        by_cases hx:(at_ t i).toNat=10
        · have HE:=lj (go_out hlt2 hs hx)
          rw [hx] at hc0
          have d1:wr.cell? ⟨g,0,none⟩=some (.int .i64 (2:Nat)):=by rw [d0,hs]
          clear d0
          have hbx:Bx g wr (LV 2 la ln lc):=by have:=HP.out.bx; rw [HS.out] at this; exact this
          have HBX:=lj hbx
          have hsh:(80<ln∧shut b=[])∨(ln≤80∧shut b=b.take 81):=by
            unfold shut
            by_cases h:80<b.length
            · left; rw [if_pos h]; exact ⟨by omega,rfl⟩
            · right; rw [if_neg h,List.take_of_length_le (by omega)]; exact ⟨by omega,rfl⟩
          have HSH:=lj hsh
          have hl81:ln≤81:=by omega
          clear hx hs hbx hsh hln
          go_wp2_with fail
          refine (xend_any g ln lc la (b.take 81) wr HBX.out HLM.out hl81 (shut b) HSH.out).mono ?_;rintro e w3 ⟨rfl,hb3,ho3⟩;have HP3:=lj (HP.out.turn (s2:=⟨0,[]⟩) hb3 ((HLM.out.only ho3 (fun p hp e=>HP.out.ga ⟨p,hp,e⟩)).zero) (ho3.mono fun _ _ h=>.inl h) (fun _ h=>.inl h));have hsz3:=ho3.size;clear hb3 ho3 d1 f0 hc0
          go_wp2_with (first
            | (at_builtin
               refine wpList_rw elem_str rfl (.tmp 43) (.tmp 46) rfl w.heap.size rfl (HP3.out.ko.cmds.below (below_lit _ _)) rfl (lits w3 (shut b) _ rfl) (by omega) (by simp; omega) ?_;intro A2 c2 w2 hm ho hp2;have HP2:=lj ((HP3.out.below (below_lit _ _)).cmd (C2:=CC s t i ++ [shut b]) (by rw [strs_app]; exact hm) ho hp2)
               clear hm ho hp2))
          go_roundw
          case rel=>exact ⟨i+1,_,_,_,_,_,_,_,_,_,by omega,by go_num,rfl,rfl,by rw [HE.out.1,HE.out.2.1,HE.out.2.2]; exact HP2.out⟩
          case measure=>simp [intOf]; omega
        · have HE:=lj (go_in hlt2 hs hx)
          have hne:(((at_ t i).toNat:Int) == 10)=false:=by simp; omega
          obtain ⟨v,hv⟩:∃ v:Int,v=(at_ t i).toNat:=⟨_,rfl⟩
          have HV:=lj hv
          have d1:wr.cell? ⟨g,0,none⟩=some (.int .i64 (2:Nat)):=by rw [d0,hs]
          clear d0
          have hbx:Bx g wr (LV 2 la ln lc):=by have:=HP.out.bx; rw [HS.out] at this; exact this
          have HBX:=lj hbx;rw [← hv] at hc0 hne
          by_cases h80:b.length≤80
          · have hl80:ln≤80:=by omega
            have htk:(b ++ [at_ t i]).take 81=b.take 81 ++ [at_ t i]:=by
              rw [List.take_of_length_le (by simp; omega),List.take_of_length_le (by omega)]
            have HTK:=lj htk;clear hv hx hs hbx hln htk h80
            go_wp2_with fail
            refine (xadd_more g ln lc la (b.take 81) wr HBX.out HLM.out HP.out.ga hl80 (at_ t i) v HV.out).mono ?_;rintro e w3 ⟨a2,n2,c2,rfl,hb3,hm3,ho3,hn3⟩;have HP3:=lj (HP.out.turn (s2:=⟨2,b ++ [at_ t i]⟩) hb3 (by rw [HTK.out]; exact hm3) ho3 hn3);clear hb3 hm3 ho3 hn3 d1 f0 hc0;go_wp2;go_roundw
            case rel=>exact ⟨i+1,_,_,_,_,_,_,_,_,_,by omega,by go_num,rfl,rfl,by rw [HE.out.1,HE.out.2.1,HE.out.2.2]; exact HP3.out⟩
            case measure=>simp [intOf]; omega
          · have hl81:81≤ln:=by omega
            have htk:(b ++ [at_ t i]).take 81=b.take 81:=by
              rw [List.take_append_of_le_length (by omega)]
            have HTK:=lj htk;clear hv hx hs hbx hln htk h80
            go_wp2_with fail
            refine (xadd_full g ln lc la (b.take 81) wr HBX.out HLM.out hl81 v).mono ?_;rintro e w3 ⟨a2,n2,c2,rfl,hb3,hm3,ho3,hn3⟩;have HP3:=lj (HP.out.turn (s2:=⟨2,b ++ [at_ t i]⟩) hb3 (by rw [HTK.out]; exact hm3) ho3 hn3);clear hb3 hm3 ho3 hn3 d1 f0 hc0;go_wp2;go_roundw
            case rel=>exact ⟨i+1,_,_,_,_,_,_,_,_,_,by omega,by go_num,rfl,rfl,by rw [HE.out.1,HE.out.2.1,HE.out.2.2]; exact HP3.out⟩
            case measure=>simp [intOf]; omega
    · obtain rfl:i=m:=by omega
      have HF:=lj (LxJ.fin (t:=t) (s:=s) HW.out (by have:=HP.out; rw [← HL.out,SS_all,KK_all,CC_all] at this; exact this));go_wp2;exact bodyPost_ret (v:=.tuple #[.slice ka kn kc,.slice ra rn rc]) (by simp [results,Tryz.results106,go_sem]) rfl HF.out
end
section
open Go.RowKit
def tab (a b c d e f g h:Int):Array Value:=#[.int .i64 a,.int .i64 1,.int .i64 65536,.int .i64 b,.int .i64 1,.int .i64 2042,.int .i64 c,.int .i64 220,.int .i64 65536,.int .i64 d,.int .i64 1,.int .i64 65536,.int .i64 e,.int .i64 0,.int .i64 9,.int .i64 f,.int .i64 1,.int .i64 1000,.int .i64 g,.int .i64 0,.int .i64 1000,.int .i64 h,.int .i64 1,.int .i64 500]
end
end Go.Proofs.YtdpagmcickkbmaaGreatDoor
