/- PLg PWr PWs PWt PPd -/
import Derived.Test.YtdpagmcickkbmaaGreatDoorZd07
import Derived.Test.YtdpagmcickkbmaaGreatDoorZd31
import Derived.Test.YtdpagmcickkbmaaGreatDoorZd32
import Derived.Test.YtdpagmcickkbmaaGreatDoorZd45
namespace Go.Proofs.YtdpagmcickkbmaaGreatDoor
set_option maxRecDepth 100000
open Go.Lib renaming hid → lj
section
open Go.RowKit
open Fr Bk
theorem conf_ev {c:Cf} (h:CfOk c):EvOk (bnew c) 0 0 0:=
 ⟨⟨h.log,h.data,h.queue,h.input,h.idle,h.strikes,(fok_new c.lease).mono (by decide),fun p hp=>(by cases hp),Nat.zero_le _,⟨Int.le_refl 0,(by decide:(0:Int)≤16)⟩,Nat.zero_le _,fun k c hc=>(by cases hc)⟩,fun k c hc=>(by cases hc),Nat.zero_le _,Nat.zero_le _,Sp.Ok.start (by have:=h.width; omega) (by have:=h.width; omega)⟩
theorem rt_cf {a b c d e f g h:Int} (hr:rt a b c d e f g h=true):∃ cf:Cf,CfOk cf∧EvOk (bnew cf) 0 0 0∧a=(cf.log:Nat)∧b=(cf.data:Nat)∧c=(cf.queue:Nat)∧d=(cf.input:Nat)∧e=(cf.strikes:Nat)∧f=(cf.lease:Nat)∧g=(cf.idle:Nat)∧h=(cf.width:Nat):=by
 unfold rt bw at hr;simp only [Bool.and_eq_true,decide_eq_true_eq] at hr;have ho:CfOk ⟨a.toNat,b.toNat,c.toNat,d.toNat,e.toNat,f.toNat,g.toNat,h.toNat⟩:=⟨by dsimp only; omega,by dsimp only; omega,by dsimp only; omega,by dsimp only; omega,by dsimp only; omega,by dsimp only; omega,by dsimp only; omega,by dsimp only; omega⟩;exact ⟨_,ho,conf_ev ho,by dsimp only; omega,by dsimp only; omega,by dsimp only; omega,by dsimp only; omega,by dsimp only; omega,by dsimp only; omega,by dsimp only; omega,by dsimp only; omega⟩
theorem wf_small {x:Int} (h : -1000≤x∧x≤1000000):wf64 x:=by
 unfold wf64;simp [Lit.wf,IntKind.min,IntKind.max,IntKind.signed,IntKind.bits];omega
theorem R3.doEv {b:Br} (h:R3 b) (q:Nat) (id n:Int) (t:Bs):R3 (doEv q b id n t):=by
 unfold Go.Proofs.YtdpagmcickkbmaaGreatDoor.doEv
 split
 ·exact r3_all.connectB h id
 ·exact r3_all.bytesB h id t
 ·exact r3_all.writeB h id n
 ·exact r3_all.outputB h t
 ·exact r3_all.drainB h n
 ·exact r3_all.tickB h
 ·exact r3_all.cutB h id
 ·exact r3_all.endB h n
theorem r3_new (cf:Cf):R3 (bnew cf):=⟨List.Pairwise.nil,fun k hk=>(by cases hk),fun k c hc=>(by cases hc)⟩
theorem cf_core (cf:Cf):KEv (fun b=>b.cf=cf) where
 gone:=fun b k c h _ _ _=>by unfold gone; split <;> exact h
 plus:=fun b k c m h _ _ _=>h
 told:=fun b h=>h
 served:=fun b k c m p s h _ _ _=>h
 reap:=fun b h=>h
 idle0:=fun b k c h _=>h
 fd:=fun b k c t h _=>h
 lx:=fun b k c t h _=>h
 join:=fun b k c t p r h _ _ _ _ _ _ _ _ _=>h
 fl:=fun b s h _=>h
 again:=fun b k c p h _ _=>h
 strikes:=fun b n h _=>h
 typed:=fun b ks h _ _=>h
 cut0:=fun b k c h _ _=>h
 new:=fun b k h _ _ _=>h
 idle1:=fun b k c h _=>h
 wrote:=fun b k c n h _=>h
 out:=fun b t h _=>h
 ended:=fun b n h _ _=>h
 drained:=fun b n h=>h
theorem cf_doEv {b:Br} {cf:Cf} (h:b.cf=cf) (q:Nat) (id n:Int) (t:Bs):(doEv q b id n t).cf=cf:=by
 unfold doEv
 split
 ·exact (cf_core cf).connectB h id
 ·exact (cf_core cf).bytesB h id t
 ·exact (cf_core cf).writeB h id n
 ·exact (cf_core cf).outputB h t
 ·exact (cf_core cf).drainB h n
 ·exact (cf_core cf).tickB h
 ·exact (cf_core cf).cutB h id
 ·exact (cf_core cf).endB h n
theorem Ievs.more {w:World} {B B' n:Nat} {a:Option Addr} {K I R:Nat→Int} {A:Nat→Option Addr} {Ln Cp:Nat→Nat} {T:Nat→Bs} (h:Ievs w B a n K I R A Ln Cp T) (hB:B≤B'):Ievs w B' a n K I R A Ln Cp T:=
 ⟨fun hn=>by
  obtain ⟨b,off,e,hlt,hc⟩:=h.outer hn
  exact ⟨b,off,e,Nat.lt_of_lt_of_le hlt hB,hc⟩,fun r hr=>⟨(h.inner r hr).1,(h.inner r hr).2.1.more hB,(h.inner r hr).2.2⟩⟩
structure AtEv (cf:Cf) (Ln:Nat→Nat) (k:Nat) (b:Br):Prop where
 ev:EvOk b k (k * 2052+sumL Ln k) (sumL Ln k)
 r3:R3 b
 cf:b.cf=cf
theorem AtEv.next {cf:Cf} {Ln:Nat→Nat} {k:Nat} {b:Br} (h:AtEv cf Ln k b) (q:Nat) (id n:Int) {t:Bs} (ht:t.length=Ln k) (hs:sumL Ln (k+1)≤6000):AtEv cf Ln (k+1) (doEv q b id n t):=by
 have hs1:sumL Ln (k+1)=sumL Ln k+Ln k:=rfl;have he:=EvOk.doEv h.ev q id n t (by omega);rw [ht] at he;exact ⟨⟨he.ok,he.cn,Nat.le_trans he.tot (by omega),Nat.le_trans he.len (by omega),he.sp⟩,R3.doEv h.r3 q id n t,cf_doEv h.cf q id n t⟩
theorem AtEv.begin {cf:Cf} {Ln:Nat→Nat} (h:EvOk (bnew cf) 0 0 0):AtEv cf Ln 0 (bnew cf):=⟨h,r3_new cf,rfl⟩
end
section
open Go.RowKit
open Fr Bk
theorem ls_do15 {n0 g:Nat} {S:Nat→Prop} {w:World} {b:Br} {i T m:Nat} {A:Option Addr} {L C:Nat} (h:LS n0 S g w b) (ha:0<L→∀ p,A=some p→p.block<n0) (he:EvOk b i T m) (hi:i≤1000000000) (hT:T≤100000000) (k id n:Int) (hid:wf64 id) {B:Nat} {t:Bs} (ht:Bytes w B A L t) (hB:B≤w.heap.size) (hLC:L≤C) (hm:m+L≤1000000) {q:Nat} (hq:bits .and .i64 k 7=(q:Int)) (hq7:q≤7) :
  Calls Tryz.prog 15 #[.pointer (some (at0 g)),.agg #[.int .i64 k,.int .i64 id,.int .i64 n,.slice A L C]] w fun e w'=>e = .returned (.tuple #[.string (str (doTx q b id n)),.int .i64 (doEx q b id n:Nat)])∧LS n0 S g w' (doEv q b id n t)∧Only (fun x=>n0≤x∧¬ S x) w w':=by
 obtain ⟨F,rs,h,hs⟩:=h
 exact (ldo_any h.is he hi hT k id n hid ht hB hLC (fun hp p hpp hF=>by have:=h.new _ hF; have:=ha hp p hpp; omega) hm hq hq7).mono fun e w' hg=>h.e2 hs hg
def sA (q:Nat) (b:Br) (id n:Int) (t A:Bs):Bs:=if doEx q b id n=0∧q=3 then A ++ t else A
def sG (i:Int) (q:Nat) (b:Br) (id n:Int) (G:Bs):Bs:=if doEx q b id n=0 then (if q=2∧id=i then G ++ writeT b id n else if q=0∧id=i then [] else G) else G
theorem sA_len (q:Nat) (b:Br) (id n:Int) (t A:Bs):(sA q b id n t A).length≤A.length+t.length:=by
 unfold sA
 split
 ·rw [List.length_append]; exact Nat.le_refl _
 ·exact Nat.le_add_right _ _
theorem at_wlen {cf:Cf} {Ln:Nat→Nat} {k:Nat} {b:Br} (h:AtEv cf Ln k b) (hc:CfOk cf) (id n:Int):(writeT b id n).length≤65536:=by
 unfold writeT
 split
 ·rcases hcs:b.cs id.toNat with _ | c
  ·exact Nat.zero_le _
  ·have:=h.r3.out _ c hcs
   rw [h.cf] at this;have:=hc.queue
   show (c.out.take _).length≤_
   rw [List.length_take];omega
 ·exact Nat.zero_le _
theorem sG_len {cf:Cf} {Ln:Nat→Nat} {k:Nat} {b:Br} (h:AtEv cf Ln k b) (hc:CfOk cf) (i:Int) (q:Nat) (id n:Int) (G:Bs):(sG i q b id n G).length≤G.length+65536:=by
 unfold sG
 split
 ·split
  ·rw [List.length_append]; have:=at_wlen h hc id n; omega
  ·split
   ·exact Nat.zero_le _
   ·omega
 ·omega
structure SeJ (Inv:Bs→Bs→Br→Prop) (cf:Cf) (Ln:Nat→Nat) (k:Nat) (b:Br) (A G:Bs):Prop where
 at_:AtEv cf Ln k b
 inv:Inv A G b
 la:A.length≤sumL Ln k
 lg:G.length≤65536 * k
theorem SeJ.next {Inv:Bs→Bs→Br→Prop} {cf:Cf} {Ln:Nat→Nat} {k:Nat} {b:Br} {A G:Bs} (h:SeJ Inv cf Ln k b A G) (hc:CfOk cf) (i:Int) (q:Nat) (id n:Int) {t:Bs} (ht:t.length=Ln k) (hs:sumL Ln (k+1)≤6000)
  (hi:Inv (sA q b id n t A) (sG i q b id n G) (doEv q b id n t)):SeJ Inv cf Ln (k+1) (doEv q b id n t) (sA q b id n t A) (sG i q b id n G):=by
 refine ⟨h.at_.next q id n ht hs,hi,?_,?_⟩
 ·have h1:=sA_len q b id n t A
  have h2:=h.la;have h3:sumL Ln (k+1)=sumL Ln k+Ln k:=rfl;omega
 ·have h1:=sG_len h.at_ hc i q id n G
  have h2:=h.lg;omega
structure SeW (Inv:Bs→Bs→Br→Prop) (i:Nat) (b:Br) (A G:Bs):Prop where
 ev:EvOk b 1000 1000000 6000
 inv:Inv A G b
 lg:G.length+still i b≤10000000
theorem SeJ.write0 {Inv:Bs→Bs→Br→Prop} {cf:Cf} {Ln:Nat→Nat} {k:Nat} {b:Br} {A G:Bs} (h:SeJ Inv cf Ln k b A G) (hc:CfOk cf) (hk:k≤120) (hs:sumL Ln k≤6000) (i:Nat):SeW Inv i b A G:=by
 have he:=h.at_.ev;refine ⟨⟨he.ok,fun j c hc=>⟨Nat.le_trans (he.cn j c hc).1 (by omega),(he.cn j c hc).2⟩,Nat.le_trans he.tot (by omega),Nat.le_trans he.len hs,he.sp⟩,h.inv,?_⟩
 have h1:=still_most (b:=b) (Q:=65536) (T:=6000) (fun j c hcs=>by
  have h2:=h.at_.r3.out j c hcs;rw [h.at_.cf] at h2;have:=hc.queue
  omega) (Nat.le_trans he.len hs) i
 have h3:=h.lg;have h4:65536 * k≤65536 * 120:=Nat.mul_le_mul_left _ hk;omega
def SentGives (Inv:Bs→Bs→Br→Prop) (i:Nat) (w:World) (e:Ending) (w':World):Prop:=
 ∃ A G b R rc ms r,e = .returned (.tuple #[.slice R ms.length rc,.string (str A),.bool (decide (r=[]))])∧Inv A G b∧writeT b (i:Nat) 1000=[]∧A.length≤6000∧G.length≤10000000∧Msgs G ms r∧MsgRow w.heap.size w' R ms.length rc ms∧5 * ms.length≤10000000∧Below w.heap.size w w'
def lenS:Value→Nat
 | .string s=>s.size
 | _=>0
set_option maxHeartbeats 2000000 in
theorem sent_any {cf:Cf} (ho:CfOk cf) (hev:EvOk (bnew cf) 0 0 0) (Inv:Bs→Bs→Br→Prop) {a:Option Addr} {n cap:Nat} {K I R:Nat→Int} {A:Nat→Option Addr} {Ln Cp:Nat→Nat} {T:Nat→Bs} (i:Nat) (hi:i≤16) (w:World) (ht:TI w) (hl:Ievs w w.heap.size a n K I R A Ln Cp T) (hn:n≤120) (hs:sumL Ln n≤6000)
  (h0:Inv [] [] (bnew cf)) (hst:∀ k q A G b,k<n→bits .and .i64 (K k) 7=(q:Nat)→q≤7→AtEv cf Ln k b→Inv A G b→Inv (sA q b (I k) (R k) (T k) A) (sG i q b (I k) (R k) G) (doEv q b (I k) (R k) (T k)))
  (hw:∀ A G b,Inv A G b→Inv A (G ++ writeT b (i:Nat) 1000) (writeB b (i:Nat) 1000)) :
  Calls Tryz.prog 10 #[.agg (cfRow cf),.slice a n cap,.int .i64 (i:Nat)] w (SentGives Inv i w):=by
 have HL:=lj hl;have HS:=lj hs;have HST:=lj hst;have HW:=lj hw;have HO:=lj (And.intro ho (show SeJ Inv cf Ln 0 (bnew cf) [] [] from ⟨AtEv.begin hev,h0,Nat.zero_le _,Nat.zero_le _⟩));have hxm:=Bx.new w _ rfl (cfRow cf) 23;have hba:Below w.heap.size w (w.alloc (.cells (cfRow cf) 23)):=(Below.refl _ _).alloc (Nat.le_refl _) _;have HNew:=lj (lb_new ho (w.alloc (.cells (cfRow cf) 23)) (ht.below hba));unfold cfRow at hxm hba HNew ⊢;clear hev hl hs ho ht h0 hst hw
 obtain ⟨gm,hgm⟩:∃ gm,w.heap.size=gm:=⟨_,rfl⟩
 rw [hgm] at HL hxm hba;have HG:=lj hgm
 go_enter Tryz.func10,Tryz.ntmps10
 go_upto_region 1 with fail
 generalize w.alloc _=w1 at *;have z0:=hxm.cell 0 _ rfl;have z1:=hxm.cell 1 _ rfl;have z2:=hxm.cell 2 _ rfl;have z3:=hxm.cell 3 _ rfl;have z4:=hxm.cell 4 _ rfl;have z5:=hxm.cell 5 _ rfl;have z6:=hxm.cell 6 _ rfl;have z7:=hxm.cell 7 _ rfl;clear hgm
 have hz1:gm≤w1.heap.size:=by rw [← HG.out]; exact hba.size
 have HBa:=lj hba;clear hxm hba
 go_wp2_with fail
 refine HNew.out.mono ?_;rintro r w2 ⟨g,rfl,hl2,hb2⟩;have HL2:=lj hl2;have HB2:=lj (HBa.out.trans (hb2.mono hz1))
 obtain ⟨n0,hn0⟩:∃ n0,w1.heap.size=n0:=⟨_,rfl⟩
 rw [hn0] at HL2 hz1;clear hl2 hb2 HNew hn0 HBa z0 z1 z2 z3 z4 z5 z6 z7;go_wp2
 go_loopw [10,11,26] (fun s10 s11 s26 wr=>∃ (k:Nat) (b:Br) (A1 G1:Bs),s10 = .string (str A1)∧s11 = .string (str G1)∧s26 = .int .i64 (k:Nat)∧k≤n∧LBx n0 g wr b∧Hid (SeJ Inv cf Ln k b A1 G1)∧Below gm w wr) (fun _ _ s _=>n - (intOf s).toNat)
 case atStart=>exact ⟨0,bnew cf,[],[],rfl,rfl,rfl,Nat.zero_le _,HL2.out,lj HO.out.2,HB2.out⟩
 case round =>
  obtain ⟨k,b,A1,G1,rfl,rfl,rfl,hk,hlr,HJ,hbr⟩:=hrel;have HLR:=lj hlr;have HBR:=lj hbr
  have hgw:gm≤wr.heap.size:=by rw [← HG.out]; exact hbr.size
  have hn0w:=hlr.le;clear hlr hbr HL2 HB2
  by_cases hlt:k<n
  rotate_left
  ·obtain rfl:k=n:=by omega
   have dk:decide ((k:Int)<(k:Int))=false:=by simp
   have HJ0:=lj (HJ.out.write0 HO.out.1 hn HS.out i);have hla:=HJ.out.la;have HLa:=lj (Nat.le_trans hla HS.out);clear HST HJ HL hla
   obtain ⟨wo,hwo⟩:∃ wo,wr=wo:=⟨_,rfl⟩
   rw [hwo] at HLR HBR hgw hn0w;rw [hwo];clear hwo wr;go_wp2
   go_loopw [11] (fun s11 wr=>∃ (b2:Br) (G2:Bs),s11 = .string (str G2)∧LBx n0 g wr b2∧Hid (SeW Inv i b2 A1 G2)∧Below gm w wr) (fun s _=>10000000 - lenS s)
   case atStart=>exact ⟨b,G1,rfl,HLR.out,HJ0,HBR.out⟩
   case round =>
    obtain ⟨b2,G2,rfl,hl2,HJ2,hb2⟩:=hrel
    have hgw2:gm≤wr.heap.size:=by rw [← HG.out]; exact hb2.size
    have HB2:=lj hb2;have HWr:=lj (lb_write hl2 HJ2.out.ev.ok (i:Nat) 1000 (wf_small (by omega)));clear hl2 hb2 HLR HJ0 HBR
    go_wp2_with fail
    refine HWr.out.mono ?_;rintro r w6 ⟨A5,m,c5,rfl,hl6,hb6,hby6,hmc,_⟩;have hlen:=hby6.1;have HL6:=lj hl6;have HB6:=lj (HB2.out.trans (hb6.mono hz1));have HBy6:=lj hby6
    have hgw6:gm≤w6.heap.size:=by rw [← HG.out]; exact HB6.out.size
    have hst:=still_write b2 i 1000;have hlg:=HJ2.out.lg;have HNx:=lj (HW.out A1 G2 b2 HJ2.out.inv);clear hl6 hb6 hby6 HWr HB2
    obtain ⟨X,hX⟩:∃ X,writeT b2 (i:Nat) 1000=X:=⟨_,rfl⟩
    rw [hX] at HBy6 hst HNx hlen;have hs2:=str_size G2
    by_cases hm:m=0
    ·subst hm
     have hX0:X=[]:=List.eq_nil_of_length_eq_zero hlen;subst hX0;obtain ⟨cc,w7,hcv,hby7,hb7,hcc,hsz7,hccm⟩:=conv_tob2 w6 G2 (by unfold maxLen; omega);have HM:=lj (lmsgs_any G2 (cap:=cc) w7 hby7 hsz7 hcc (by omega));have HB7:=lj (HB6.out.trans (hb7.mono hgw6))
     have hgw7:gm≤w7.heap.size:=by rw [← HG.out]; exact HB7.out.size
     have HX:=lj hX;have HLg:=lj (show G2.length≤10000000 by omega);clear hby7 hb7 hsz7 hlen hst hlg hX hs2 HBy6 HNx
     go_wp2_with fail
     refine HM.out.mono ?_;rintro r w8 ⟨R8,rc,ms,rr,rfl,hms,hrow,h5,hb8⟩
     have HF:=lj (show SentGives Inv i w (.returned (.tuple #[.slice R8 ms.length rc,.string (str A1),.bool (decide (rr=[]))])) w8 from
      ⟨A1,G2,b2,R8,rc,ms,rr,rfl,HJ2.out.inv,HX.out,HLa.out,HLg.out,hms,hrow.mono (by rw [HG.out]; exact hgw7),Nat.le_trans h5 HLg.out,by rw [HG.out]; exact HB7.out.trans (hb8.mono hgw7)⟩)
     clear hms hrow h5 hb8 HM hcv;go_wp2;exact bodyPost_ret (v:=.tuple #[.slice R8 ms.length rc,.string (str A1),.bool (decide (rr=[]))]) (by simp [results,Tryz.results10,go_sem]) rfl HF.out
    ·have dm:decide ((m:Int)=0)=false:=by simp; omega
     have dm2:((m:Int) == 0)=false:=by simp; omega
     have hcv:=conv_str (cap:=c5) HBy6.out;have hsX:=str_size X
     have hroom:¬ 9223372036854775807<(str G2).size+(str X).size:=by omega
     have HAp:=lj (str_app G2 X);have HF:=lj (show SeW Inv i (writeB b2 (i:Nat) 1000) A1 (G2 ++ X) from ⟨HJ2.out.ev.write (i:Nat) 1000,HNx.out,by rw [List.length_append]; omega⟩);have HMe:=lj (show 10000000 - (str (G2 ++ X)).size<10000000 - (str G2).size by rw [str_size,str_size,List.length_append]; omega);clear HNx hst hlg hX HBy6 hs2 hsX hlen;go_wp2;go_roundw
     case rel=>exact ⟨_,G2 ++ X,by first | rfl | (rw [HAp.out]) | go_num,HL6.out,HF,HB6.out⟩
     case measure =>
      have h:=HMe.out;rw [HAp.out] at h
      simpa [lenS] using h
  have dk:decide ((k:Int)<(n:Int))=true:=by simp; omega
  obtain ⟨bb,off,rfl,hbB,hc⟩:=(HL.out.below HBR.out).outer (by omega);obtain ⟨c0,c1,c2,c3⟩:=hc k hlt;obtain ⟨⟨_,hwi,_⟩,hby,hlc,_⟩:=HL.out.inner k hlt;obtain ⟨q,hq7,hand⟩:=bits_any (K k) 7 (by omega);replace hand:bits .and .i64 (K k) 7=(q:Int):=hand;have hsk:sumL Ln (k+1)≤6000:=Nat.le_trans (sumL_mono (show k+1≤n by omega)) HS.out;have hsk1:sumL Ln (k+1)=sumL Ln k+Ln k:=rfl
  have hha:0<Ln k→∀ p,A k=some p→p.block<n0:=fun h0 p hp=>by
   obtain ⟨b2,off2,e2,h2,_⟩:=hby.2 h0;rw [hp] at e2
   injection e2 with e2
   subst e2;exact Nat.lt_of_lt_of_le h2 hz1
  have HE:=lj (Bx.new wr _ rfl #[.int .i64 (K k),.int .i64 (I k),.int .i64 (R k),.slice (A k) (Ln k) (Cp k)] 43);have hbe:Below wr.heap.size wr (wr.alloc (.cells #[.int .i64 (K k),.int .i64 (I k),.int .i64 (R k),.slice (A k) (Ln k) (Cp k)] 43)):=(Below.refl _ _).alloc (Nat.le_refl _) _;have HLS:=lj (LBx.ls (S:=fun x=>x=wr.heap.size) HLR.out hbe (fun x hx=>by subst hx; exact ⟨Nat.le_refl _,by simp⟩));have HBy:=lj (hby.below (HBR.out.trans (hbe.mono hgw)));have HD:=lj (ls_do15 HLS.out hha HJ.out.at_.ev (by omega) (by omega) (K k) (I k) (R k) hwi HBy.out (Nat.le_trans hgw hbe.size) hlc (by omega) hand hq7);have HNx:=lj (fun h=>HJ.out.next HO.out.1 (i:Nat) q (I k) (R k) hby.1 hsk h);have HIn:=lj (HST.out k q A1 G1 b hlt hand hq7 HJ.out.at_ HJ.out.inv);have HWl:=lj (at_wlen HJ.out.at_ HO.out.1 (I k) (R k));have HLe:=lj (And.intro HJ.out.la HJ.out.lg);clear hc hha hby hsk hsk1 HLR
  go_upto_region 9 with fail
  generalize wr.alloc _=w5 at *;generalize wr.heap.size=gE at *;have HB5:=lj (HBR.out.trans (hbe.mono hgw))
  have hgw5:gm≤w5.heap.size:=by rw [← HG.out]; exact HB5.out.size
  have e0:=HE.out.cell 0 _ rfl;have e1:=HE.out.cell 1 _ rfl;have e2:=HE.out.cell 2 _ rfl;have e3:=HE.out.cell 3 _ rfl;clear c0 c1 c2 c3 hbe HBR HLS
  go_wp2_with fail
  refine HD.out.mono ?_;rintro r w6 ⟨rfl,hl6,ho6⟩;have HE6:=lj (HE.out.keep ho6 (fun h=>h.2 rfl));have HL6:=lj hl6.lbx;have HB6:=lj (HB5.out.trans (ho6.below hgw5 fun x hx h=>by have:=h.1; omega));have HBy6:=lj (HBy.out.below ((ho6.below (B:=gm) hgw5 fun x hx h=>by have:=h.1; omega)));clear hl6 ho6 HD HE HBy e0 e1 e2 e3 HB5;have e0:=HE6.out.cell 0 _ rfl;have e1:=HE6.out.cell 1 _ rfl;have e3:=HE6.out.cell 3 _ rfl;clear HE6
  obtain ⟨ex,hex⟩:∃ ex,doEx q b (I k) (R k)=ex:=⟨_,rfl⟩
  rw [hex]
  by_cases hx:ex=0
  rotate_left
  ·have dx:decide ((ex:Int)=0)=false:=by simp; omega
   have dx2:((ex:Int) == 0)=false:=by simp; omega
   have HF:=lj (show SeJ Inv cf Ln (k+1) (doEv q b (I k) (R k) (T k)) A1 G1 from by
    have h:=HNx.out HIn.out;have a1:sA q b (I k) (R k) (T k) A1=A1:=if_neg (by rw [hex]; omega);have a2:sG (i:Nat) q b (I k) (R k) G1=G1:=if_neg (by rw [hex]; omega)
    rwa [a1,a2] at h)
   clear HNx HIn hand hex HBy6 HLe HWl;go_wp2;go_roundw
   case rel=>exact ⟨k+1,_,A1,G1,by first | rfl | go_num,by first | rfl | go_num,by go_num,by omega,HL6.out,HF,HB6.out⟩
   case measure=>simp [intOf]; omega
  subst hx
  have dx:decide (((0:Nat):Int)=0)=true:=by simp
  have hsA:=str_size A1;have hsG:=str_size G1;have hla1:=HLe.out.1;have hlg1:=HLe.out.2;have hsn:sumL Ln k≤6000:=Nat.le_trans (sumL_mono (show k≤n by omega)) HS.out
  have hk120:k≤120:=by omega
  by_cases hq3:q=3
  ·subst hq3
   replace hand:bits .and .i64 (K k) 7=3:=hand
   have HF:=lj (show SeJ Inv cf Ln (k+1) (doEv 3 b (I k) (R k) (T k)) (A1 ++ T k) G1 from by
    have h:=HNx.out HIn.out;have a1:sA 3 b (I k) (R k) (T k) A1=A1 ++ T k:=if_pos ⟨hex,rfl⟩
    have a2:sG (i:Nat) 3 b (I k) (R k) G1=G1:=by unfold sG; rw [if_pos hex,if_neg (by omega),if_neg (by omega)]
    rwa [a1,a2] at h)
   have hcv:=conv_str (cap:=Cp k) HBy6.out;have hsT:=str_size (T k);have htl:=HBy6.out.1
   have hsl:Ln k≤6000:=by have:sumL Ln (k+1)≤6000:=Nat.le_trans (sumL_mono (show k+1≤n by omega)) HS.out; have e:sumL Ln (k+1)=sumL Ln k+Ln k:=rfl; omega
   have hroom:¬ 9223372036854775807<(str A1).size+(str (T k)).size:=by omega
   have HAp:=lj (str_app A1 (T k));clear HNx HIn hex HBy6 HLe HWl hsA hsG hsT htl hsl hla1 hlg1 hsn hk120;go_wp2;go_roundw
   case rel=>exact ⟨k+1,_,A1 ++ T k,G1,by first | rfl | (rw [HAp.out]) | go_num,by first | rfl | go_num,by go_num,by omega,HL6.out,HF,HB6.out⟩
   case measure=>simp [intOf]; omega
  by_cases hq2:q=2
  ·subst hq2
   replace hand:bits .and .i64 (K k) 7=2:=hand
   by_cases hI:I k=(i:Nat)
   ·have HF:=lj (show SeJ Inv cf Ln (k+1) (doEv 2 b (I k) (R k) (T k)) A1 (G1 ++ writeT b (I k) (R k)) from by
     have h:=HNx.out HIn.out;have a1:sA 2 b (I k) (R k) (T k) A1=A1:=if_neg (by omega)
     have a2:sG (i:Nat) 2 b (I k) (R k) G1=G1 ++ writeT b (I k) (R k):=by unfold sG; rw [if_pos hex,if_pos ⟨rfl,hI⟩]
     rwa [a1,a2] at h)
    have hdx:doTx 2 b (I k) (R k)=writeT b (I k) (R k):=rfl;have HDx:=lj hdx;rw [hdx];have hwl:=HWl.out
    obtain ⟨X,hX⟩:∃ X,writeT b (I k) (R k)=X:=⟨_,rfl⟩
    rw [hX] at HF hwl;rw [hX];have hsX:=str_size X
    have hroom:¬ 9223372036854775807<(str G1).size+(str X).size:=by omega
    have HAp:=lj (str_app G1 X);have HI:=lj hI
    have dI:decide (I k=(i:Int))=true:=by simp [hI]
    have dI2:(I k == (i:Int))=true:=by simp [hI]
    clear HNx HIn hex HBy6 HLe HWl hsA hsG hsX hla1 hlg1 hsn hk120 hX hwl hdx hI;go_wp2;go_roundw
    case rel=>exact ⟨k+1,_,A1,G1 ++ X,by first | rfl | go_num,by first | rfl | (rw [HAp.out]) | go_num,by go_num,by omega,HL6.out,HF,HB6.out⟩
    case measure=>simp [intOf]; omega
   ·have HF:=lj (show SeJ Inv cf Ln (k+1) (doEv 2 b (I k) (R k) (T k)) A1 G1 from by
     have h:=HNx.out HIn.out;have a1:sA 2 b (I k) (R k) (T k) A1=A1:=if_neg (by omega)
     have a2:sG (i:Nat) 2 b (I k) (R k) G1=G1:=by unfold sG; rw [if_pos hex,if_neg (fun h=>hI h.2),if_neg (by omega)]
     rwa [a1,a2] at h)
    have HI:=lj hI
    have dI:decide (I k=(i:Int))=false:=by simp [hI]
    have dI2:(I k == (i:Int))=false:=by simp [hI]
    clear HNx HIn hex HBy6 HLe HWl hsA hsG hla1 hlg1 hsn hk120 hI;go_wp2;go_roundw
    case rel=>exact ⟨k+1,_,A1,G1,by first | rfl | go_num,by first | rfl | go_num,by go_num,by omega,HL6.out,HF,HB6.out⟩
    case measure=>simp [intOf]; omega
  by_cases hq0:q=0
  ·subst hq0
   replace hand:bits .and .i64 (K k) 7=0:=hand
   by_cases hI:I k=(i:Nat)
   ·have HF:=lj (show SeJ Inv cf Ln (k+1) (doEv 0 b (I k) (R k) (T k)) A1 [] from by
     have h:=HNx.out HIn.out;have a1:sA 0 b (I k) (R k) (T k) A1=A1:=if_neg (by omega)
     have a2:sG (i:Nat) 0 b (I k) (R k) G1=[]:=by unfold sG; rw [if_pos hex,if_neg (by omega),if_pos ⟨rfl,hI⟩]
     rwa [a1,a2] at h)
    have HI:=lj hI
    have dI:decide (I k=(i:Int))=true:=by simp [hI]
    have dI2:(I k == (i:Int))=true:=by simp [hI]
    clear HNx HIn hex HBy6 HLe HWl hsA hsG hla1 hlg1 hsn hk120 hI;go_wp2;go_roundw
    case rel=>exact ⟨k+1,_,A1,[],by first | rfl | go_num,by first | rfl | go_num,by go_num,by omega,HL6.out,HF,HB6.out⟩
    case measure=>simp [intOf]; omega
   ·have HF:=lj (show SeJ Inv cf Ln (k+1) (doEv 0 b (I k) (R k) (T k)) A1 G1 from by
     have h:=HNx.out HIn.out;have a1:sA 0 b (I k) (R k) (T k) A1=A1:=if_neg (by omega)
     have a2:sG (i:Nat) 0 b (I k) (R k) G1=G1:=by unfold sG; rw [if_pos hex,if_neg (by omega),if_neg (fun h=>hI h.2)]
     rwa [a1,a2] at h)
    have HI:=lj hI
    have dI:decide (I k=(i:Int))=false:=by simp [hI]
    have dI2:(I k == (i:Int))=false:=by simp [hI]
    clear HNx HIn hex HBy6 HLe HWl hsA hsG hla1 hlg1 hsn hk120 hI;go_wp2;go_roundw
    case rel=>exact ⟨k+1,_,A1,G1,by first | rfl | go_num,by first | rfl | go_num,by go_num,by omega,HL6.out,HF,HB6.out⟩
    case measure=>simp [intOf]; omega
  have HF:=lj (show SeJ Inv cf Ln (k+1) (doEv q b (I k) (R k) (T k)) A1 G1 from by
   have h:=HNx.out HIn.out;have a1:sA q b (I k) (R k) (T k) A1=A1:=if_neg (by omega)
   have a2:sG (i:Nat) q b (I k) (R k) G1=G1:=by unfold sG; rw [if_pos hex,if_neg (by omega),if_neg (by omega)]
   rwa [a1,a2] at h)
  have d3:decide ((q:Int)=3)=false:=by simp; omega
  have d3':((q:Int) == 3)=false:=by simp; omega
  have d2:decide ((q:Int)=2)=false:=by simp; omega
  have d2':((q:Int) == 2)=false:=by simp; omega
  have d0:decide ((q:Int)=0)=false:=by simp; omega
  have d0':((q:Int) == 0)=false:=by simp; omega
  clear HNx HIn hex HBy6 HLe HWl hsA hsG hla1 hlg1 hsn hk120 hq3 hq2 hq0;go_wp2;go_roundw
  case rel=>exact ⟨k+1,_,A1,G1,by first | rfl | go_num,by first | rfl | go_num,by go_num,by omega,HL6.out,HF,HB6.out⟩
  case measure=>simp [intOf]; omega
end
section
open Go.RowKit
open Fr Bk
def PlainAt (k:Int) (t:Bs):Prop:=bits .and .i64 k 7≠6∧(bits .and .i64 k 7=1→No29 t)
def PlainEv (n:Nat) (K:Nat→Int) (T:Nat→Bs) (w:World) (e:Ending) (w':World):Prop:=∃ f:Bool,e = .returned (.bool f)∧(f=true→∀ k,k<n→PlainAt (K k) (T k))∧Below w.heap.size w w'
theorem plain_any {a:Option Addr} {n cap:Nat} {K I R:Nat→Int} {A:Nat→Option Addr} {Ln Cp:Nat→Nat} {T:Nat→Bs} (w:World) (hl:Ievs w w.heap.size a n K I R A Ln Cp T) (hm:n≤9223372036854775807) :
  Calls Tryz.prog 9 #[.slice a n cap] w (PlainEv n K T w):=by
 have HL:=lj hl;have HB:=lj (Below.refl w.heap.size w);clear hl
 obtain ⟨gm,hg⟩:∃ g,w.heap.size=g:=⟨_,rfl⟩
 rw [hg] at HL HB;have HG:=lj hg;clear hg
 go_enter Tryz.func9,Tryz.ntmps9
 go_wp2
 go_loopw [9] (fun s wr=>∃ (k:Nat),s = .int .i64 (k:Nat)∧k≤n∧Hid (∀ j,j<k→PlainAt (K j) (T j))∧Below gm w wr) (fun s _=>n - (intOf s).toNat)
 case atStart=>exact ⟨0,rfl,Nat.zero_le _,lj (fun j hj=>absurd hj (by omega)),HB.out⟩
 case round =>
  obtain ⟨k,rfl,hk,HP,hbr⟩:=hrel;have HBr:=lj hbr
  have hgw:gm≤wr.heap.size:=by rw [← HG.out]; exact hbr.size
  clear hbr HB
  by_cases hlt:k<n
  rotate_left
  ·obtain rfl:k=n:=by omega
   have dk:decide ((k:Int)<(k:Int))=false:=by simp
   have HF:=lj (show PlainEv k K T w (.returned (.bool true)) wr from ⟨true,rfl,fun _=>HP.out,by rw [HG.out]; exact HBr.out⟩);clear HP HBr;go_wp2;go_ret;exact HF.out
  have dk:decide ((k:Int)<(n:Int))=true:=by simp; omega
  obtain ⟨bb,off,rfl,hbB,hc⟩:=(HL.out.below HBr.out).outer (by omega);obtain ⟨c0,c1,c2,c3⟩:=hc k hlt;obtain ⟨_,hby,hlc,hcm⟩:=HL.out.inner k hlt;have hLb:Ln k≤9223372036854775807:=Nat.le_trans hlc (Nat.le_trans hcm (by decide))
  obtain ⟨Ak,hAk⟩:∃ Ak,A k=Ak:=⟨_,rfl⟩
  obtain ⟨Lk,hLk⟩:∃ Lk,Ln k=Lk:=⟨_,rfl⟩
  rw [hAk,hLk] at c3 hby;rw [hLk] at hLb;have HE:=lj (Bx.new wr _ rfl #[.int .i64 (K k),.int .i64 (I k),.int .i64 (R k),.slice Ak Lk (Cp k)] 43);have hbe:Below wr.heap.size wr (wr.alloc (.cells #[.int .i64 (K k),.int .i64 (I k),.int .i64 (R k),.slice Ak Lk (Cp k)] 43)):=(Below.refl _ _).alloc (Nat.le_refl _) _;have HBy:=lj (hby.below (HBr.out.trans (hbe.mono hgw)));have HB5:=lj (HBr.out.trans (hbe.mono hgw));obtain ⟨q,hq7,hand⟩:=bits_any (K k) 7 (by omega);replace hand:bits .and .i64 (K k) 7=(q:Int):=hand;clear hc hby hbe hAk hLk hlc hcm
  go_upto_region 4 with fail
  generalize wr.alloc _=w5 at *;generalize wr.heap.size=gE at *;have e0:=HE.out.cell 0 _ rfl;have e3:=HE.out.cell 3 _ rfl
  have HR:∀ j,j<k→PlainAt (K j) (T j):=HP.out
  have HPn:=lj (fun (h6:q≠6) (h1:q=1→No29 (T k))=>(show ∀ j,j<k+1→PlainAt (K j) (T j) from fun j hj=>by
   rcases (by omega:j<k∨j=k) with h | rfl
   ·exact HR j h
   ·exact ⟨by rw [hand]; omega,fun h=>h1 (by rw [hand] at h; omega)⟩))
  have hno:∀ e,Hid (PlainEv n K T w (.returned (.bool false)) e)∨True:=fun _=>.inr trivial
  have HNo:=lj (show PlainEv n K T w (.returned (.bool false)) w5 from ⟨false,rfl,fun h=>(by cases h),by rw [HG.out]; exact HB5.out⟩);clear HP HR hno c0 c1 c2 c3 HE;go_wp2
  go_loopw [16] (fun s wr=>∃ (j:Nat),s = .int .i64 (j:Nat)∧j≤Lk∧Hid (q=1→No29 ((T k).take j))∧wr=w5) (fun s _=>Lk - (intOf s).toNat)
  case atStart=>exact ⟨0,rfl,Nat.zero_le _,lj (fun _ x hx=>by simp at hx),rfl⟩
  case round =>
   obtain ⟨j,rfl,hj,HJ,rfl⟩:=hrel
   by_cases hjl:j<Lk
   ·have dj:decide ((j:Int)<(Lk:Int))=true:=by simp; omega
    obtain ⟨b2,o2,hA2,hb2,hcb⟩:=HBy.out.2 (by omega);have hcj:=hcb j hjl;have htl:=HBy.out.1;have HTk:=lj (show (T k).take (j+1)=(T k).take j ++ [(T k)[j]?.getD 0#8] from by rw [List.take_add_one,List.getElem?_eq_getElem (by omega)]; rfl)
    obtain ⟨x,hx⟩:∃ x,(T k)[j]?.getD 0#8=x:=⟨_,rfl⟩
    rw [hx] at hcj HTk;subst hA2;clear hcb hx htl
    by_cases h29:x=29#8
    ·subst h29
     replace hcj:wr.cell? ⟨b2,o2+j,none⟩=some (.int .u8 29):=hcj
     by_cases h1:q=1
     ·subst h1
      replace hand:bits .and .i64 (K k) 7=1:=hand;clear HPn HJ HTk HB5;go_wp2;go_ret;exact HNo.out
     ·have d1:decide ((q:Int)=1)=false:=by simp; omega
      have d1':((q:Int) == 1)=false:=by simp; omega
      have HJ2:Hid (q=1→No29 ((T k).take (j+1))):=lj (fun e=>absurd e h1);clear HPn HJ HTk h1;go_wp2;go_roundw
      case rel=>exact ⟨j+1,by go_num,by omega,HJ2,by first | rfl | trivial⟩
      case measure=>simp [intOf]; omega
    ·have hx29:¬ ((x.toNat:Nat):Int)=29:=fun e=>h29 (BitVec.eq_of_toNat_eq (by show x.toNat=29; omega))
     have d29:decide (((x.toNat:Nat):Int)=29)=false:=by simp; omega
     have d29':(((x.toNat:Nat):Int) == 29)=false:=by simp; omega
     have HJ2:Hid (q=1→No29 ((T k).take (j+1))):=lj (fun e y hy=>by
      rw [HTk.out] at hy
      rcases List.mem_append.1 hy with h | h
      ·exact HJ.out e y h
      ·rw [List.mem_singleton.1 h]; exact h29)
     clear HPn HJ HTk h29 hx29;go_wp2;go_roundw
     case rel=>exact ⟨j+1,by go_num,by omega,HJ2,by first | rfl | trivial⟩
     case measure=>simp [intOf]; omega
   ·obtain rfl:j=Lk:=by omega
    have dj:decide ((j:Int)<(j:Int))=false:=by simp
    have htl:=HBy.out.1;have HNb:=lj (show q=1→No29 (T k) from fun e=>by have h:=HJ.out e; rwa [List.take_of_length_le (by omega)] at h)
    by_cases h6:q=6
    ·subst h6
     replace hand:bits .and .i64 (K k) 7=6:=hand;clear HPn HJ HNb;go_wp2;go_ret;exact HNo.out
    ·have d6:decide ((q:Int)=6)=false:=by simp; omega
     have d6':((q:Int) == 6)=false:=by simp; omega
     have HP2:=lj (HPn.out h6 HNb.out);clear HPn HJ HNb h6 HNo htl;go_wp2;go_roundw
     case rel=>exact ⟨k+1,by go_num,by omega,HP2,HB5.out⟩
     case measure=>simp [intOf]; omega
end
section
open Go.RowKit
open Fr Bk
theorem si_step {i sk:Nat} {cf:Cf} {Ln:Nat→Nat} {k q:Nat} {A G:Bs} {b:Br} {kd id n:Int} {t:Bs} (hq:bits .and .i64 kd 7=(q:Nat)) (hq7:q≤7) (hat:AtEv cf Ln k b) (ht:t.length=Ln k) (hs:sumL Ln (k+1)≤6000) (hp:PlainAt kd t) (h:SI i sk A G b) :
  SI i sk (sA q b id n t A) (sG (i:Nat) q b id n G) (doEv q b id n t):=by
 obtain ⟨hp6,hp1⟩:=hp;rw [hq] at hp6 hp1
 rcases (by omega:q=0∨q=1∨q=2∨q=3∨q=4∨q=5∨q=6∨q=7) with rfl | rfl | rfl | rfl | rfl | rfl | rfl | rfl
 ·have h1:=h.connect id
  have e1:sA 0 b id n t A=A:=if_neg (by omega)
  have e2:sG (i:Nat) 0 b id n G=(if id=(i:Nat)∧connectE b id=0 then [] else G):=by
   unfold sG
   show (if connectE b id=0 then _ else G)=_
   by_cases h0:connectE b id=0
   ·rw [if_pos h0,if_neg (by omega)]
    by_cases hi:id=(i:Nat)
    ·rw [if_pos ⟨rfl,hi⟩,if_pos ⟨hi,h0⟩]
    ·rw [if_neg (fun h=>hi h.2),if_neg (fun h=>hi h.1)]
   ·rw [if_neg h0,if_neg (fun h=>h0 h.2)]
  rw [e1,e2];exact h1
 ·have h1:=h.bytes id (hp1 rfl)
  have e1:sA 1 b id n t A=A:=if_neg (by omega)
  have e2:sG (i:Nat) 1 b id n G=G:=by
   unfold sG
   split
   ·rw [if_neg (by omega),if_neg (by omega)]
   ·rfl
  rw [e1,e2];exact h1
 ·have h1:=h.write id n
  have e1:sA 2 b id n t A=A:=if_neg (by omega)
  have e2:sG (i:Nat) 2 b id n G=(if id=(i:Nat) then G ++ writeT b id n else G):=by
   unfold sG
   show (if writeE b id=0 then _ else G)=_
   by_cases h0:writeE b id=0
   ·rw [if_pos h0]
    by_cases hi:id=(i:Nat)
    ·rw [if_pos ⟨rfl,hi⟩,if_pos hi]
    ·rw [if_neg (fun h=>hi h.2),if_neg (by omega),if_neg hi]
   ·rw [if_neg h0]
    have hw:writeT b id n=[]:=by
     unfold writeE at h0;unfold writeT
     split at h0
     ·exact absurd rfl h0
     ·next hi=>rw [if_neg hi]
    rw [hw,List.append_nil]
    split <;> rfl
  rw [e1,e2];exact h1
 ·have hlen:=hat.ev.len
  have hs1:sumL Ln (k+1)=sumL Ln k+Ln k:=rfl;have h1:=h.output t (fun _=>by rw [List.length_append]; omega)
  have e1:sA 3 b id n t A=(if outputE b=0 then A ++ t else A):=by
   unfold sA
   by_cases h0:outputE b=0
   ·exact (if_pos ⟨h0,rfl⟩).trans (if_pos h0).symm
   ·exact (if_neg (fun h=>h0 h.1)).trans (if_neg h0).symm
  have e2:sG (i:Nat) 3 b id n G=G:=by
   unfold sG
   split
   ·rw [if_neg (by omega),if_neg (by omega)]
   ·rfl
  rw [e1,e2];exact h1
 ·have e1:sA 4 b id n t A=A:=if_neg (by omega)
  have e2:sG (i:Nat) 4 b id n G=G:=by
   unfold sG
   split
   ·rw [if_neg (by omega),if_neg (by omega)]
   ·rfl
  rw [e1,e2];exact h.drain n
 ·have e1:sA 5 b id n t A=A:=if_neg (by omega)
  have e2:sG (i:Nat) 5 b id n G=G:=by
   unfold sG
   split
   ·rw [if_neg (by omega),if_neg (by omega)]
   ·rfl
  rw [e1,e2];exact h.tick
 ·exact absurd rfl hp6
 ·have e1:sA 7 b id n t A=A:=if_neg (by omega)
  have e2:sG (i:Nat) 7 b id n G=G:=by
   unfold sG
   split
   ·rw [if_neg (by omega),if_neg (by omega)]
   ·rfl
  rw [e1,e2];exact h.ends n
theorem sent_list {i sk:Nat} {A G:Bs} {b:Br} (h:SI i sk A G b) (h1:1≤i) (h2:i≤16) (hw:writeT b (i:Nat) 1000=[]) {ms:List M} {r:Bs} (hm:Msgs G ms r):r=[]∧Sent sk A G ms:=by
 obtain ⟨ms2,hs⟩:=h.end_ h1 h2 (by decide) hw;obtain ⟨e1,e2⟩:=msgs_all ms hm.all hm.ok hs.2.1 hs.1 hm.stop;subst e1;exact ⟨e2,hs⟩
end
section
open Go.RowKit
open Fr Bk
structure PdW (w w1:World) (e:Sc.Ev):Prop where
 ev:Bx w.heap.size w1 #[.int .i64 e.k,.int .i64 e.i,.int .i64 e.n,.string (str e.t)]
 out:Bx (w.heap.size+1) w1 #[.int .i64 0,.string ⟨#[]⟩]
 b:Below w.heap.size w w1
end
end Go.Proofs.YtdpagmcickkbmaaGreatDoor
