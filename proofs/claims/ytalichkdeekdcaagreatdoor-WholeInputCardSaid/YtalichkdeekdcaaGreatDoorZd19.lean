/- PMm PMn POu -/
import Derived.Test.YtalichkdeekdcaaGreatDoorZd06
import Derived.Test.YtalichkdeekdcaaGreatDoorZd16
namespace Go.Proofs.YtalichkdeekdcaaGreatDoor
set_option maxRecDepth 100000
open Go.Lib renaming hid → lj
section
open Go.RowKit
open Bk (M)
def msc (e:M):List Value:=[.int .i64 e.k,.int .i64 e.a,.int .i64 e.b,.string (str e.t)]
def mscells (L:List M):List Value:=L.flatMap msc
theorem mscells_len (L:List M):(mscells L).length=L.length * 4:=by
 induction L with
 | nil=>rfl
 | cons e L ih=>simp [mscells,msc] at ih ⊢; omega
theorem mscells_app (L K:List M):mscells (L ++ K)=mscells L ++ mscells K:=by simp [mscells]
theorem mscells_get:∀ (L:List M) (r:Nat) (e:M),L[r]?=some e→(mscells L)[r * 4]?=some (.int .i64 e.k)∧(mscells L)[r * 4+1]?=some (.int .i64 e.a)∧(mscells L)[r * 4+2]?=some (.int .i64 e.b)∧(mscells L)[r * 4+3]?=some (.string (str e.t))
  | [],r,e,h=>by simp at h
  | x :: L,0,e,h=>by
    simp at h;subst h;exact ⟨rfl,rfl,rfl,rfl⟩
  | x :: L,r+1,e,h=>by
    have:=mscells_get L r e (by simpa using h);rw [show (r+1) * 4=r * 4+4 by omega];exact this
theorem mscells_one (L:List M):∀ u∈mscells L,u.oneCell'=true:=by
 intro u hu;unfold mscells at hu;rw [List.mem_flatMap] at hu;obtain ⟨e,_,he⟩:=hu;simp [msc] at he
 rcases he with rfl | rfl | rfl | rfl <;> rfl
structure MsgIn (w:World) (B:Nat) (a:Option Addr) (L:List M):Prop where
 outer:0<L.length→∃ b off,a=some ⟨b,off,none⟩∧b<B∧∀ r e,L[r]?=some e→w.cell? ⟨b,off+r * 4,none⟩=some (.int .i64 e.k)∧w.cell? ⟨b,off+r * 4+1,none⟩=some (.int .i64 e.a)∧w.cell? ⟨b,off+r * 4+2,none⟩=some (.int .i64 e.b)∧w.cell? ⟨b,off+r * 4+3,none⟩=some (.string (str e.t))
 inner:∀ e∈L,e.t.length≤maxLen
section
variable {w w':World} {B:Nat} {a:Option Addr} {L:List M}
theorem MsgIn.keep (h:MsgIn w B a L) (hb:∀ p:Addr,p.block<B→w'.cell? p=w.cell? p):MsgIn w' B a L:=
  ⟨fun hn=>by
    obtain ⟨b,off,e,hlt,hc⟩:=h.outer hn
    exact ⟨b,off,e,hlt,fun r m hr=>⟨(hb ⟨b,off+r * 4,none⟩ hlt).trans (hc r m hr).1,(hb ⟨b,off+r * 4+1,none⟩ hlt).trans (hc r m hr).2.1,(hb ⟨b,off+r * 4+2,none⟩ hlt).trans (hc r m hr).2.2.1,(hb ⟨b,off+r * 4+3,none⟩ hlt).trans (hc r m hr).2.2.2⟩⟩,
   h.inner⟩
theorem MsgIn.below (h:MsgIn w B a L) (hb:Below B w w'):MsgIn w' B a L:=h.keep fun _ hp=>hb.cell hp
theorem MsgIn.src (h:MsgIn w B a L) (hn:0<L.length):∃ ad,a=some ad∧ad.block<B∧∀ j u,(mscells L)[j]?=some u→w.cell? (ad.add j)=some u:=by
 obtain ⟨b,off,rfl,hlt,hc⟩:=h.outer hn;refine ⟨_,rfl,hlt,fun j u hu=>?_⟩
 have hj:j<L.length * 4:=by
  rcases Nat.lt_or_ge j (mscells L).length with h' | h'
  ·rw [mscells_len] at h'; exact h'
  ·rw [List.getElem?_eq_none h'] at hu; cases hu
 have hr:j / 4<L.length:=by omega
 have he:=List.getElem?_eq_getElem hr;obtain ⟨g0,g1,g2,g3⟩:=mscells_get L (j / 4) _ he;obtain ⟨c0,c1,c2,c3⟩:=hc (j / 4) _ he;rw [add_none]
 rcases (show j=j / 4 * 4∨j=j / 4 * 4+1∨j=j / 4 * 4+2∨j=j / 4 * 4+3 by omega) with hq | hq | hq | hq
 ·rw [hq] at hu ⊢; rw [g0] at hu; rw [← hu]; exact c0
 ·rw [hq] at hu ⊢; rw [g1] at hu; rw [← hu,← Nat.add_assoc]; exact c1
 ·rw [hq] at hu ⊢; rw [g2] at hu; rw [← hu,← Nat.add_assoc]; exact c2
 ·rw [hq] at hu ⊢; rw [g3] at hu; rw [← hu,← Nat.add_assoc]; exact c3
end
structure MsgRow (base:Nat) (w:World) (a:Option Addr) (n c:Nat) (L:List M):Prop where
 row:w.ownsRow base 42 4 (.slice a n c) n (mscells L)
 cap:n≤c
 inner:∀ e∈L,e.t.length≤maxLen
theorem own_belowk {base e k n:Nat} {v:Value} {xs:List Value} {w w':World} (h:w.ownsRow base e k v n xs) (hb:Below w.heap.size w w'):w'.ownsRow base e k v n xs:=by
 refine ⟨h.1,?_⟩
 rcases h.2 with h1 | ⟨g,cap,cur,h1,h2,h3,h4⟩
 ·exact .inl h1
 ·refine .inr ⟨g,cap,cur,h1,h2,?_,h4⟩
  have hlt:g<w.heap.size:=by
   rcases Nat.lt_or_ge g w.heap.size with h' | h'
   ·exact h'
   ·rw [Array.getElem?_eq_none h'] at h3; cases h3
  exact (hb.block g hlt).trans h3
section
variable {base n c:Nat} {w w':World} {a:Option Addr} {L:List M}
theorem MsgRow.len (h:MsgRow base w a n c L):L.length=n:=by
 have:=h.row.1;rw [mscells_len] at this;omega
theorem MsgRow.below (h:MsgRow base w a n c L) (hb:Below w.heap.size w w'):MsgRow base w' a n c L:=⟨own_belowk h.row hb,h.cap,h.inner⟩
theorem MsgRow.empty (w:World) (hb:base≤w.heap.size):MsgRow base (w.alloc (.cells #[] 42)) (some ⟨w.heap.size,0,none⟩) 0 0 []:=
 ⟨⟨rfl,.inr ⟨w.heap.size,0,#[],rfl,hb,heap_alloc_new w _,Nat.le_refl _,Nat.zero_le _,rfl,rfl⟩⟩,Nat.le_refl _,fun _ h=>by cases h⟩
theorem MsgRow.msin (h:MsgRow base w a n c L):MsgIn w w.heap.size a L:=by
 refine ⟨fun hn=>?_,h.inner⟩;obtain ⟨g,cap,hv,h1,h2⟩:=h.row.form (by have:=h.len; omega)
 injection hv with hv
 subst hv;refine ⟨g,0,rfl,h2,fun r e hr=>?_⟩;obtain ⟨h3,h4,h5,h6⟩:=mscells_get L r e hr;have c3:=h.row.cells (g:=g) rfl _ _ h3;have c4:=h.row.cells (g:=g) rfl _ _ h4;have c5:=h.row.cells (g:=g) rfl _ _ h5;have c6:=h.row.cells (g:=g) rfl _ _ h6;rw [add_none] at c3 c4 c5 c6;exact ⟨c3,by rw [Nat.add_assoc]; exact c4,by rw [Nat.add_assoc]; exact c5,by rw [Nat.add_assoc]; exact c6⟩
end
theorem msg_info:∃ i,Tryz.prog.info? 42=some i∧i.zero=some (.agg #[.int .i64 0,.int .i64 0,.int .i64 0,.string ⟨#[]⟩])∧i.size=4∧i.bytes=40:=info_parts (by kernel_rfl)
theorem run_mapp (ty:TypeId) {base n c:Nat} {w:World} {a:Option Addr} {L:List M} (h:MsgRow base w a n c L) {B:Nat} {A:Option Addr} {m c2:Nat} {K:List M} (hs:MsgIn w B A K) (hm:K.length=m)
  (hroom:n+m≤3000000000000) (hbase:base≤w.heap.size) :
  ∃ A2 c3 w',(Builtin.append_ #[36,36] ty #[.slice a n c,.slice A m c2]).run Tryz.prog w = .ok (.slice A2 (n+m) c3) w'∧MsgRow base w' A2 (n+m) c3 (L ++ K)∧Below base w w':=by
 obtain ⟨i0,hi0,hi1,hi2,hi3⟩:=msg_info
 by_cases h0:m=0
 ·subst h0
  have hM:K=[]:=List.eq_nil_of_length_eq_zero hm;subst hM;refine ⟨a,c,w,?_,by simpa using h,Below.refl _ w⟩;have hcap:=h.cap;refine run_append_nothing w 36 36 ty 42 i0 Tryz.underlying36 hi0 a n c hcap _ ?_
  rcases A with _ | ad
  ·exact Src.ofNil w Tryz.underlying36 c2
  ·exact Src.ofSlice w Tryz.underlying36 ad 0 c2 [] (by simp) (by intro j u hu; simp at hu) (by intro u hu; cases hu)
 ·obtain ⟨ad,rfl,_,hc⟩:=hs.src (by omega)
  obtain ⟨v',w',hrun,h1,h2,_,_⟩:=run_append_own_at (P:=Tryz.prog) (w:=w) base 36 ty 42 i0 _ 4 40 Tryz.underlying36 hi0 hi1 hi2 hi3 rfl (by omega) (.slice a n c) n (mscells L) h.row ad m c2 (mscells K)
   (by rw [mscells_len,hm]) hc (mscells_one K) (by unfold maxLen; omega) (by omega) hbase
  have hform:∃ A2 c3,v' = .slice A2 (n+m) c3∧n+m≤c3:=by
   rcases h1.2 with ⟨rfl,h0⟩ | ⟨g,cap,cur,rfl,_,_,h5,_⟩
   ·omega
   ·exact ⟨_,cap,rfl,h5⟩
  obtain ⟨A2,c3,rfl,hc3⟩:=hform;refine ⟨A2,c3,w',hrun,⟨by rw [mscells_app]; exact h1,hc3,fun e he=>?_⟩,(Below.refl _ _).grown h2 hbase (fun g hg=>(h.row.lt g hg).1)⟩
  rcases List.mem_append.1 he with h' | h'
  ·exact h.inner e h'
  ·exact hs.inner e h'
theorem wpList_mapp {w:World} {ops:Array Oper} {rest:List Oper} {o:Oper} {act:Act} {Q:Exit→Act→World→Prop} (hgd:o.guard=none) (s x:Operand)
  (hop:o.op = .call { callee:=.builtin .append,args:=#[s,x],argTypes:=#[36,36] })
  {base n c:Nat} {a:Option Addr} {L:List M} (hv:act.eval s = .slice a n c) (h:MsgRow base w a n c L) {B:Nat} {A:Option Addr} {m c2:Nat} {K:List M} (hx:act.eval x = .slice A m c2) (hs:MsgIn w B A K) (hm:K.length=m)
  (hroom:n+m≤3000000000000) (hbase:base≤w.heap.size)
  (hk:∀ A2 c3 w',MsgRow base w' A2 (n+m) c3 (L ++ K)→Below base w w'→wpList Tryz.prog ops Q rest (act.put o.dst (.slice A2 (n+m) c3)) w') :
  wpList Tryz.prog ops Q (o :: rest) act w:=by
 obtain ⟨A2,c3,w',hrun,h1,h2⟩:=run_mapp o.type h (c2:=c2) hs hm hroom hbase
 refine wpList_plain hgd fun K0 hK=>?_
 unfold Oper.wp execOp;simp only [hop,resolve,invoke,builtin,Sem.run_bind,Sem.run_pure,Result.andThen_ok,List.map_toArray,List.map_cons,List.map_nil,hv,hx,hrun];exact hK _ _ (hk A2 c3 w' h1 h2)
theorem msg_one (w:World) (e:M) (he:e.t.length≤maxLen) (t:TypeId):MsgIn (w.alloc (.cells #[.int .i64 e.k,.int .i64 e.a,.int .i64 e.b,.string (str e.t)] t)) (w.heap.size+1) (some ⟨w.heap.size,0,none⟩) [e]:=by
 refine ⟨fun _=>⟨w.heap.size,0,rfl,by omega,fun r x hr=>?_⟩,fun x hx=>by simp at hx; subst hx; exact he⟩;have h:=Bx.new w _ rfl #[.int .i64 e.k,.int .i64 e.a,.int .i64 e.b,.string (str e.t)] t
 rcases r with _ | r
 ·simp at hr
  subst hr;exact ⟨h.cell 0 _ rfl,h.cell 1 _ rfl,h.cell 2 _ rfl,h.cell 3 _ rfl⟩
 ·simp at hr
def mvalo:Option Bk.M→Value
 | some m=>.agg #[.int .i64 m.k,.int .i64 m.a,.int .i64 m.b,.string (str m.t)]
 | none=>.agg #[.int .i64 0,.int .i64 0,.int .i64 0,.string ByteArray.empty]
theorem of_mof {f:BitVec 8×Fr.Bs} {e:Ending} (h:OfPost f.1.toNat f.2 e):e = .returned (.tuple #[mvalo (Bk.mof f),.bool (Bk.mof f).isSome]):=by
 unfold Bk.mof
 rcases ho:Ms.ofOk f.1.toNat f.2 with _ | _
 ·exact h.2 ho
 ·exact h.1 ho
end
section
open Go.RowKit
open Fr Bk
def lenm:Value→Nat
 | .slice _ m _=>m
 | _=>0
theorem lmessages_any (ms:List M) (hok:∀ m∈ms,m.ok=true) {B n cap:Nat} {a:Option Addr} (w:World) (hl:Bytes w B a n (encs ms)) (hB:B≤w.heap.size) (hcap:n≤cap) (hn:n≤1000000000) :
    Calls Tryz.prog 25 #[.slice a n cap] w fun e w'=>∃ R rc,e = .returned (.tuple #[.slice R ms.length rc,.bool true])∧MsgRow w.heap.size w' R ms.length rc ms∧Below w.heap.size w w':=by
  have HL:=lj hl;have HOK:=lj hok;clear hl hok
  go_enter Tryz.func25,Tryz.ntmps25
  go_wp2
  go_loopw [0,4] (fun s0 s4 wr=>∃ (A:Option Addr) (m c:Nat) (K:List M) (R:Option Addr) (rn rc:Nat) (D:List M),s0 = .slice A m c∧s4 = .slice R rn rc∧m≤c∧m≤n∧Bytes wr B A m (encs K)∧MsgRow w.heap.size wr R rn rc D∧D ++ K=ms∧5 * rn+m≤n∧Below w.heap.size w wr) (fun s0 _ _=>lenm s0)
  case atStart=>exact ⟨a,n,cap,ms,_,0,0,[],rfl,rfl,hcap,Nat.le_refl _,HL.out.below ((Below.refl _ _).alloc hB _),MsgRow.empty w (Nat.le_refl _),rfl,by omega,(Below.refl _ _).alloc (Nat.le_refl _) _⟩
  case round =>
    obtain ⟨A,m,c,K,R,rn,rc,D,rfl,rfl,hmc,hmn,hq,hrow,hdk,h6,hbr⟩:=hrel;have HQ:=lj hq;have HR:=lj hrow;have HDK:=lj hdk;have HBr:=lj hbr;have hBr:B≤wr.heap.size:=Nat.le_trans hB hbr.size;clear hq hrow hdk hbr HL
    rcases K with _ | ⟨x,K⟩
    · have hm0:m=0:=HQ.out.1.symm.trans rfl
      subst hm0
      have hD:D=ms:=by rw [← HDK.out,List.append_nil]
      have d0:decide ((0:Nat) > 0)=false:=rfl;have d1:decide (0<(0:Nat))=false:=rfl;have hrl:=HR.out.len;have HG:=lj (show MsgRow w.heap.size wr R ms.length rc ms by rw [← hD,hrl]; exact HR.out)
      have hrn:rn=ms.length:=by rw [← hD,hrl]
      subst hrn;clear hD hrl HR HQ HDK;go_wp2;refine bodyPost_ret (v:=.tuple #[.slice R ms.length rc,.bool true]) (by simp [results,Tryz.results25,go_sem]) rfl ?_;exact ⟨R,rc,rfl,HG.out,HBr.out⟩
    · have hx:x.ok=true:=HOK.out x (by rw [← HDK.out]; simp)
      have he:encs (x :: K)=fr (fm x).1 (fm x).2 ++ encs K:=rfl
      have hg:get (encs (x :: K))=⟨(fm x).1,(fm x).2,(fm x).2.length+5,0⟩:=by rw [he]; exact get_fr _ _ _ (ok_len hx)
      have hlen:(fm x).2.length+5≤m:=by
        have:=HQ.out.1;rw [he,List.length_append,fr_len] at this;omega
      have hdr:(encs (x :: K)).drop ((fm x).2.length+5)=encs K:=by rw [he,List.drop_left' (fr_len _ _)]
      have hmf:=mof_fm hx
      have htl:x.t.length≤maxLen:=by
        have:=Ms.rt_n hx;have:=Ms.tx_le x.k;unfold maxLen;omega
      have d0:decide (m > 0)=true:=by simp; omega
      have d1:decide (0<m)=true:=by simp; omega
      have HH:=lj (And.intro hg (And.intro hdr (And.intro hmf htl)));clear hg hdr hmf htl he hx
      obtain ⟨f,hf⟩:∃ f,fm x=f:=⟨_,rfl⟩
      rw [hf] at HH hlen;clear hf
      have hf2:f.2.length+5≤1000000000:=by omega
      go_wp2_with fail
      refine (get_anyF A m c B _ wr HQ.out hBr hmc (by omega)).mono ?_;rintro e w3 ⟨A3,c3,rfl,hby,hb3,hfresh,hcp⟩;rw [HH.out.1] at hby hcp ⊢;have HR3:=lj (HR.out.below (hb3.mono (Nat.le_refl _)));have HQ3:=lj (HQ.out.below (hb3.mono hBr));have HB3:=lj (Below.trans HBr.out (hb3.mono HBr.out.size));have HBy:=lj hby;have hsz3:=hb3.size;have hB3:B≤w3.heap.size:=Nat.le_trans hBr hsz3;have hcp:f.2.length≤c3:=hcp
      have hal:∀ o,Below w3.heap.size w3 (w3.alloc o):=fun o=>(Below.refl _ _).alloc (Nat.le_refl _) o
      have HO1:=lj (hal (.cells #[.int .u8 f.1.toNat,.slice A3 f.2.length c3] 57));have hx1:=Bx.new w3 _ rfl #[.int .u8 f.1.toNat,.slice A3 f.2.length c3] 57;have x0:=hx1.cell 0 _ rfl;have x1:=hx1.cell 1 _ rfl;have hOf:=mof_any f.1 A3 f.2.length c3 w3.heap.size f.2 (w3.alloc (.cells #[.int .u8 f.1.toNat,.slice A3 f.2.length c3] 57)) (HBy.out.below (hal _)) (by simp) hcp (by omega);have HOf:=lj hOf;have hd0:((0:Int) != 0)=false:=rfl;clear hby hb3 hfresh HR HQ HBr hal hx1 hOf
      go_wp2_with fail
      refine HOf.out.mono ?_;rintro e w4 ⟨hpost,hb4⟩;obtain rfl:=of_mof hpost;rw [HH.out.2.2.1];have HB4:=lj (Below.trans HO1.out (hb4.mono HO1.out.size));have hsz4:w3.heap.size≤w4.heap.size:=HB4.out.size
      have hN1:((f.2.length:Int)+5)≤(m:Int):=by omega
      clear hb4 hpost x0 x1 HOf HO1;have hmv:mvalo (some x) = .agg #[.int .i64 x.k,.int .i64 x.a,.int .i64 x.b,.string (str x.t)]:=rfl;have his:(some x).isSome=true:=rfl;rw [hmv,his];clear hmv his
      have hal4:∀ o,Below w4.heap.size w4 (w4.alloc o):=fun o=>(Below.refl _ _).alloc (Nat.le_refl _) o
      have HR4:=lj (HR3.out.below HB4.out);have hx4:=Bx.new w4 _ rfl #[.int .i64 x.k,.int .i64 x.a,.int .i64 x.b,.string (str x.t)] 42;have y0:=hx4.cell 0 _ rfl;have y1:=hx4.cell 1 _ rfl;have y2:=hx4.cell 2 _ rfl;have y3:=hx4.cell 3 _ rfl;have HB5:=lj (hal4 (.cells #[.int .i64 x.k,.int .i64 x.a,.int .i64 x.b,.string (str x.t)] 42));clear hx4 hal4
      go_upto_region 7 with fail
      generalize w4.alloc (.cells #[.int .i64 x.k,.int .i64 x.a,.int .i64 x.b,.string (str x.t)] 42)=w5 at *;have hsz5:=HB5.out.size;have HR5:=lj (HR4.out.below HB5.out);have HA5:=lj (show ∀ o,Below w5.heap.size w5 (w5.alloc o) from fun o=>(Below.refl _ _).alloc (Nat.le_refl _) o);have hw5:w.heap.size≤w5.heap.size:=Nat.le_trans HB3.out.size (Nat.le_trans hsz4 hsz5);clear HR3 HR4
      go_wp2_with (first
        | (at_builtin
           refine wpList_mapp rfl (.tmp 32) (.tmp 34) rfl rfl (HR5.out.below (HA5.out _)) rfl (msg_one w5 x HH.out.2.2.2 _) rfl (by omega) (Nat.le_trans hw5 (by simp)) ?_;intro A6 c6 w6 hr6 hb6;have HR6:=lj hr6;have HB6:=lj hb6
           clear hr6 hb6)
        )
      go_roundw
      case rel =>
        have hb6:Below w.heap.size w w6:=Below.trans HB3.out (Below.trans (HB4.out.mono HB3.out.size) (Below.trans (HB5.out.mono (Nat.le_trans HB3.out.size hsz4)) (Below.trans ((HA5.out _).mono hw5) HB6.out)));have hq6:=(((HQ3.out.below (HB4.out.mono hB3)).below (HB5.out.mono (Nat.le_trans hB3 hsz4))).below ((HA5.out (.cells #[.int .i64 x.k,.int .i64 x.a,.int .i64 x.b,.string (str x.t)] 42)).mono (Nat.le_trans hB3 (Nat.le_trans hsz4 hsz5)))).below (HB6.out.mono hB);have hc:=hq6.cut (k:=f.2.length+5) hlen hmc;rw [HH.out.2.1] at hc;exact ⟨cutA A c (f.2.length+5),m - (f.2.length+5),c - (f.2.length+5),K,A6,rn+1,c6,D ++ [x],rfl,rfl,by omega,by omega,hc,HR6.out,by rw [List.append_assoc]; exact HDK.out,by omega,hb6⟩
      case measure=>show m - (f.2.length+5)<m; omega
def NewBytes (w:World) (t:Bs) (e:Ending) (w':World):Prop:=
 ∃ A c,e = .returned (.slice A t.length c)∧Bytes w' w'.heap.size A t.length t∧(∀ p,A=some p→w.heap.size≤p.block)∧t.length≤c∧Below w.heap.size w w'
theorem put_new (m:M) (hm:m.ok=true) (w:World):Calls Tryz.prog 43 #[.slice none 0 0,.agg #[.int .i64 m.k,.int .i64 m.a,.int .i64 m.b,.string (str m.t)]] w (NewBytes w (enc m)):=by
 refine (mput_yes none 0 0 0 [] m.k m.a m.b m.t (enc m).length (enc m) (by unfold enc; rw [fr_len,Ms.body_len]; omega) (by simp [enc]) w hm (Bytes.nil _) (Nat.zero_le _) (by decide)).mono ?_;rintro e w' ⟨A,c,rfl,ho,hb⟩;exact ⟨A,c,rfl,ho.bytes,fun p hp=>by subst hp; exact (ho.row.lt p.block rfl).1,ho.cap,hb⟩
end
section
open Go.RowKit
structure Ot where
 e:Nat
 t:Bs
deriving DecidableEq
def otc (x:Ot):List Value:=[.int .i64 (x.e:Nat),.string (str x.t)]
def ocells (L:List Ot):List Value:=L.flatMap otc
theorem ocells_len (L:List Ot):(ocells L).length=L.length * 2:=by
 induction L with
 | nil=>rfl
 | cons e L ih=>simp [ocells,otc] at ih ⊢; omega
theorem ocells_app (L M:List Ot):ocells (L ++ M)=ocells L ++ ocells M:=by simp [ocells]
theorem ocells_get:∀ (L:List Ot) (r:Nat) (x:Ot),L[r]?=some x→(ocells L)[r * 2]?=some (.int .i64 (x.e:Nat))∧(ocells L)[r * 2+1]?=some (.string (str x.t))
  | [],r,x,h=>by simp at h
  | y :: L,0,x,h=>by
    simp at h;subst h;exact ⟨rfl,rfl⟩
  | y :: L,r+1,x,h=>by
    have:=ocells_get L r x (by simpa using h);rw [show (r+1) * 2=r * 2+2 by omega];exact this
theorem ocells_one (L:List Ot):∀ u∈ocells L,u.oneCell'=true:=by
 intro u hu;unfold ocells at hu;rw [List.mem_flatMap] at hu;obtain ⟨e,_,he⟩:=hu;simp [otc] at he
 rcases he with rfl | rfl <;> rfl
def OtIn (w:World) (B:Nat) (a:Option Addr) (L:List Ot):Prop:=
 0<L.length→∃ b off,a=some ⟨b,off,none⟩∧b<B∧∀ r x,L[r]?=some x→w.cell? ⟨b,off+r * 2,none⟩=some (.int .i64 (x.e:Nat))∧w.cell? ⟨b,off+r * 2+1,none⟩=some (.string (str x.t))
theorem OtIn.below {w w':World} {B:Nat} {a:Option Addr} {L:List Ot} (h:OtIn w B a L) (hb:Below B w w'):OtIn w' B a L:=fun hn=>by
 obtain ⟨b,off,e,hlt,hc⟩:=h hn;exact ⟨b,off,e,hlt,fun r m hr=>⟨(hb.cell (p:=⟨b,off+r * 2,none⟩) hlt).trans (hc r m hr).1,(hb.cell (p:=⟨b,off+r * 2+1,none⟩) hlt).trans (hc r m hr).2⟩⟩
theorem OtIn.src {w:World} {B:Nat} {a:Option Addr} {L:List Ot} (h:OtIn w B a L) (hn:0<L.length):∃ ad,a=some ad∧ad.block<B∧∀ j u,(ocells L)[j]?=some u→w.cell? (ad.add j)=some u:=by
 obtain ⟨b,off,rfl,hlt,hc⟩:=h hn;refine ⟨_,rfl,hlt,fun j u hu=>?_⟩
 have hj:j<L.length * 2:=by
  rcases Nat.lt_or_ge j (ocells L).length with h' | h'
  ·rw [ocells_len] at h'; exact h'
  ·rw [List.getElem?_eq_none h'] at hu; cases hu
 have hr:j / 2<L.length:=by omega
 obtain ⟨g0,g1⟩:=ocells_get L (j / 2) _ (List.getElem?_eq_getElem hr);obtain ⟨c0,c1⟩:=hc (j / 2) _ (List.getElem?_eq_getElem hr);rw [add_none]
 rcases (show j=j / 2 * 2∨j=j / 2 * 2+1 by omega) with hq | hq
 ·rw [hq] at hu ⊢; rw [g0] at hu; rw [← hu]; exact c0
 ·rw [hq] at hu ⊢; rw [g1] at hu; rw [← hu,← Nat.add_assoc]; exact c1
structure OtRow (base:Nat) (w:World) (a:Option Addr) (n c:Nat) (L:List Ot):Prop where
 row:w.ownsRow base 53 2 (.slice a n c) n (ocells L)
 cap:n≤c
section
variable {base n c:Nat} {w w':World} {a:Option Addr} {L:List Ot}
theorem OtRow.len (h:OtRow base w a n c L):L.length=n:=by
 have:=h.row.1;rw [ocells_len] at this;omega
theorem OtRow.below (h:OtRow base w a n c L) (hb:Below w.heap.size w w'):OtRow base w' a n c L:=⟨own_belowk h.row hb,h.cap⟩
theorem OtRow.mono {base':Nat} (h:OtRow base w a n c L) (hb:base'≤base):OtRow base' w a n c L:=by
 refine ⟨⟨h.row.1,?_⟩,h.cap⟩
 rcases h.row.2 with h0 | ⟨g,cap,cur,e,hb2,hrest⟩
 ·exact .inl h0
 ·exact .inr ⟨g,cap,cur,e,Nat.le_trans hb hb2,hrest⟩
theorem OtRow.only {S:Nat→Prop} (h:OtRow base w a n c L) (hO:Only S w w') (ha:∀ p,a=some p→¬ S p.block):OtRow base w' a n c L:=by
 refine ⟨⟨h.row.1,?_⟩,h.cap⟩
 rcases h.row.2 with h0 | ⟨g,cap,cur,e,h1,h2,h3⟩
 ·exact .inl h0
 ·refine .inr ⟨g,cap,cur,e,h1,?_,h3⟩
  have hlt:g<w.heap.size:=by
   rcases Nat.lt_or_ge g w.heap.size with h' | h'
   ·exact h'
   ·rw [Array.getElem?_eq_none h'] at h2; cases h2
  have e2:a=some ⟨g,0,none⟩:=by injection e
  exact (hO.block g hlt (ha _ e2)).trans h2
theorem OtRow.lt (h:OtRow base w a n c L) {p:Addr} (hp:a=some p):base≤p.block∧p.block<w.heap.size:=h.row.lt p.block (by subst hp; rfl)
theorem OtRow.nil (base:Nat) (w:World):OtRow base w none 0 0 []:=⟨⟨rfl,.inl ⟨rfl,rfl⟩⟩,Nat.le_refl _⟩
theorem OtRow.otin (h:OtRow base w a n c L):OtIn w w.heap.size a L:=fun hn=>by
 obtain ⟨g,cap,hv,h1,h2⟩:=h.row.form (by have:=h.len; omega)
 injection hv with hv
 subst hv;refine ⟨g,0,rfl,h2,fun r e hr=>?_⟩;obtain ⟨h3,h4⟩:=ocells_get L r e hr;have c3:=h.row.cells (g:=g) rfl _ _ h3;have c4:=h.row.cells (g:=g) rfl _ _ h4;rw [add_none] at c3 c4;exact ⟨c3,by rw [Nat.add_assoc]; exact c4⟩
end
theorem ot_info:∃ i,Tryz.prog.info? 53=some i∧i.zero=some (.agg #[.int .i64 0,.string ⟨#[]⟩])∧i.size=2∧i.bytes=24:=info_parts (by kernel_rfl)
theorem run_oapp (ty:TypeId) {base n c:Nat} {w:World} {a:Option Addr} {L:List Ot} (h:OtRow base w a n c L) {B:Nat} {A:Option Addr} {m c2:Nat} {M:List Ot} (hs:OtIn w B A M) (hm:M.length=m)
  (hroom:n+m≤3000000000000) (hbase:base≤w.heap.size) :
  ∃ A2 c3 w',(Builtin.append_ #[33,33] ty #[.slice a n c,.slice A m c2]).run Tryz.prog w = .ok (.slice A2 (n+m) c3) w'∧OtRow base w' A2 (n+m) c3 (L ++ M)∧Only (In a) w w'∧∀ p,A2=some p→In a p.block∨w.heap.size≤p.block:=by
 obtain ⟨i0,hi0,hi1,hi2,hi3⟩:=ot_info
 by_cases h0:m=0
 ·subst h0
  have hM:M=[]:=List.eq_nil_of_length_eq_zero hm;subst hM;refine ⟨a,c,w,?_,by simpa using h,Only.refl _ w,fun p hp=>.inl ⟨p,hp,rfl⟩⟩;have hcap:=h.cap;refine run_append_nothing w 33 33 ty 53 i0 Tryz.underlying33 hi0 a n c hcap _ ?_
  rcases A with _ | ad
  ·exact Src.ofNil w Tryz.underlying33 c2
  ·exact Src.ofSlice w Tryz.underlying33 ad 0 c2 [] (by simp) (by intro j u hu; simp at hu) (by intro u hu; cases hu)
 ·obtain ⟨ad,rfl,_,hc⟩:=hs.src (by omega)
  obtain ⟨v',w',hrun,h1,h2,_,h9⟩:=run_append_own_at (P:=Tryz.prog) (w:=w) base 33 ty 53 i0 _ 2 24 Tryz.underlying33 hi0 hi1 hi2 hi3 rfl (by omega) (.slice a n c) n (ocells L) h.row ad m c2 (ocells M)
   (by rw [ocells_len,hm]) hc (ocells_one M) (by unfold maxLen; omega) (by omega) hbase
  have hform:∃ A2 c3,v' = .slice A2 (n+m) c3∧n+m≤c3:=by
   rcases h1.2 with ⟨rfl,h0⟩ | ⟨g,cap,cur,rfl,_,_,h5,_⟩
   ·omega
   ·exact ⟨_,cap,rfl,h5⟩
  obtain ⟨A2,c3,rfl,hc3⟩:=hform;refine ⟨A2,c3,w',hrun,⟨by rw [ocells_app]; exact h1,hc3⟩,Only.grown h2 fun k hk _=>?_,fun p hp=>?_⟩
  ·rcases a with _ | p
   ·cases hk
   ·exact ⟨p,rfl,by injection hk⟩
  ·subst hp
   rcases h9 with h9 | h9
   ·rcases a with _ | q
    ·cases h9
    ·exact .inl ⟨q,rfl,by injection h9 with h9; exact h9.symm⟩
   ·exact .inr (by injection h9 with h9; exact Nat.le_of_eq h9.symm)
theorem wpList_oapp {w:World} {ops:Array Oper} {rest:List Oper} {o:Oper} {act:Act} {Q:Exit→Act→World→Prop} (hgd:o.guard=none) (s x:Operand)
  (hop:o.op = .call { callee:=.builtin .append,args:=#[s,x],argTypes:=#[33,33] })
  {base n c:Nat} {a:Option Addr} {L:List Ot} (hv:act.eval s = .slice a n c) (h:OtRow base w a n c L) {B:Nat} {A:Option Addr} {m c2:Nat} {M:List Ot} (hx:act.eval x = .slice A m c2) (hs:OtIn w B A M) (hm:M.length=m)
  (hroom:n+m≤3000000000000) (hbase:base≤w.heap.size)
  (hk:∀ A2 c3 w',OtRow base w' A2 (n+m) c3 (L ++ M)→Only (In a) w w'→(∀ p,A2=some p→In a p.block∨w.heap.size≤p.block)→wpList Tryz.prog ops Q rest (act.put o.dst (.slice A2 (n+m) c3)) w') :
  wpList Tryz.prog ops Q (o :: rest) act w:=by
 obtain ⟨A2,c3,w',hrun,h1,h2,h3⟩:=run_oapp o.type h (c2:=c2) hs hm hroom hbase
 refine wpList_plain hgd fun K hK=>?_
 unfold Oper.wp execOp;simp only [hop,resolve,invoke,builtin,Sem.run_bind,Sem.run_pure,Result.andThen_ok,List.map_toArray,List.map_cons,List.map_nil,hv,hx,hrun];exact hK _ _ (hk A2 c3 w' h1 h2 h3)
theorem ot_one (w:World) (x:Ot) (t:TypeId):OtIn (w.alloc (.cells #[.int .i64 (x.e:Nat),.string (str x.t)] t)) (w.heap.size+1) (some ⟨w.heap.size,0,none⟩) [x]:=fun _=>by
 refine ⟨w.heap.size,0,rfl,by omega,fun r y hr=>?_⟩;have h:=Bx.new w _ rfl #[.int .i64 (x.e:Nat),.string (str x.t)] t
 rcases r with _ | r
 ·simp at hr
  subst hr;exact ⟨h.cell 0 _ rfl,h.cell 1 _ rfl⟩
 ·simp at hr
end
end Go.Proofs.YtalichkdeekdcaaGreatDoor
