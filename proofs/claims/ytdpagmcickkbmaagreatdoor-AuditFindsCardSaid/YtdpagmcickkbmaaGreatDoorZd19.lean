/- PMm PMn PVd POu -/
import Derived.Test.YtdpagmcickkbmaaGreatDoorZd06
import Derived.Test.YtdpagmcickkbmaaGreatDoorZd16
namespace Go.Proofs.YtdpagmcickkbmaaGreatDoor
set_option maxRecDepth 100000
open Go.Lib renaming hid → lj
section
open Go.RowKit
open Bk (M)
def msc (e:M):List Value:=[.int .i64 e.k,.int .i64 e.a,.int .i64 e.b,.string (str e.t)]
def mscells (L:List M):List Value:=L.flatMap msc
theorem mscells_len (L:List M):(mscells L).length=L.length * 4:=by
 induction L with
 | nil=>rfl
 | cons e L ih=>simp [mscells,msc] at ih ⊢; omega
theorem mscells_app (L K:List M):mscells (L ++ K)=mscells L ++ mscells K:=by simp [mscells]
theorem mscells_get:∀ (L:List M) (r:Nat) (e:M),L[r]?=some e→(mscells L)[r * 4]?=some (.int .i64 e.k)∧(mscells L)[r * 4+1]?=some (.int .i64 e.a)∧(mscells L)[r * 4+2]?=some (.int .i64 e.b)∧(mscells L)[r * 4+3]?=some (.string (str e.t))
  | [],r,e,h=>by simp at h
  | x :: L,0,e,h=>by
    simp at h;subst h;exact ⟨rfl,rfl,rfl,rfl⟩
  | x :: L,r+1,e,h=>by
    have:=mscells_get L r e (by simpa using h);rw [show (r+1) * 4=r * 4+4 by omega];exact this
theorem mscells_one (L:List M):∀ u∈mscells L,u.oneCell'=true:=by
 intro u hu;unfold mscells at hu;rw [List.mem_flatMap] at hu;obtain ⟨e,_,he⟩:=hu;simp [msc] at he
 rcases he with rfl | rfl | rfl | rfl <;> rfl
structure MsgIn (w:World) (B:Nat) (a:Option Addr) (L:List M):Prop where
 outer:0<L.length→∃ b off,a=some ⟨b,off,none⟩∧b<B∧∀ r e,L[r]?=some e→w.cell? ⟨b,off+r * 4,none⟩=some (.int .i64 e.k)∧w.cell? ⟨b,off+r * 4+1,none⟩=some (.int .i64 e.a)∧w.cell? ⟨b,off+r * 4+2,none⟩=some (.int .i64 e.b)∧w.cell? ⟨b,off+r * 4+3,none⟩=some (.string (str e.t))
 inner:∀ e∈L,e.t.length≤maxLen
section
variable {w w':World} {B:Nat} {a:Option Addr} {L:List M}
theorem MsgIn.keep (h:MsgIn w B a L) (hb:∀ p:Addr,p.block<B→w'.cell? p=w.cell? p):MsgIn w' B a L:=
  ⟨fun hn=>by
    obtain ⟨b,off,e,hlt,hc⟩:=h.outer hn
    exact ⟨b,off,e,hlt,fun r m hr=>⟨(hb ⟨b,off+r * 4,none⟩ hlt).trans (hc r m hr).1,(hb ⟨b,off+r * 4+1,none⟩ hlt).trans (hc r m hr).2.1,(hb ⟨b,off+r * 4+2,none⟩ hlt).trans (hc r m hr).2.2.1,(hb ⟨b,off+r * 4+3,none⟩ hlt).trans (hc r m hr).2.2.2⟩⟩,
   h.inner⟩
theorem MsgIn.below (h:MsgIn w B a L) (hb:Below B w w'):MsgIn w' B a L:=h.keep fun _ hp=>hb.cell hp
theorem MsgIn.take (h:MsgIn w B a L) (k:Nat):MsgIn w B a (L.take k):=by
 refine ⟨fun hn=>?_,fun m hm=>h.inner m (List.mem_of_mem_take hm)⟩;obtain ⟨b,off,e,hlt,hc⟩:=h.outer (by simp at hn; omega);refine ⟨b,off,e,hlt,fun r m hr=>hc r m ?_⟩;rw [List.getElem?_take] at hr
 split at hr
 ·exact hr
 ·simp at hr
theorem MsgIn.src (h:MsgIn w B a L) (hn:0<L.length):∃ ad,a=some ad∧ad.block<B∧∀ j u,(mscells L)[j]?=some u→w.cell? (ad.add j)=some u:=by
 obtain ⟨b,off,rfl,hlt,hc⟩:=h.outer hn;refine ⟨_,rfl,hlt,fun j u hu=>?_⟩
 have hj:j<L.length * 4:=by
  rcases Nat.lt_or_ge j (mscells L).length with h' | h'
  ·rw [mscells_len] at h'; exact h'
  ·rw [List.getElem?_eq_none h'] at hu; cases hu
 have hr:j / 4<L.length:=by omega
 have he:=List.getElem?_eq_getElem hr;obtain ⟨g0,g1,g2,g3⟩:=mscells_get L (j / 4) _ he;obtain ⟨c0,c1,c2,c3⟩:=hc (j / 4) _ he;rw [add_none]
 rcases (show j=j / 4 * 4∨j=j / 4 * 4+1∨j=j / 4 * 4+2∨j=j / 4 * 4+3 by omega) with hq | hq | hq | hq
 ·rw [hq] at hu ⊢; rw [g0] at hu; rw [← hu]; exact c0
 ·rw [hq] at hu ⊢; rw [g1] at hu; rw [← hu,← Nat.add_assoc]; exact c1
 ·rw [hq] at hu ⊢; rw [g2] at hu; rw [← hu,← Nat.add_assoc]; exact c2
 ·rw [hq] at hu ⊢; rw [g3] at hu; rw [← hu,← Nat.add_assoc]; exact c3
end
structure MsgRow (base:Nat) (w:World) (a:Option Addr) (n c:Nat) (L:List M):Prop where
 row:w.ownsRow base 38 4 (.slice a n c) n (mscells L)
 cap:n≤c
 inner:∀ e∈L,e.t.length≤maxLen
theorem own_belowk {base e k n:Nat} {v:Value} {xs:List Value} {w w':World} (h:w.ownsRow base e k v n xs) (hb:Below w.heap.size w w'):w'.ownsRow base e k v n xs:=by
 refine ⟨h.1,?_⟩
 rcases h.2 with h1 | ⟨g,cap,cur,h1,h2,h3,h4⟩
 ·exact .inl h1
 ·refine .inr ⟨g,cap,cur,h1,h2,?_,h4⟩
  have hlt:g<w.heap.size:=by
   rcases Nat.lt_or_ge g w.heap.size with h' | h'
   ·exact h'
   ·rw [Array.getElem?_eq_none h'] at h3; cases h3
  exact (hb.block g hlt).trans h3
section
variable {base n c:Nat} {w w':World} {a:Option Addr} {L:List M}
theorem MsgRow.len (h:MsgRow base w a n c L):L.length=n:=by
 have:=h.row.1;rw [mscells_len] at this;omega
theorem MsgRow.below (h:MsgRow base w a n c L) (hb:Below w.heap.size w w'):MsgRow base w' a n c L:=⟨own_belowk h.row hb,h.cap,h.inner⟩
theorem MsgRow.mono {base':Nat} (h:MsgRow base w a n c L) (hb:base'≤base):MsgRow base' w a n c L:=by
 refine ⟨⟨h.row.1,?_⟩,h.cap,h.inner⟩
 rcases h.row.2 with h0 | ⟨g,cap,cur,e,hb2,hrest⟩
 ·exact .inl h0
 ·exact .inr ⟨g,cap,cur,e,Nat.le_trans hb hb2,hrest⟩
theorem MsgRow.lt (h:MsgRow base w a n c L) {p:Addr} (hp:a=some p):base≤p.block∧p.block<w.heap.size:=by
 subst hp;exact h.row.lt p.block rfl
theorem MsgRow.empty (w:World) (hb:base≤w.heap.size):MsgRow base (w.alloc (.cells #[] 38)) (some ⟨w.heap.size,0,none⟩) 0 0 []:=
 ⟨⟨rfl,.inr ⟨w.heap.size,0,#[],rfl,hb,heap_alloc_new w _,Nat.le_refl _,Nat.zero_le _,rfl,rfl⟩⟩,Nat.le_refl _,fun _ h=>by cases h⟩
theorem MsgRow.msin (h:MsgRow base w a n c L):MsgIn w w.heap.size a L:=by
 refine ⟨fun hn=>?_,h.inner⟩;obtain ⟨g,cap,hv,h1,h2⟩:=h.row.form (by have:=h.len; omega)
 injection hv with hv
 subst hv;refine ⟨g,0,rfl,h2,fun r e hr=>?_⟩;obtain ⟨h3,h4,h5,h6⟩:=mscells_get L r e hr;have c3:=h.row.cells (g:=g) rfl _ _ h3;have c4:=h.row.cells (g:=g) rfl _ _ h4;have c5:=h.row.cells (g:=g) rfl _ _ h5;have c6:=h.row.cells (g:=g) rfl _ _ h6;rw [add_none] at c3 c4 c5 c6;exact ⟨c3,by rw [Nat.add_assoc]; exact c4,by rw [Nat.add_assoc]; exact c5,by rw [Nat.add_assoc]; exact c6⟩
end
theorem msg_info:∃ i,Tryz.prog.info? 38=some i∧i.zero=some (.agg #[.int .i64 0,.int .i64 0,.int .i64 0,.string ⟨#[]⟩])∧i.size=4∧i.bytes=40:=info_parts (by kernel_rfl)
theorem run_mapp (ty:TypeId) {base n c:Nat} {w:World} {a:Option Addr} {L:List M} (h:MsgRow base w a n c L) {B:Nat} {A:Option Addr} {m c2:Nat} {K:List M} (hs:MsgIn w B A K) (hm:K.length=m)
  (hroom:n+m≤3000000000000) (hbase:base≤w.heap.size) :
  ∃ A2 c3 w',(Builtin.append_ #[28,28] ty #[.slice a n c,.slice A m c2]).run Tryz.prog w = .ok (.slice A2 (n+m) c3) w'∧MsgRow base w' A2 (n+m) c3 (L ++ K)∧Below base w w':=by
 obtain ⟨i0,hi0,hi1,hi2,hi3⟩:=msg_info
 by_cases h0:m=0
 ·subst h0
  have hM:K=[]:=List.eq_nil_of_length_eq_zero hm;subst hM;refine ⟨a,c,w,?_,by simpa using h,Below.refl _ w⟩;have hcap:=h.cap;refine run_append_nothing w 28 28 ty 38 i0 Tryz.underlying28 hi0 a n c hcap _ ?_
  rcases A with _ | ad
  ·exact Src.ofNil w Tryz.underlying28 c2
  ·exact Src.ofSlice w Tryz.underlying28 ad 0 c2 [] (by simp) (by intro j u hu; simp at hu) (by intro u hu; cases hu)
 ·obtain ⟨ad,rfl,_,hc⟩:=hs.src (by omega)
  obtain ⟨v',w',hrun,h1,h2,_,_⟩:=run_append_own_at (P:=Tryz.prog) (w:=w) base 28 ty 38 i0 _ 4 40 Tryz.underlying28 hi0 hi1 hi2 hi3 rfl (by omega) (.slice a n c) n (mscells L) h.row ad m c2 (mscells K)
   (by rw [mscells_len,hm]) hc (mscells_one K) (by unfold maxLen; omega) (by omega) hbase
  have hform:∃ A2 c3,v' = .slice A2 (n+m) c3∧n+m≤c3:=by
   rcases h1.2 with ⟨rfl,h0⟩ | ⟨g,cap,cur,rfl,_,_,h5,_⟩
   ·omega
   ·exact ⟨_,cap,rfl,h5⟩
  obtain ⟨A2,c3,rfl,hc3⟩:=hform;refine ⟨A2,c3,w',hrun,⟨by rw [mscells_app]; exact h1,hc3,fun e he=>?_⟩,(Below.refl _ _).grown h2 hbase (fun g hg=>(h.row.lt g hg).1)⟩
  rcases List.mem_append.1 he with h' | h'
  ·exact h.inner e h'
  ·exact hs.inner e h'
theorem wpList_mapp {w:World} {ops:Array Oper} {rest:List Oper} {o:Oper} {act:Act} {Q:Exit→Act→World→Prop} (hgd:o.guard=none) (s x:Operand)
  (hop:o.op = .call { callee:=.builtin .append,args:=#[s,x],argTypes:=#[28,28] })
  {base n c:Nat} {a:Option Addr} {L:List M} (hv:act.eval s = .slice a n c) (h:MsgRow base w a n c L) {B:Nat} {A:Option Addr} {m c2:Nat} {K:List M} (hx:act.eval x = .slice A m c2) (hs:MsgIn w B A K) (hm:K.length=m)
  (hroom:n+m≤3000000000000) (hbase:base≤w.heap.size)
  (hk:∀ A2 c3 w',MsgRow base w' A2 (n+m) c3 (L ++ K)→Below base w w'→wpList Tryz.prog ops Q rest (act.put o.dst (.slice A2 (n+m) c3)) w') :
  wpList Tryz.prog ops Q (o :: rest) act w:=by
 obtain ⟨A2,c3,w',hrun,h1,h2⟩:=run_mapp o.type h (c2:=c2) hs hm hroom hbase
 refine wpList_plain hgd fun K0 hK=>?_
 unfold Oper.wp execOp;simp only [hop,resolve,invoke,builtin,Sem.run_bind,Sem.run_pure,Result.andThen_ok,List.map_toArray,List.map_cons,List.map_nil,hv,hx,hrun];exact hK _ _ (hk A2 c3 w' h1 h2)
theorem msg_one (w:World) (e:M) (he:e.t.length≤maxLen) (t:TypeId):MsgIn (w.alloc (.cells #[.int .i64 e.k,.int .i64 e.a,.int .i64 e.b,.string (str e.t)] t)) (w.heap.size+1) (some ⟨w.heap.size,0,none⟩) [e]:=by
 refine ⟨fun _=>⟨w.heap.size,0,rfl,by omega,fun r x hr=>?_⟩,fun x hx=>by simp at hx; subst hx; exact he⟩;have h:=Bx.new w _ rfl #[.int .i64 e.k,.int .i64 e.a,.int .i64 e.b,.string (str e.t)] t
 rcases r with _ | r
 ·simp at hr
  subst hr;exact ⟨h.cell 0 _ rfl,h.cell 1 _ rfl,h.cell 2 _ rfl,h.cell 3 _ rfl⟩
 ·simp at hr
def mvalo:Option Bk.M→Value
 | some m=>.agg #[.int .i64 m.k,.int .i64 m.a,.int .i64 m.b,.string (str m.t)]
 | none=>.agg #[.int .i64 0,.int .i64 0,.int .i64 0,.string ByteArray.empty]
theorem of_mof {f:BitVec 8×Fr.Bs} {e:Ending} (h:OfPost f.1.toNat f.2 e):e = .returned (.tuple #[mvalo (Bk.mof f),.bool (Bk.mof f).isSome]):=by
 unfold Bk.mof
 rcases ho:Ms.ofOk f.1.toNat f.2 with _ | _
 ·exact h.2 ho
 ·exact h.1 ho
end
section
open Go.RowKit
open Fr Bk
def lenm:Value→Nat
 | .slice _ m _=>m
 | _=>0
end
section
open Go.RowKit
open Fr Bk
def MsAll (t:Bs) (w:World) (e:Ending) (w':World):Prop:=
 ∃ R rc ms r,e = .returned (.tuple #[.slice R ms.length rc,.bool (decide (r=[]))])∧Msgs t ms r∧MsgRow w.heap.size w' R ms.length rc ms∧5 * ms.length≤t.length∧Below w.heap.size w w'
theorem lmsgs_any (t:Bs) {B n cap:Nat} {a:Option Addr} (w:World) (hl:Bytes w B a n t) (hB:B≤w.heap.size) (hcap:n≤cap) (hn:n≤1000000000) :
    Calls Tryz.prog 17 #[.slice a n cap] w (MsAll t w):=by
  have HL:=lj hl;have HTn:=lj (show t.length=n from hl.1);clear hl
  go_enter Tryz.func17,Tryz.ntmps17
  go_wp2
  go_loopw [0,4] (fun s0 s4 wr=>∃ (A:Option Addr) (m c:Nat) (K:Bs) (R:Option Addr) (rn rc:Nat) (D:List M),s0 = .slice A m c∧s4 = .slice R rn rc∧m≤c∧m≤n∧Bytes wr B A m K∧MsgRow w.heap.size wr R rn rc D∧encs D ++ K=t∧(∀ x∈D,x.ok=true)∧5 * rn+m≤n∧Below w.heap.size w wr) (fun s0 _ _=>lenm s0)
  case atStart=>exact ⟨a,n,cap,t,_,0,0,[],rfl,rfl,hcap,Nat.le_refl _,HL.out.below ((Below.refl _ _).alloc hB _),MsgRow.empty w (Nat.le_refl _),rfl,(fun x hx=>by cases hx),by omega,(Below.refl _ _).alloc (Nat.le_refl _) _⟩
  case round =>
    obtain ⟨A,m,c,K,R,rn,rc,D,rfl,rfl,hmc,hmn,hq,hrow,hdk,hok,h6,hbr⟩:=hrel;have HQ:=lj hq;have HR:=lj hrow;have HDK:=lj (And.intro hdk hok);have HBr:=lj hbr;have hBr:B≤wr.heap.size:=Nat.le_trans hB hbr.size;have hrl:=HR.out.len;have hKm:K.length=m:=hq.1;clear hq hrow hdk hok hbr HL
    by_cases hm0:m=0
    · subst hm0
      have hK:K=[]:=List.eq_nil_of_length_eq_zero hKm;have d0:decide ((0:Nat) > 0)=false:=rfl;have d1:decide (0<(0:Nat))=false:=rfl
      have HG:=lj (show MsAll t w (.returned (.tuple #[.slice R rn rc,.bool true])) wr from by
        obtain ⟨e1,e2⟩:=HDK.out;subst hrl
        exact ⟨R,rc,D,[],rfl,⟨by rw [← e1,hK],e2,stop_nil⟩,HR.out,by rw [HTn.out]; omega,HBr.out⟩)
      clear hK hrl HR HQ HDK hKm;go_wp2;exact bodyPost_ret (v:=.tuple #[.slice R rn rc,.bool true]) (by simp [results,Tryz.results17,go_sem]) rfl HG.out
    · have d0:decide (m > 0)=true:=by simp; omega
      have d1:decide (0<m)=true:=by simp; omega
      have hbl:=get_body K;have HGe:=lj (fun x (he:(Fr.get K).err=0) (hx:mof ((Fr.get K).k,(Fr.get K).body)=some x)=>get_msg (l:=K) he hx);have HSt:=lj (fun h=>stop_get (l:=K) h)
      obtain ⟨g,hg⟩:∃ g,Fr.get K=g:=⟨_,rfl⟩
      rw [hg] at HGe HSt hbl;have HF:=lj (hg ▸ get_anyF A m c B K wr HQ.out hBr hmc (by omega));clear hg;obtain ⟨gk,gb,gn,ge⟩:=g;have HGe:=lj (show ∀ x,ge=0→mof (gk,gb)=some x→x.ok=true∧K=enc x ++ K.drop gn∧gn=(enc x).length∧gn≤K.length from HGe.out);have HSt:=lj (show ge≠0∨mof (gk,gb)=none→Stop K from HSt.out);replace hbl:gb.length≤K.length:=hbl;have HMo:=lj (show ∃ mo,mof (gk,gb)=mo from ⟨_,rfl⟩);obtain ⟨mo,hmo⟩:=HMo.out;clear HMo
      go_wp2_with fail
      refine HF.out.mono ?_;rintro e w3 ⟨A3,c3,rfl,hby,hb3,hfresh,hcp⟩;replace hby:Bytes w3 w3.heap.size A3 gb.length gb:=hby;replace hcp:gb.length≤c3:=hcp;have HR3:=lj (HR.out.below (hb3.mono (Nat.le_refl _)));have HQ3:=lj (HQ.out.below (hb3.mono hBr));have HB3:=lj (Below.trans HBr.out (hb3.mono HBr.out.size));have HBy:=lj hby;have hsz3:=hb3.size;have hB3:B≤w3.heap.size:=Nat.le_trans hBr hsz3
      have hal:∀ o,Below w3.heap.size w3 (w3.alloc o):=fun o=>(Below.refl _ _).alloc (Nat.le_refl _) o
      have HO1:=lj (hal (.cells #[.int .u8 gk.toNat,.slice A3 gb.length c3] 96));have hx1:=Bx.new w3 _ rfl #[.int .u8 gk.toNat,.slice A3 gb.length c3] 96;have x0:=hx1.cell 0 _ rfl;have x1:=hx1.cell 1 _ rfl;have hOf:=mof_any gk A3 gb.length c3 w3.heap.size gb (w3.alloc (.cells #[.int .u8 gk.toNat,.slice A3 gb.length c3] 96)) (HBy.out.below (hal _)) (by simp) hcp (by omega);have HOf:=lj hOf;clear hby hb3 hfresh HR HQ HBr hal hx1 hOf HF hbl
      go_wp2_with fail
      refine HOf.out.mono ?_;rintro e w4 ⟨hpost,hb4⟩;obtain rfl:=of_mof (f:=(gk,gb)) hpost;rw [hmo];have HB4:=lj (Below.trans HO1.out (hb4.mono HO1.out.size));have hsz4:w3.heap.size≤w4.heap.size:=HB4.out.size;clear hb4 hpost x0 x1 HOf HO1
      by_cases hno:ge≠0∨mo=none
      · have HG:=lj (show ∀ o,MsAll t w (.returned (.tuple #[.slice R rn rc,.bool false])) (w4.alloc o) from fun o=>by
          have hao:Below w4.heap.size w4 (w4.alloc o):=(Below.refl _ _).alloc (Nat.le_refl _) o;obtain ⟨e1,e2⟩:=HDK.out;subst hrl
          have hK:K≠[]:=fun e=>by rw [e] at hKm; exact hm0 hKm.symm
          exact ⟨R,rc,D,K,by rw [decide_eq_false hK],⟨e1.symm,e2,HSt.out (by rw [hmo]; exact hno)⟩,(HR3.out.below HB4.out).below hao,by rw [HTn.out]; omega,(HB3.out.trans (HB4.out.mono HB3.out.size)).trans (hao.mono (Nat.le_trans HB3.out.size hsz4))⟩)
        clear HSt HGe HR3 HQ3 HB3 HB4 HDK HBy
        rcases mo with _ | x
        · have hmv:mvalo none = .agg #[.int .i64 0,.int .i64 0,.int .i64 0,.string ByteArray.empty]:=rfl
          have his:(none:Option M).isSome=false:=rfl;rw [hmv,his]
          by_cases he:ge=0
          · subst he
            have hd0:(((0:Nat):Int) != 0)=false:=rfl;go_wp2;exact bodyPost_ret (v:=.tuple #[.slice R rn rc,.bool false]) (by simp [results,Tryz.results17,go_sem]) rfl (HG.out _)
          · have hd0:(((ge:Nat):Int) != 0)=true:=by simp; omega
            go_wp2;exact bodyPost_ret (v:=.tuple #[.slice R rn rc,.bool false]) (by simp [results,Tryz.results17,go_sem]) rfl (HG.out _)
        · have hmv:mvalo (some x) = .agg #[.int .i64 x.k,.int .i64 x.a,.int .i64 x.b,.string (str x.t)]:=rfl
          have his:(some x).isSome=true:=rfl;rw [hmv,his];have he:ge≠0:=hno.resolve_right (fun e=>by cases e)
          have hd0:(((ge:Nat):Int) != 0)=true:=by simp; omega
          go_wp2;exact bodyPost_ret (v:=.tuple #[.slice R rn rc,.bool false]) (by simp [results,Tryz.results17,go_sem]) rfl (HG.out _)
      obtain ⟨x,rfl⟩:∃ x,mo=some x:=by
        rcases mo with _ | x
        · exact absurd (.inr rfl) hno
        · exact ⟨x,rfl⟩
      have hge:ge=0:=Decidable.byContradiction fun e=>hno (.inl e)
      subst hge;obtain ⟨hxo,hKe,hgn,hgl⟩:=HGe.out x rfl hmo
      have hg5:5≤gn:=by rw [hgn,enc_len5]; omega
      have htl:x.t.length≤maxLen:=by
        have:=Ms.rt_n hxo;have:=Ms.tx_le x.k;unfold maxLen;omega
      have HX:=lj (And.intro hxo (And.intro hKe htl))
      have hN1:(gn:Int)≤(m:Int):=by omega
      have hd0:(((0:Nat):Int) != 0)=false:=rfl;clear hxo hKe hgn htl HGe HSt hno hmo;have hmv:mvalo (some x) = .agg #[.int .i64 x.k,.int .i64 x.a,.int .i64 x.b,.string (str x.t)]:=rfl;have his:(some x).isSome=true:=rfl;rw [hmv,his];clear hmv his
      have hal4:∀ o,Below w4.heap.size w4 (w4.alloc o):=fun o=>(Below.refl _ _).alloc (Nat.le_refl _) o
      have HR4:=lj (HR3.out.below HB4.out);have hx4:=Bx.new w4 _ rfl #[.int .i64 x.k,.int .i64 x.a,.int .i64 x.b,.string (str x.t)] 38;have y0:=hx4.cell 0 _ rfl;have y1:=hx4.cell 1 _ rfl;have y2:=hx4.cell 2 _ rfl;have y3:=hx4.cell 3 _ rfl;have HB5:=lj (hal4 (.cells #[.int .i64 x.k,.int .i64 x.a,.int .i64 x.b,.string (str x.t)] 38));clear hx4 hal4
      go_upto_region 7 with fail
      generalize w4.alloc (.cells #[.int .i64 x.k,.int .i64 x.a,.int .i64 x.b,.string (str x.t)] 38)=w5 at *;have hsz5:=HB5.out.size;have HR5:=lj (HR4.out.below HB5.out);have HA5:=lj (show ∀ o,Below w5.heap.size w5 (w5.alloc o) from fun o=>(Below.refl _ _).alloc (Nat.le_refl _) o);have hw5:w.heap.size≤w5.heap.size:=Nat.le_trans HB3.out.size (Nat.le_trans hsz4 hsz5);clear HR3 HR4
      go_wp2_with (first
        | (at_builtin
           refine wpList_mapp rfl (.tmp 32) (.tmp 34) rfl rfl (HR5.out.below (HA5.out _)) rfl (msg_one w5 x HX.out.2.2 _) rfl (by omega) (Nat.le_trans hw5 (by simp)) ?_;intro A6 c6 w6 hr6 hb6;have HR6:=lj hr6;have HB6:=lj hb6
           clear hr6 hb6)
        )
      go_roundw
      case rel =>
        have hb6:Below w.heap.size w w6:=Below.trans HB3.out (Below.trans (HB4.out.mono HB3.out.size) (Below.trans (HB5.out.mono (Nat.le_trans HB3.out.size hsz4)) (Below.trans ((HA5.out _).mono hw5) HB6.out)));have hq6:=(((HQ3.out.below (HB4.out.mono hB3)).below (HB5.out.mono (Nat.le_trans hB3 hsz4))).below ((HA5.out (.cells #[.int .i64 x.k,.int .i64 x.a,.int .i64 x.b,.string (str x.t)] 38)).mono (Nat.le_trans hB3 (Nat.le_trans hsz4 hsz5)))).below (HB6.out.mono hB);have hc:=hq6.cut (k:=gn) (by omega) hmc;refine ⟨cutA A c gn,m - gn,c - gn,K.drop gn,A6,rn+1,c6,D ++ [x],rfl,rfl,by omega,by omega,hc,HR6.out,?_,?_,by omega,hb6⟩
        · rw [encs_app,encs_one,List.append_assoc,← HX.out.2.1]
          exact HDK.out.1
        · intro y hy
          rcases List.mem_append.1 hy with hy | hy
          · exact HDK.out.2 y hy
          · rw [List.mem_singleton.1 hy]; exact HX.out.1
      case measure=>show m - gn<m; omega
end
section
open Go.RowKit
structure Ot where
 e:Nat
 t:Bs
deriving DecidableEq
end
end Go.Proofs.YtdpagmcickkbmaaGreatDoor
