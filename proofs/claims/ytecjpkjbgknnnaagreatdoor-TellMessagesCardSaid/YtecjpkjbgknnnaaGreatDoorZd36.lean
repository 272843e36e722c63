/- PYe PYf PYh -/
import Derived.Test.YtecjpkjbgknnnaaGreatDoorZd10
import Derived.Test.YtecjpkjbgknnnaaGreatDoorZd26
import Derived.Test.YtecjpkjbgknnnaaGreatDoorZd29
namespace Go.Proofs.YtecjpkjbgknnnaaGreatDoor
set_option maxRecDepth 100000
open Go.Lib renaming hid → lj
section
open Go.RowKit
open Tl
structure TW (w:World):Prop where
 ti:TI w
 ws:∀ k,k<16→w.cell? ⟨0,k,none⟩=some (.string (str (wk k)))
theorem TW.below {w w':World} (h:TW w) (hb:Below w.heap.size w w'):TW w':=
 ⟨h.ti.below hb,fun k hk=>(hb.cell (cell_lt (h.ws k hk))).trans (h.ws k hk)⟩
theorem word_any (k:Int) (w:World) (ht:TW w):Calls Tryz.prog 6 #[.int .i64 k] w fun e w'=>e = .returned (.string (str (wkT k)))∧w=w':=by
 by_cases h1:k<1
 ·have d1:decide (k<1)=true:=decide_eq_true h1
  have e:wkT k=[]:=if_neg (by omega);rw [e]
  go_enter Tryz.func6,Tryz.ntmps6
  go_wp2;go_ret;exact ⟨rfl,rfl⟩
 have d1:decide (k<1)=false:=decide_eq_false h1
 by_cases h2:15<k
 ·have d2:decide (15<k)=true:=decide_eq_true h2
  have e:wkT k=[]:=if_neg (by omega);rw [e]
  go_enter Tryz.func6,Tryz.ntmps6
  go_wp2;go_ret;exact ⟨rfl,rfl⟩
 have d2:decide (15<k)=false:=decide_eq_false h2;obtain ⟨m,rfl⟩:=Int.eq_ofNat_of_zero_le (show 0≤k by omega);have e:wkT m=wk m:=(if_pos (by omega)).trans rfl;have hc:=ht.ws m (by omega);rw [e];generalize wk m=s at *
 have hm:m<16:=by omega
 clear ht e h1 h2
 go_enter Tryz.func6,Tryz.ntmps6
 go_wp2;go_ret;exact ⟨rfl,rfl⟩
theorem dg_nat (x:Nat) (h:x<16):∀ W,(Instr.index 9 (.string ⟨#[48,49,50,51,52,53,54,55,56,57,97,98,99,100,101,102]⟩) (.int .u8 (x:Nat))).run Tryz.prog W = .ok (.int .u8 ((dg x).toNat:Nat)) W:=by
 intro W
 rcases (by omega:x=0∨x=1∨x=2∨x=3∨x=4∨x=5∨x=6∨x=7∨x=8∨x=9∨x=10∨x=11∨x=12∨x=13∨x=14∨x=15) with rfl | rfl | rfl | rfl | rfl | rfl | rfl | rfl | rfl | rfl | rfl | rfl | rfl | rfl | rfl | rfl <;> rfl
theorem hexB_next (t:Bs) (j:Nat) (h:j<t.length):hexB (t.take (j+1))=hexB (t.take j) ++ [dg ((t[j]?.getD 0#8).toNat / 16),dg ((t[j]?.getD 0#8).toNat % 16)]:=by
 rw [List.take_add_one,List.getElem?_eq_getElem h,hexB_app];rfl
theorem step_putg {ops:Array Oper} {o:Oper} {a:Act} {w:World} {K:Act→World→Prop} {Q:Exit→Act→World→Prop} {E:Prop} (hgd:o.guard=none) (s x:Operand)
  (ho:o.op = .call { callee:=.builtin .append,args:=#[s,x],argTypes:=#[35,35] })
  (base:Nat) (A1:Option Addr) (n c1:Nat) (k:Bs) (hs:a.eval s = .slice A1 n c1) (hown:Own base w A1 n c1 k)
  (B:Nat) (A:Option Addr) (m c:Nat) (l:Bs) (hx:a.eval x = .slice A m c) (hr:Bytes w B A m l)
  (hroom:n+m≤140737488355328) (hbase:base≤w.heap.size)
  (h:∀ A2 c2 w',Own base w' A2 (n+m) c2 (k ++ l)→Grew w w' A1 A2→K (a.put o.dst (.slice A2 (n+m) c2)) w') :
  if Region.wanted o (yielded ops a.tmps)=true then Oper.wp Tryz.prog o a w K Q else E:=by
 have hw:Region.wanted o (yielded ops a.tmps)=true:=by simp [Region.wanted,hgd]
 rw [if_pos hw];obtain ⟨i0,hi0,hi1,hi2,hi3⟩:=byte_info;obtain ⟨v',w',hrun,h1,h2,h3⟩:=run_app (P:=Tryz.prog) (w:=w) base 35 o.type 5 i0 _ Tryz.underlying35 hi0 hi1 hi2 hi3 rfl _ n k hown.row B A m c l hr hroom hbase;obtain ⟨A2,c2,rfl,h4⟩:=Own.of_row h1;unfold Oper.wp execOp;simp only [ho,resolve,invoke,builtin,Sem.run_bind,Sem.run_pure,Result.andThen_ok,List.map_toArray,List.map_cons,List.map_nil,hs,hx,hrun];exact h A2 c2 w' h4 (grew_of h2 h3)
theorem and15u (x:BitVec 8):bits .and .u8 (x.toNat:Nat) 15=((x.toNat % 16:Nat):Int):=by
 have hx:=x.isLt
 have e:(BitVec.ofInt 8 ((x.toNat:Nat):Int) &&& BitVec.ofInt 8 15).toNat=x.toNat % 16:=by
  rw [BitVec.toNat_and,BitVec.toNat_ofInt,BitVec.toNat_ofInt,show (((x.toNat:Nat):Int) % (2 ^ 8:Nat)).toNat=x.toNat by omega];exact Nat.and_two_pow_sub_one_eq_mod _ 4
 show IntKind.u8.wrap ((BitVec.ofInt 8 ((x.toNat:Nat):Int) &&& BitVec.ofInt 8 15).toNat:Int)=_
 rw [e,IntKind.wrap_u8];omega
theorem str_toL (t:Bs):(str t).data.toList=t.map fun c=>(⟨c⟩:UInt8):=by simp [str]
theorem hex_any (t:Bs) (hl:t.length≤100000000) (w:World):Calls Tryz.prog 9 #[.string (str t)] w fun e w'=>e = .returned (.string (str (hexT t)))∧Below w.heap.size w w':=by
 have hsz:=str_size t
 by_cases h0:t=[]
 ·subst h0
  rw [show str []=⟨#[]⟩ from rfl] at *
  go_enter Tryz.func9,Tryz.ntmps9
  go_wp2;go_ret;exact ⟨rfl,Below.refl _ _⟩
 have hne:(str t).toList.isEmpty=false:=by
  rcases e:(str t).toList.isEmpty with _ | _
  ·rfl
  ·exact absurd (by rw [ByteArray.toList_eq,str_toL] at e; simpa using e) h0
 have hmk:=fun W=>make_room W (2 * (t.length:Nat)) (2 * t.length) (by omega) (by omega)
 have HX:=lj (hexT_some h0);obtain ⟨c2,w2,hcv,hby,hb2,hcl,hz2⟩:=conv_tob (w.alloc (.cells (zb (2 * t.length)) 5)) t
 obtain ⟨g0,hg0⟩:∃ g0,w.heap.size=g0:=⟨_,rfl⟩
 have hw1:(w.alloc (.cells (zb (2 * t.length)) 5)).heap.size=g0+1:=by simp [hg0]
 rw [hw1] at hcv hby hb2 hz2;have HO:=lj ((hg0 ▸ made_new w w.heap.size (Nat.le_refl _) (2 * t.length) (by omega):Own g0 (w.alloc (.cells (zb (2 * t.length)) 5)) (some ⟨g0,0,none⟩) 0 (2 * t.length) []).below (by rw [hw1]; exact hb2));have HB:=lj (show Below g0 w w2 from (hg0 ▸ (Below.refl w.heap.size w).alloc (Nat.le_refl _) _:Below g0 w (w.alloc (.cells (zb (2 * t.length)) 5))).trans (hb2.mono (Nat.le_succ _)));have HBy:=lj hby;have HG:=lj hg0
 have hrg:∀ (W:World),(Instr.makeSlice 35 (.int .i64 0) (.int .i64 (2 * (t.length:Nat)))).run Tryz.prog w = .ok (.slice (some ⟨g0,0,none⟩) 0 (2 * t.length)) (w.alloc (.cells (zb (2 * t.length)) 5)):=fun _=>by rw [hmk w,hg0]
 have hmk1:=hrg w;clear hmk hrg hby hb2 h0 hw1;rw [hg0];clear hg0
 go_enter Tryz.func9,Tryz.ntmps9
 go_wp2
 go_loopw [3,15] (fun s3 s15 wr=>∃ (j m c:Nat) (A:Option Addr),s3 = .slice A m c∧s15 = .int .i64 (j:Nat)∧j≤t.length∧m=2 * j∧Own g0 wr A m c (hexB (t.take j))∧(∀ p,A=some p→p.block≠g0+1)∧Bytes wr (g0+2) (some ⟨g0+1,0,none⟩) t.length t∧Below g0 w wr) (fun _ s _=>t.length - (intOf s).toNat)
 case atStart=>exact ⟨0,0,_,_,rfl,rfl,Nat.zero_le _,rfl,HO.out,(fun p hp=>by injection hp with hp; subst hp; simp),HBy.out,HB.out⟩
 case round =>
  obtain ⟨j,m,c,A,rfl,rfl,hj,hm,hown,hA,hby,hbr⟩:=hrel;have HOr:=lj hown;have HAr:=lj hA;have HByr:=lj hby;have HBr:=lj hbr;clear hown hA hby hbr HO HB HBy hmk1 hcv
  by_cases hlt:j<t.length
  ·have dk:decide ((j:Int)<(t.length:Int))=true:=by simp; omega
   obtain ⟨bb,off,hbo,hbB,hc⟩:=HByr.out.2 (by omega)
   injection hbo with hbo
   injection hbo with hbb hoff
   subst hbb hoff;have hcj:=hc j hlt;rw [Nat.zero_add] at hcj;have HN:=lj (hexB_next t j hlt)
   obtain ⟨x,hx⟩:∃ x,t[j]?.getD 0#8=x:=⟨_,rfl⟩
   rw [hx] at hcj HN;clear hc hx
   go_upto_region 7 with fail
   have hx256:=x.isLt
   obtain ⟨y1,hy1⟩:∃ y1,x.toNat / 16=y1:=⟨_,rfl⟩
   obtain ⟨y2,hy2⟩:∃ y2,x.toNat % 16=y2:=⟨_,rfl⟩
   have h15:=and15u x
   have h16:((x.toNat:Nat):Int) / 16=(y1:Nat):=by omega
   rw [hy1,hy2] at HN;rw [hy2] at h15;have d1:=dg_nat y1 (by omega);have d2:=dg_nat y2 (by omega);have hnew:=two_new wr (dg y1) (dg y2) _ _ rfl rfl;have HOn:=lj (HOr.out.below ((Below.refl wr.heap.size wr).alloc (Nat.le_refl _) (.cells #[.int .u8 ((dg y1).toNat:Nat),.int .u8 ((dg y2).toNat:Nat)] 5)).drew);have HNn:=lj (bytes_drew hnew)
   have hgs:g0≤(wr.alloc (.cells #[.int .u8 ((dg y1).toNat:Nat),.int .u8 ((dg y2).toNat:Nat)] 5)).drew.heap.size:=by
    have:=HBr.out.size;rw [HG.out] at this;simp;omega
   have hm3:m≤200000000:=by omega
   have HMm:=lj hm;clear hm hy1 hy2 hx256 hnew;generalize (dg y1).toNat=z1 at *;generalize (dg y2).toNat=z2 at *
   go_region_law (first | ((with_reducible refine step_putg (o:=⟨some 27,_,_,_,_,_⟩) rfl (.tmp 19) (.tmp 26) rfl g0 A m c _ rfl HOn.out _ _ 2 2 _ rfl HNn.out (by omega) hgs ?_); intro A6 c6 w6 hown hgr) | fail)
   all_goals
    have HO6:=lj hown;have HG6:=lj hgr;have hba:Below wr.heap.size wr (wr.alloc (.cells #[.int .u8 (z1:Nat),.int .u8 (z2:Nat)] 5)).drew:=((Below.refl wr.heap.size wr).alloc (Nat.le_refl _) _).drew;have HBa:=lj hba;clear hown hgr hba HOn HNn hgs d1 d2 h15 h16 hcj;go_wp2;go_roundw
    case rel =>
     have hwr:g0≤wr.heap.size:=by have:=HBr.out.size; rw [HG.out] at this; exact this
     have hin:=fun b (hb:In A b)=>HOr.out.inlt hb
     have hb1:g0+1<wr.heap.size:=by
      obtain ⟨b',off',e',_,hc'⟩:=HByr.out.2 (by omega)
      injection e' with e'
      injection e' with e1 _
      have h:=cell_lt (hc' 0 (by omega));rw [← e1] at h;exact h
     refine ⟨j+1,m+2,c6,A6,rfl,by go_num,by omega,by have:=HMm.out; omega,by rw [HN.out]; exact HO6.out,fun p hp=>?_,?_,?_⟩
     ·rcases HG6.out.place p hp with h | h
      ·obtain ⟨q,hq,e⟩:=h
       rw [← e];exact HAr.out q hq
      ·have:=HBa.out.size
       omega
     ·refine HByr.out.only (((only_of_below HBa.out).mono fun _ _ h=>h.elim).trans HG6.out.only) hb1 fun _ p hp hin2=>?_
      injection hp with hp
      subst hp;obtain ⟨q,hq,e⟩:=hin2;exact HAr.out q hq e
     ·exact HBr.out.trans (((HBa.out.mono hwr)).trans (HG6.out.below (by have:=HBa.out.size; omega) fun b hb=>(hin b hb).1))
    case measure=>simp [intOf]; omega
  ·obtain rfl:j=t.length:=by omega
   clear hm
   have dk:decide ((t.length:Int)<(t.length:Int))=false:=by simp
   have hcv:=conv_str (cap:=c) HOr.out.bytes;rw [List.take_of_length_le (Nat.le_refl _)] at hcv;have HF:=lj HBr.out;have HR:=lj (congrArg (fun s=>Ending.returned (.string (str s))) HX.out.symm);go_wp2;exact bodyPost_ret (v:=.string (str (hexB t))) (by simp [results,Tryz.results9,go_sem]) rfl ⟨HR.out,HF.out⟩
end
section
open Go.RowKit
open Tl
inductive Pt where
 | kind (k:Int)
 | num (n:Int)
 | hex (t:Bs)
 | err (e:Nat)
 | text (t:Bs)
 | msg (k a b:Int) (t:Bs)
def Pt.ty:Pt→TypeId
 | .kind _=>47
 | .num _=>48
 | .hex _=>49
 | .err _=>53
 | .text _=>67
 | .msg _ _ _ _=>142
def Pt.pay:Pt→Value
 | .kind k=>.int .i64 k
 | .num n=>.int .i64 n
 | .hex t=>.string (str t)
 | .err e=>.int .i64 (e:Nat)
 | .text t=>.string (str t)
 | .msg k a b t=>.agg #[.int .i64 k,.int .i64 a,.int .i64 b,.string (str t)]
def Pt.fn:Pt→FuncId
 | .kind _=>242
 | .num _=>243
 | .hex _=>244
 | .err _=>245
 | .text _=>246
 | .msg _ _ _ _=>249
def Pt.val (p:Pt):Value:=.iface p.ty p.pay
def Pt.word:Pt→Bs
 | .kind k=>wkT k
 | .num n=>numT n
 | .hex t=>hexT t
 | .err e=>we e
 | .text t=>t
 | .msg k a b t=>lineM k a b t
def Pt.Says (p:Pt):Prop:=∀ w,TW w→Calls Tryz.prog p.fn #[p.pay] w fun e w'=>e = .returned (.string (str p.word))∧Below w.heap.size w w'
theorem pt_method (p:Pt) (n:Nat) (w:World):(method (n+8) p.ty p.pay "Word").run Tryz.prog w = .ok (p.fn,p.pay) w:=by
 cases p <;> kernel_rfl
theorem pt_call (p:Pt) (w:World):(callFunc p.fn #[p.pay]).run Tryz.prog w = .ok (.enter p.fn #[p.pay]) w:=by
 cases p <;> kernel_rfl
def zstr (r:Nat):Array Value:=(List.replicate r (Value.string ⟨#[]⟩)).toArray
theorem make_strs (W:World) (r:Nat) (hr:r≤1000000) :
  (Instr.makeSlice 31 (.int .i64 0) (.int .i64 (r:Nat))).run Tryz.prog W = .ok (.slice (some ⟨W.heap.size,0,none⟩) 0 r) (W.alloc (.cells (zstr r) 9)):=by
 obtain ⟨i0,hi0,hi1,hi2,hi3⟩:=elem_str.info;have h:=run_make (P:=Tryz.prog) W 31 9 i0 _ Tryz.underlying31 hi0 hi1 .i64 .i64 0 (r:Int) (by omega) (by omega) (by rw [hi3]; omega) (by omega);rw [h,Int.toNat_natCast,hi2,Nat.mul_one]
 have e:(madeCells (Value.string (str [])).cells r)=zstr r:=by
  apply Array.toList_inj.1
  rw [show (Value.string (str [])).cells = #[Value.string ⟨#[]⟩] from rfl,toList_madeCells_one];simp [zstr]
 rw [e];rfl
theorem made_strs (w:World) (r:Nat) (hr:r≤1000000):Rw w.heap.size (w.alloc (.cells (zstr r) 9)) (some ⟨w.heap.size,0,none⟩) 0 r []:=by
 have hh:=heap_alloc_new w (.cells (zstr r) 9);refine ⟨rfl,Nat.zero_le _,by unfold maxLen; omega,fun v hv=>(by cases hv),.inr ⟨_,0,rfl,Nat.le_refl _,by simp,fun j v hj=>(by simp at hj),fun j hj=>?_⟩⟩;rw [cell_of_row _ _ _ _ _ _ hh,frozen_of_row _ _ _ _ _ hh,Nat.zero_add];exact ⟨by simp [zstr,hj],rfl⟩
theorem join_spc:∀ (ws:List Bs),Lib.join ((ws.map str).map (·.data.toList)) [32]=(spc ws).map fun c=>(⟨c⟩:UInt8)
  | []=>rfl
  | [a]=>by
    show Lib.join [(str a).data.toList] [32]=_
    rw [Lib.join_one,str_toL];rfl
  | a :: b :: l=>by
    have h:=join_spc (b :: l)
    show Lib.join ((str a).data.toList :: (str b).data.toList :: _) [32]=(a ++ 32#8 :: spc (b :: l)).map _
    rw [List.map_append,List.map_cons,← h,Lib.join_cons,str_toL]
    show _ ++ ([32] ++ (str b).data.toList ++ _)=_
    show _=_ ++ _ :: Lib.join ((str b).data.toList :: _) [32]
    rw [Lib.join_cons];rfl
theorem join_str (ws:List Bs):(⟨(Lib.join ((ws.map str).map (·.data.toList)) (⟨#[32]⟩:ByteArray).data.toList).toArray⟩:ByteArray)=str (spc ws):=by
 show (⟨(Lib.join ((ws.map str).map (·.data.toList)) [32]).toArray⟩:ByteArray)=_
 rw [join_spc];rfl
theorem join_calls (ws:List Bs) (hb:(spc ws).length≤1000000000) {bk o c:Nat} {w:World} (hbk:bk<w.heap.size) (hcap:ws.length≤c) (hN:ws.length≤1000) (hc:∀ k v,(strs ws)[k]?=some v→w.cell? ⟨bk,o+k,none⟩=some v) :
  Calls Tryz.prog 25 #[.slice (some ⟨bk,o,none⟩) ws.length c,.string ⟨#[32]⟩] w fun e w'=>e = .returned (.string (str (spc ws)))∧Below w.heap.size w w':=by
 have h:=Tryz.strings_Join bk o c (ws.map str) ⟨#[32]⟩ w (fun k x hk=>?_) hbk (by rw [List.length_map]; omega) (by rw [List.length_map]; exact hcap) ?_
 ·rw [List.length_map,join_str] at h
  exact h
 ·refine hc k _ ?_
  rw [List.getElem?_map] at hk;obtain ⟨b,hb1,hb2⟩:=Option.map_eq_some_iff.1 hk;unfold strs;rw [List.getElem?_map,hb1,← hb2];rfl
 ·show (Lib.join ((ws.map str).map (·.data.toList)) [32]).length≤_
  rw [join_spc,List.length_map];omega
def pvs (ps:List Pt):List Value:=ps.map Pt.val
theorem pvs_get (ps:List Pt) (j:Nat) (p:Pt) (h:ps[j]?=some p):(pvs ps)[j]?=some p.val:=by simp [pvs,h]
theorem tline_any (ps:List Pt) (hps:∀ p∈ps,p.Says) (hl:ps.length≤100) (hne:0<ps.length) (a:Option Addr) (n c:Nat) (hn:ps.length=n) (w:World) (ht:TW w) (hv:Vals w w.heap.size a n (pvs ps)) (hb:(spc (ps.map Pt.word)).length≤1000000000) :
    Calls Tryz.prog 17 #[.slice a n c] w fun e w'=>e = .returned (.string (str (spc (ps.map Pt.word))))∧Below w.heap.size w w':=by
  have HV:=lj hv;have HP:=lj hps;have HT:=lj ht;have HBB:=lj hb;have HN:=lj hn
  have hn1:n≤100:=by omega
  have hn0:0<n:=by omega
  have hmk:=make_strs w n (by omega);have hmd:=made_strs w n (by omega);have hbm:Below w.heap.size w (w.alloc (.cells (zstr n) 9)):=(Below.refl _ _).alloc (Nat.le_refl _) _
  obtain ⟨g0,hg0⟩:∃ g0,w.heap.size=g0:=⟨_,rfl⟩
  rw [hg0] at hmk hmd hbm HV;have HG:=lj hg0;have HM:=lj hmd;have HB:=lj hbm;rw [hg0];clear hv hps ht hb hn hl hne hmd hbm hg0
  go_enter Tryz.func17,Tryz.ntmps17
  go_wp2
  go_loopw [3,11] (fun s3 s11 wr=>∃ (j m cc:Nat) (A:Option Addr),s3 = .slice A m cc∧s11 = .int .i64 (j:Nat)∧j≤n∧m=j∧Rw g0 wr A m cc (strs ((ps.take j).map Pt.word))∧Below g0 w wr) (fun _ s _=>n - (intOf s).toNat)
  case atStart=>exact ⟨0,0,_,_,rfl,rfl,Nat.zero_le _,rfl,HM.out,HB.out⟩
  case round =>
    obtain ⟨j,m,cc,A,rfl,rfl,hj,hm,hrow,hbr⟩:=hrel;have HR:=lj hrow;have HBr:=lj hbr
    have hgr:g0≤wr.heap.size:=by rw [← HG.out]; exact hbr.size
    clear hrow hbr HM HB hmk
    by_cases hlt:j<n
    · have dk:decide ((j:Int)<(n:Int))=true:=by simp; omega
      obtain ⟨p,hp⟩:∃ p,ps[j]?=some p:=⟨_,List.getElem?_eq_getElem (by rw [HN.out]; exact hlt)⟩
      obtain ⟨bb,off,rfl,hbB,hc⟩:=(HV.out.below HBr.out).2.2 hn0;have hcj:=hc j _ (pvs_get ps j p hp);unfold Pt.val at hcj;have hcall:=(HP.out p (List.mem_of_getElem? hp)) wr (HT.out.below (by rw [HG.out]; exact HBr.out));have HCall:=lj hcall;have hme:=pt_method p;have hca:=pt_call p;have HTk:=lj (show (ps.take (j+1)).map Pt.word=(ps.take j).map Pt.word ++ [p.word] by rw [List.take_add_one,hp]; simp);clear hc hcall;generalize p.ty=ty at *;generalize p.pay=pay at *;generalize p.fn=fn at *;generalize p.word=wd at *;clear hp
      go_wp2_with fail
      refine HCall.out.mono ?_;rintro e w5 ⟨rfl,hb5⟩;have hgr5:g0≤w5.heap.size:=Nat.le_trans hgr hb5.size;have HR5:=lj (HR.out.below hb5);have HB5:=lj (HBr.out.trans (hb5.mono hgr));have HMm:=lj hm
      have hm1:m≤100:=by omega
      clear hb5 HR HBr HCall hm hcj hme hca
      go_wp2_with (first
        | (at_builtin
           refine wpList_rw elem_str rfl (.tmp 15) (.tmp 18) rfl g0 rfl (HR5.out.below (below_lit _ _)) rfl (lits w5 wd _ rfl) (by omega) (by simp; omega) ?_;intro A2 c2 w2 hr2 hO2 hA2;have HR2:=lj hr2;have HB2:=lj (HB5.out.trans ((((Below.refl _ _).alloc (Nat.le_refl _) _).mono hgr5).trans (hO2.below (by simp; omega) fun k hk hin=>by have:=(HR5.out.inlt hin).1; omega)))
           clear hr2 hO2 hA2)
        | fail)
      go_roundw
      case rel=>exact ⟨j+1,m+1,c2,A2,by go_num,by go_num,by omega,by have:=HMm.out; omega,by rw [HTk.out,strs_app]; exact HR2.out,HB2.out⟩
      case measure=>simp [intOf]; omega
    · obtain rfl:j=n:=by omega
      have dk:decide ((j:Int)<(j:Int))=false:=by simp
      subst hm;have hv:=HR.out.vals;rw [List.take_of_length_le (Nat.le_of_eq HN.out)] at hv;obtain ⟨bk,o,hA,hbk,hc⟩:=hv.2.2 hn0;have hcap:=HR.out.cap
      have hws:(ps.map Pt.word).length=m:=by rw [List.length_map]; exact HN.out
      have hJ:=join_calls (ps.map Pt.word) HBB.out hbk (by rw [hws]; exact hcap) (by rw [hws]; omega) hc;rw [hws] at hJ;have HJ:=lj hJ;subst hA;clear hJ hc hv HR;have HBr2:=HBr;clear HBr
      go_wp2_with fail
      refine HJ.out.mono ?_;rintro e w5 ⟨rfl,hb5⟩;have HF:=lj (HBr2.out.trans (hb5.mono hgr));clear hb5 HJ HBr2;go_wp2;go_ret;exact ⟨rfl,HF.out⟩
end
section
open Go.RowKit
open Tl
theorem str_itoa (n:Int):(⟨(Lib.itoa n).toArray⟩:ByteArray)=str (numT n):=by
 unfold str numT;rw [List.map_map]
 show _=(⟨(List.map id (Lib.itoa n)).toArray⟩:ByteArray)
 simp
theorem fmt_num (n:Int) (h0 : -9223372036854775808≤n) (h1:n≤9223372036854775807) (w:World) (ht:TI w) :
  Calls Tryz.prog 16 #[.int .i64 n,.int .i64 10] w fun e w'=>e = .returned (.string (str (numT n)))∧Below w.heap.size w w':=by
 refine (Tryz.strconv_FormatInt_10 n h0 h1 w ht.tab).mono ?_;rintro e w' ⟨rfl,k,os,rfl⟩;exact ⟨by rw [str_itoa],below_grow w k os⟩
theorem itoa_len (n:Int) (h0 : -9223372036854775808≤n) (h1:n≤9223372036854775807):(numT n).length≤21:=by
 have h:∀ u:Nat,u≤9223372036854775808→(Lib.decDigits u).length≤20:=fun u hu=>by
  have h2:=Dgs.dgs_len u 19 (Nat.lt_of_le_of_lt hu (by decide));rw [← Dgs.dgs_lib,List.length_map] at h2;exact h2
 unfold numT Lib.itoa;rw [List.length_map]
 split
 ·have:=h n.natAbs (by omega)
  simp only [List.length_cons];omega
 ·have:=h n.toNat (by omega)
  omega
theorem says_kind (k:Int):(Pt.kind k).Says:=fun w ht=>by
 show Calls _ 242 #[.int .i64 k] w _
 have HW:=lj (word_any k w ht)
 go_enter Tryz.func242,Tryz.ntmps242
 go_wp2_with fail
 refine HW.out.mono ?_;rintro e w1 ⟨rfl,rfl⟩;go_wp2;go_ret;exact ⟨rfl,Below.refl _ _⟩
theorem says_num (n:Int) (h0 : -9223372036854775808≤n) (h1:n≤9223372036854775807):(Pt.num n).Says:=fun w ht=>by
 show Calls _ 243 #[.int .i64 n] w _
 have HW:=lj (fmt_num n h0 h1 w ht.ti);clear h0 h1
 go_enter Tryz.func243,Tryz.ntmps243
 go_wp2_with fail
 refine HW.out.mono ?_;rintro e w1 ⟨rfl,hb⟩;have HB:=lj hb;clear hb;go_wp2;go_ret;exact ⟨rfl,HB.out⟩
theorem says_hex (t:Bs) (hl:t.length≤100000000):(Pt.hex t).Says:=fun w ht=>by
 show Calls _ 244 #[.string (str t)] w _
 have HW:=lj (hex_any t hl w)
 go_enter Tryz.func244,Tryz.ntmps244
 go_wp2_with fail
 refine HW.out.mono ?_;rintro e w1 ⟨rfl,hb⟩;have HB:=lj hb;clear hb;go_wp2;go_ret;exact ⟨rfl,HB.out⟩
theorem says_text (t:Bs):(Pt.text t).Says:=fun w ht=>by
 show Calls _ 246 #[.string (str t)] w _
 go_enter Tryz.func246,Tryz.ntmps246
 go_wp2;go_ret;exact ⟨rfl,Below.refl _ _⟩
set_option maxHeartbeats 2000000 in
theorem says_err (e:Nat) (he:e≤8):(Pt.err e).Says:=fun w ht=>by
 show Calls _ 245 #[.int .i64 (e:Nat)] w _
 show Calls _ _ _ w fun r w'=>r = .returned (.string (str (we e)))∧_
 rcases (by omega:e=0∨e=1∨e=2∨e=3∨e=4∨e=5∨e=6∨e=7∨e=8) with rfl | rfl | rfl | rfl | rfl | rfl | rfl | rfl | rfl
 all_goals
  have HB:=lj (fun o=>(Below.refl w.heap.size w).alloc (Nat.le_refl _) o)
  go_enter Tryz.func245,Tryz.ntmps245
  go_wp2;go_ret;exact ⟨rfl,HB.out _⟩
theorem lineM_len (k a b:Int) (t:Bs) (ha : -9223372036854775808≤a∧a≤9223372036854775807) (hb : -9223372036854775808≤b∧b≤9223372036854775807):(lineM k a b t).length≤2 * t.length+60:=by
 have h1:=wkT_len k;have h2:=itoa_len a ha.1 ha.2;have h3:=itoa_len b hb.1 hb.2;have h4:=hexT_len t
 show (wkT k ++ 32#8 :: (numT a ++ 32#8 :: (numT b ++ 32#8 :: hexT t))).length≤_
 simp only [List.length_append,List.length_cons];omega
theorem pvs_lit (w:World) (ps:List Pt) (C:Array Value) (hC:C=(pvs ps).toArray) (t:TypeId):Vals (w.alloc (.cells C t)) (w.heap.size+1) (some ⟨w.heap.size,0,none⟩) ps.length (pvs ps):=by
 have h:=Vals.lit w (pvs ps) t (fun v hv=>by
  obtain ⟨p,_,rfl⟩:=List.mem_map.1 hv
  rfl) (0,0) C hC
 unfold pvs at h ⊢;rw [List.length_map] at h;exact h
theorem message_any (k a b:Int) (t:Bs) (ha : -9223372036854775808≤a∧a≤9223372036854775807) (hb : -9223372036854775808≤b∧b≤9223372036854775807) (hl:t.length≤100000000) (w:World) (ht:TW w) :
  Calls Tryz.prog 8 #[.agg #[.int .i64 k,.int .i64 a,.int .i64 b,.string (str t)]] w fun e w'=>e = .returned (.string (str (lineM k a b t)))∧Below w.heap.size w w':=by
 have hx:=Bx.new w _ rfl #[.int .i64 k,.int .i64 a,.int .i64 b,.string (str t)] 24;have hb1:Below w.heap.size w (w.alloc (.cells #[.int .i64 k,.int .i64 a,.int .i64 b,.string (str t)] 24)):=(Below.refl _ _).alloc (Nat.le_refl _) _
 have HS:=lj (show ∀ p∈[Pt.kind k,.num a,.num b,.hex t],p.Says from fun p hp=>by
  rcases List.mem_cons.1 hp with rfl | hp
  ·exact says_kind k
  rcases List.mem_cons.1 hp with rfl | hp
  ·exact says_num a ha.1 ha.2
  rcases List.mem_cons.1 hp with rfl | hp
  ·exact says_num b hb.1 hb.2
  rw [List.mem_singleton.1 hp]
  exact says_hex t hl)
 have HL:=lj (show (spc ([Pt.kind k,.num a,.num b,.hex t].map Pt.word)).length≤1000000000 from by
  have:=lineM_len k a b t ha hb
  show (lineM k a b t).length≤_
  omega)
 have HT:=lj ht;clear ht ha hb hl
 go_enter Tryz.func8,Tryz.ntmps8
 go_upto_region 1 with fail
 generalize w.alloc _=w1 at *;have c0:=hx.cell 0 _ rfl;have c1:=hx.cell 1 _ rfl;have c2:=hx.cell 2 _ rfl;have c3:=hx.cell 3 _ rfl;have HB1:=lj hb1;have hp:=pvs_lit w1 [Pt.kind k,.num a,.num b,.hex t] _ rfl 70;have hb2:Below w1.heap.size w1 (w1.alloc (.cells (pvs [Pt.kind k,.num a,.num b,.hex t]).toArray 70)):=(Below.refl _ _).alloc (Nat.le_refl _) _
 have hsz:(w1.alloc (.cells (pvs [Pt.kind k,.num a,.num b,.hex t]).toArray 70)).heap.size=w1.heap.size+1:=by simp
 have hB2:=hb1.trans (hb2.mono hb1.size);have hLi:=tline_any [Pt.kind k,.num a,.num b,.hex t] HS.out (show 4≤100 by decide) (show 0<4 by decide) (some ⟨w1.heap.size,0,none⟩) 4 4 rfl _ (HT.out.below hB2) (by rw [hsz]; exact hp) HL.out;have HLi:=lj hLi;have HB2:=lj hB2;clear hx hb1 hp hb2 hsz hB2 hLi;unfold pvs at HLi;simp only [List.map_cons,List.map_nil,Pt.val,Pt.ty,Pt.pay] at HLi
 go_wp2_with fail
 refine HLi.out.mono ?_;rintro e w2 ⟨rfl,hb⟩;have HF:=lj (HB2.out.trans (hb.mono HB2.out.size));clear hb HLi HB2;go_wp2;go_ret;exact ⟨rfl,HF.out⟩
end
end Go.Proofs.YtecjpkjbgknnnaaGreatDoor
