/- PEvm PScw PScr -/
import Derived.Lib.SmallJoins
import Derived.Test.YtecjpkjbgknnnaaGreatDoorZd14
import Derived.Test.YtecjpkjbgknnnaaGreatDoorZd19
namespace Go.Proofs.YtecjpkjbgknnnaaGreatDoor
set_option maxRecDepth 100000
open Go.Lib renaming hid → lj
section
open Go.ChangeShapes Go.WideShapes Go.ChangeAt Go.RowKit Go.Deep
open Sc (Ev evs evb rtE)
def evc (e:Ev):List Value:=[.int .i64 e.k,.int .i64 e.i,.int .i64 e.n,.string (str e.t)]
def evv (e:Ev):Value:=.agg #[.int .i64 e.k,.int .i64 e.i,.int .i64 e.n,.string (str e.t)]
def ecells (L:List Ev):List Value:=L.flatMap evc
theorem ecells_len (L:List Ev):(ecells L).length=L.length * 4:=by
 induction L with
 | nil=>rfl
 | cons e L ih=>simp [ecells,evc] at ih ⊢; omega
theorem ecells_app (L M:List Ev):ecells (L ++ M)=ecells L ++ ecells M:=by simp [ecells]
theorem ecells_get:∀ (L:List Ev) (r:Nat) (e:Ev),L[r]?=some e→(ecells L)[r * 4]?=some (.int .i64 e.k)∧(ecells L)[r * 4+1]?=some (.int .i64 e.i)∧(ecells L)[r * 4+2]?=some (.int .i64 e.n)∧(ecells L)[r * 4+3]?=some (.string (str e.t))
  | [],r,e,h=>by simp at h
  | x :: L,0,e,h=>by
    simp at h;subst h;exact ⟨rfl,rfl,rfl,rfl⟩
  | x :: L,r+1,e,h=>by
    have:=ecells_get L r e (by simpa using h);rw [show (r+1) * 4=r * 4+4 by omega];exact this
theorem ecells_one (L:List Ev):∀ u∈ecells L,u.oneCell'=true:=by
 intro u hu;unfold ecells at hu;rw [List.mem_flatMap] at hu;obtain ⟨e,_,he⟩:=hu;simp [evc] at he
 rcases he with rfl | rfl | rfl | rfl <;> rfl
structure EvIn (w:World) (B:Nat) (a:Option Addr) (L:List Ev):Prop where
 outer:0<L.length→∃ b off,a=some ⟨b,off,none⟩∧b<B∧∀ r e,L[r]?=some e→w.cell? ⟨b,off+r * 4,none⟩=some (.int .i64 e.k)∧w.cell? ⟨b,off+r * 4+1,none⟩=some (.int .i64 e.i)∧w.cell? ⟨b,off+r * 4+2,none⟩=some (.int .i64 e.n)∧w.cell? ⟨b,off+r * 4+3,none⟩=some (.string (str e.t))
 inner:∀ e∈L,e.t.length≤maxLen
section
variable {w w':World} {B:Nat} {a:Option Addr} {L:List Ev}
theorem EvIn.src (h:EvIn w B a L) (hn:0<L.length):∃ ad,a=some ad∧ad.block<B∧∀ j u,(ecells L)[j]?=some u→w.cell? (ad.add j)=some u:=by
 obtain ⟨b,off,rfl,hlt,hc⟩:=h.outer hn;refine ⟨_,rfl,hlt,fun j u hu=>?_⟩
 have hj:j<L.length * 4:=by
  rcases Nat.lt_or_ge j (ecells L).length with h' | h'
  ·rw [ecells_len] at h'; exact h'
  ·rw [List.getElem?_eq_none h'] at hu; cases hu
 have hr:j / 4<L.length:=by omega
 have he:=List.getElem?_eq_getElem hr;obtain ⟨g0,g1,g2,g3⟩:=ecells_get L (j / 4) _ he;obtain ⟨c0,c1,c2,c3⟩:=hc (j / 4) _ he;rw [add_none]
 rcases (show j=j / 4 * 4∨j=j / 4 * 4+1∨j=j / 4 * 4+2∨j=j / 4 * 4+3 by omega) with hq | hq | hq | hq
 ·rw [hq] at hu ⊢; rw [g0] at hu; rw [← hu]; exact c0
 ·rw [hq] at hu ⊢; rw [g1] at hu; rw [← hu,← Nat.add_assoc]; exact c1
 ·rw [hq] at hu ⊢; rw [g2] at hu; rw [← hu,← Nat.add_assoc]; exact c2
 ·rw [hq] at hu ⊢; rw [g3] at hu; rw [← hu,← Nat.add_assoc]; exact c3
end
structure EvRow (base:Nat) (w:World) (a:Option Addr) (n c:Nat) (L:List Ev):Prop where
 row:w.ownsRow base 34 4 (.slice a n c) n (ecells L)
 cap:n≤c
 inner:∀ e∈L,e.t.length≤maxLen
section
variable {base n c:Nat} {w w':World} {a:Option Addr} {L:List Ev}
theorem EvRow.len (h:EvRow base w a n c L):L.length=n:=by
 have:=h.row.1;rw [ecells_len] at this;omega
theorem EvRow.below (h:EvRow base w a n c L) (hb:Below w.heap.size w w'):EvRow base w' a n c L:=⟨own_belowk h.row hb,h.cap,h.inner⟩
theorem EvRow.mono {base':Nat} (h:EvRow base w a n c L) (hb:base'≤base):EvRow base' w a n c L:=by
 refine ⟨⟨h.row.1,?_⟩,h.cap,h.inner⟩
 rcases h.row.2 with h0 | ⟨g,cap,cur,e,hb2,hrest⟩
 ·exact .inl h0
 ·exact .inr ⟨g,cap,cur,e,Nat.le_trans hb hb2,hrest⟩
theorem EvRow.nil (base:Nat) (w:World):EvRow base w none 0 0 []:=⟨⟨rfl,.inl ⟨rfl,rfl⟩⟩,Nat.le_refl _,fun _ h=>by cases h⟩
end
theorem ev_info:∃ i,Tryz.prog.info? 34=some i∧i.zero=some (.agg #[.int .i64 0,.int .i64 0,.int .i64 0,.string ⟨#[]⟩])∧i.size=4∧i.bytes=40:=info_parts (by kernel_rfl)
theorem run_eapp (ty:TypeId) {base n c:Nat} {w:World} {a:Option Addr} {L:List Ev} (h:EvRow base w a n c L) {B:Nat} {A:Option Addr} {m c2:Nat} {M:List Ev} (hs:EvIn w B A M) (hm:M.length=m)
  (hroom:n+m≤3000000000000) (hbase:base≤w.heap.size) :
  ∃ A2 c3 w',(Builtin.append_ #[30,30] ty #[.slice a n c,.slice A m c2]).run Tryz.prog w = .ok (.slice A2 (n+m) c3) w'∧EvRow base w' A2 (n+m) c3 (L ++ M)∧Below base w w':=by
 obtain ⟨i0,hi0,hi1,hi2,hi3⟩:=ev_info
 by_cases h0:m=0
 ·subst h0
  have hM:M=[]:=List.eq_nil_of_length_eq_zero hm;subst hM;refine ⟨a,c,w,?_,by simpa using h,Below.refl _ w⟩;have hcap:=h.cap;refine run_append_nothing w 30 30 ty 34 i0 Tryz.underlying30 hi0 a n c hcap _ ?_
  rcases A with _ | ad
  ·exact Src.ofNil w Tryz.underlying30 c2
  ·exact Src.ofSlice w Tryz.underlying30 ad 0 c2 [] (by simp) (by intro j u hu; simp at hu) (by intro u hu; cases hu)
 ·obtain ⟨ad,rfl,_,hc⟩:=hs.src (by omega)
  obtain ⟨v',w',hrun,h1,h2,_,_⟩:=run_append_own_at (P:=Tryz.prog) (w:=w) base 30 ty 34 i0 _ 4 40 Tryz.underlying30 hi0 hi1 hi2 hi3 rfl (by omega) (.slice a n c) n (ecells L) h.row ad m c2 (ecells M)
   (by rw [ecells_len,hm]) hc (ecells_one M) (by unfold maxLen; omega) (by omega) hbase
  have hform:∃ A2 c3,v' = .slice A2 (n+m) c3∧n+m≤c3:=by
   rcases h1.2 with ⟨rfl,h0⟩ | ⟨g,cap,cur,rfl,_,_,h5,_⟩
   ·omega
   ·exact ⟨_,cap,rfl,h5⟩
  obtain ⟨A2,c3,rfl,hc3⟩:=hform;refine ⟨A2,c3,w',hrun,⟨by rw [ecells_app]; exact h1,hc3,fun e he=>?_⟩,(Below.refl _ _).grown h2 hbase (fun g hg=>(h.row.lt g hg).1)⟩
  rcases List.mem_append.1 he with h' | h'
  ·exact h.inner e h'
  ·exact hs.inner e h'
theorem wpList_eapp {w:World} {ops:Array Oper} {rest:List Oper} {o:Oper} {act:Act} {Q:Exit→Act→World→Prop} (hgd:o.guard=none) (s x:Operand)
  (hop:o.op = .call { callee:=.builtin .append,args:=#[s,x],argTypes:=#[30,30] })
  {base n c:Nat} {a:Option Addr} {L:List Ev} (hv:act.eval s = .slice a n c) (h:EvRow base w a n c L) {B:Nat} {A:Option Addr} {m c2:Nat} {M:List Ev} (hx:act.eval x = .slice A m c2) (hs:EvIn w B A M) (hm:M.length=m)
  (hroom:n+m≤3000000000000) (hbase:base≤w.heap.size)
  (hk:∀ A2 c3 w',EvRow base w' A2 (n+m) c3 (L ++ M)→Below base w w'→wpList Tryz.prog ops Q rest (act.put o.dst (.slice A2 (n+m) c3)) w') :
  wpList Tryz.prog ops Q (o :: rest) act w:=by
 obtain ⟨A2,c3,w',hrun,h1,h2⟩:=run_eapp o.type h (c2:=c2) hs hm hroom hbase
 refine wpList_plain hgd fun K hK=>?_
 unfold Oper.wp execOp;simp only [hop,resolve,invoke,builtin,Sem.run_bind,Sem.run_pure,Result.andThen_ok,List.map_toArray,List.map_cons,List.map_nil,hv,hx,hrun];exact hK _ _ (hk A2 c3 w' h1 h2)
theorem ev_one (w:World) (e:Ev) (he:e.t.length≤maxLen) (t:TypeId):EvIn (w.alloc (.cells #[.int .i64 e.k,.int .i64 e.i,.int .i64 e.n,.string (str e.t)] t)) (w.heap.size+1) (some ⟨w.heap.size,0,none⟩) [e]:=by
 refine ⟨fun _=>⟨w.heap.size,0,rfl,by omega,fun r x hr=>?_⟩,fun x hx=>by simp at hx; subst hx; exact he⟩;have h:=Bx.new w _ rfl #[.int .i64 e.k,.int .i64 e.i,.int .i64 e.n,.string (str e.t)] t
 rcases r with _ | r
 ·simp at hr
  subst hr;exact ⟨h.cell 0 _ rfl,h.cell 1 _ rfl,h.cell 2 _ rfl,h.cell 3 _ rfl⟩
 ·simp at hr
end
section
open Go.RowKit
open Sc
theorem take_getS (l:Bs) (j:Nat) (h:j<l.length):l.take (j+1)=l.take j ++ [l[j]?.getD 0#8]:=by
 rw [List.take_add_one,List.getElem?_eq_getElem h];rfl
theorem ret_i64S {a b:Int} (h:a=b):Value.int .i64 a = .int .i64 b:=by rw [h]
theorem or_byteS (m x:Nat) (hm:m<256 ^ 5) (hx:x<256):bits .or .i64 ((m:Int) * 256) (x:Int)=((256 * m+x:Nat):Int):=by
 have hm2:m<1099511627776:=hm
 have e:(BitVec.ofInt 64 ((m:Int) * 256) ||| BitVec.ofInt 64 (x:Int)).toNat=256 * m+x:=by
  rw [BitVec.toNat_or,BitVec.toNat_ofInt,BitVec.toNat_ofInt];rw [show ((m:Int) * 256 % (2 ^ 64:Nat)).toNat=m <<< 8 by rw [Nat.shiftLeft_eq]; omega,show ((x:Int) % (2 ^ 64:Nat)).toNat=x by omega];rw [← Nat.shiftLeft_add_eq_or_of_lt (by omega),Nat.shiftLeft_eq];omega
 show IntKind.i64.wrap ((BitVec.ofInt 64 ((m:Int) * 256) ||| BitVec.ofInt 64 (x:Int)).toNat:Int)=_
 rw [e,IntKind.wrap_i64];omega
theorem number_anyS (a:Option Addr) (n cap B:Nat) (l:Bs) (w:World) (hl:Bytes w B a n l) (h6:n≤5) (hcap:n≤cap) :
  Calls Tryz.prog 41 #[.slice a n cap] w fun e w'=>e = .returned (.int .i64 (nat l))∧w=w':=by
 have hlen:=hl.1;have HL:=lj hlen;have HY:=lj hl;clear hl hlen
 go_enter Tryz.func41,Tryz.ntmps41
 go_wp2
 go_loop [3,8] (fun t i=>∃ j:Nat,j≤n∧i = .int .i64 j∧t = .int .i64 (nat (l.take j))) (fun _ i=>n - (intOf i).toNat)
 case atStart=>exact ⟨0,by omega,rfl,rfl⟩
 case round =>
  obtain ⟨j,hj,rfl,rfl⟩:=hrel
  by_cases hlt:j<n
  ·obtain ⟨b,off,rfl,hbB,hc⟩:=HY.out.2 (by omega)
   have hck:=hc j (by omega)
   have hs:nat (l.take (j+1))=256 * nat (l.take j)+(l[j]?.getD 0#8).toNat:=by
    rw [take_getS l j (by have:=HL.out; omega),nat_snoc]
   have hlt2:nat (l.take j)<256 ^ 5:=nat_le 5 _ (by simp; omega);have HS:=lj hs;clear hs hc;generalize nat (l.take j)=m at *;generalize l[j]?.getD 0#8=x at *;have h8:=x.isLt;go_wp2
   go_round
   case rel=>exact ⟨j+1,by omega,by go_num,ret_i64S (by rw [HS.out,or_byteS m _ hlt2 h8])⟩
   case measure=>simp [intOf]; omega
  ·obtain rfl:j=n:=by omega
   go_wp2;go_ret;exact ⟨ret_int (by rw [← HL.out,List.take_length]),rfl⟩
structure Grew (w w':World) (A A':Option Addr):Prop where
 only:Only (In A) w w'
 place:∀ p,A'=some p→In A p.block∨w.heap.size≤p.block
theorem Grew.below {w w1:World} {A A1:Option Addr} (h:Grew w w1 A A1) {B:Nat} (hB:B≤w.heap.size) (hA:∀ b,In A b→B≤b):Below B w w1:=
 h.only.below hB fun k hk hi=>by have:=hA k hi; omega
theorem Own.inlt {base n c:Nat} {w:World} {a:Option Addr} {l:Bs} (h:Own base w a n c l) {b:Nat} (hb:In a b):base≤b∧b<w.heap.size:=by
 obtain ⟨p,rfl,rfl⟩:=hb;exact h.row.lt p.block rfl
theorem grew_of {w w':World} {A A2:Option Addr} {n m c c2:Nat} (h2:w.grownBy w' (Value.slice A n c).ownBlock) (h3:(Value.slice A2 m c2).ownBlock=(Value.slice A n c).ownBlock∨(Value.slice A2 m c2).ownBlock=some w.heap.size):Grew w w' A A2:=by
 refine ⟨Only.grown h2 (fun k hk _=>?_),fun p hp=>?_⟩
 ·rcases A with _ | p
  ·simp [Value.ownBlock] at hk
  ·simp [Value.ownBlock] at hk
   exact ⟨p,rfl,hk⟩
 ·subst hp
  rcases h3 with h5 | h5
  ·left
   rcases A with _ | q
   ·simp [Value.ownBlock] at h5
   ·simp [Value.ownBlock] at h5
    exact ⟨q,rfl,h5.symm⟩
  ·right
   simp [Value.ownBlock] at h5;omega
theorem three_allocs (w:World) (o1 o3:Obj) (vs:Array Value) (t:TypeId):Bx (w.heap.size+1) (((w.alloc o1).alloc (.cells vs t)).alloc o3) vs∧Below w.heap.size w (((w.alloc o1).alloc (.cells vs t)).alloc o3):=
 ⟨(Bx.new (w.alloc o1) (w.heap.size+1) (by simp) vs t).go ((Below.refl _ _).alloc (Nat.le_refl _) _) (by simp),(((Below.refl _ _).alloc (Nat.le_refl _) _).alloc (by simp) _).alloc (by simp; omega) _⟩
theorem drew_pair {g B:Nat} {w W:World} {vs:Array Value} (h:Bx g W vs∧Below B w W):Bx g W.drew vs∧Below B w W.drew:=⟨⟨h.1.head⟩,below_drew h.2⟩
theorem Bx.ev {g:Nat} {w:World} {a b c d:Value} (h:Bx g w #[a,b,c,d]):w.cell? ⟨g,0,none⟩=some a∧w.cell? ⟨g,1,none⟩=some b∧w.cell? ⟨g,2,none⟩=some c∧w.cell? ⟨g,3,none⟩=some d:=
 ⟨h.cell 0 _ rfl,h.cell 1 _ rfl,h.cell 2 _ rfl,h.cell 3 _ rfl⟩
theorem own_any (e:Ev) (h0:0≤e.k) (h7:e.k≤7) (w:World) :
  Calls Tryz.prog 68 #[evv e] w fun r w'=>r = .returned (evv (ownE e))∧Below w.heap.size w w':=by
 obtain ⟨k,i,n,t⟩:=e;simp only at h0 h7;unfold evv;simp only
 rcases (show k=0∨k=1∨k=2∨k=3∨k=4∨k=5∨k=6∨k=7 by omega) with rfl | rfl | rfl | rfl | rfl | rfl | rfl | rfl
 ·clear h0 h7
  have H3:=lj (three_allocs w (.cells #[.int .i64 0,.int .i64 i,.int .i64 n,.string (str t)] 34) (.cells #[.int .i64 0,.int .i64 i,.int .i64 0,.string (⟨#[]⟩)] 34) #[.int .i64 0,.int .i64 i,.int .i64 0,.string (⟨#[]⟩)] 34)
  go_enter Tryz.func68,Tryz.ntmps68
  go_wp2;have hx:=H3.out;clear H3;generalize ((World.alloc _ _).alloc _).alloc _=W at hx ⊢;obtain ⟨c0,c1,c2,c3⟩:=hx.1.ev;exact bodyPost_ret (by simp [results,go_sem,c0,c1,c2,c3]; exact ⟨rfl,rfl,rfl,rfl⟩) rfl ⟨rfl,hx.2⟩
 ·clear h0 h7
  have H3:=lj (three_allocs w (.cells #[.int .i64 1,.int .i64 i,.int .i64 n,.string (str t)] 34) (.cells #[.int .i64 1,.int .i64 i,.int .i64 0,.string (str t)] 34) #[.int .i64 1,.int .i64 i,.int .i64 0,.string (str t)] 34)
  go_enter Tryz.func68,Tryz.ntmps68
  go_wp2
  go_region
  all_goals go_wp2
  have hx:=H3.out;clear H3;have hx:=drew_pair hx;generalize World.drew _=W at hx ⊢;obtain ⟨c0,c1,c2,c3⟩:=hx.1.ev;exact bodyPost_ret (by simp [results,go_sem,c0,c1,c2,c3]; exact ⟨rfl,rfl,rfl,rfl⟩) rfl ⟨rfl,hx.2⟩
 ·clear h0 h7
  have H3:=lj (three_allocs w (.cells #[.int .i64 2,.int .i64 i,.int .i64 n,.string (str t)] 34) (.cells #[.int .i64 2,.int .i64 i,.int .i64 n,.string (⟨#[]⟩)] 34) #[.int .i64 2,.int .i64 i,.int .i64 n,.string (⟨#[]⟩)] 34)
  go_enter Tryz.func68,Tryz.ntmps68
  go_wp2
  go_region
  all_goals go_wp2
  have hx:=H3.out;clear H3;have hx:=drew_pair hx;generalize World.drew _=W at hx ⊢;obtain ⟨c0,c1,c2,c3⟩:=hx.1.ev;exact bodyPost_ret (by simp [results,go_sem,c0,c1,c2,c3]; exact ⟨rfl,rfl,rfl,rfl⟩) rfl ⟨rfl,hx.2⟩
 ·clear h0 h7
  have H3:=lj (three_allocs w (.cells #[.int .i64 3,.int .i64 i,.int .i64 n,.string (str t)] 34) (.cells #[.int .i64 3,.int .i64 0,.int .i64 0,.string (str t)] 34) #[.int .i64 3,.int .i64 0,.int .i64 0,.string (str t)] 34)
  go_enter Tryz.func68,Tryz.ntmps68
  go_wp2;have hx:=H3.out;clear H3;generalize ((World.alloc _ _).alloc _).alloc _=W at hx ⊢;obtain ⟨c0,c1,c2,c3⟩:=hx.1.ev;exact bodyPost_ret (by simp [results,go_sem,c0,c1,c2,c3]; exact ⟨rfl,rfl,rfl,rfl⟩) rfl ⟨rfl,hx.2⟩
 ·clear h0 h7
  have H3:=lj (three_allocs w (.cells #[.int .i64 4,.int .i64 i,.int .i64 n,.string (str t)] 34) (.cells #[.int .i64 4,.int .i64 0,.int .i64 n,.string (⟨#[]⟩)] 34) #[.int .i64 4,.int .i64 0,.int .i64 n,.string (⟨#[]⟩)] 34)
  go_enter Tryz.func68,Tryz.ntmps68
  go_wp2;have hx:=H3.out;clear H3;generalize ((World.alloc _ _).alloc _).alloc _=W at hx ⊢;obtain ⟨c0,c1,c2,c3⟩:=hx.1.ev;exact bodyPost_ret (by simp [results,go_sem,c0,c1,c2,c3]; exact ⟨rfl,rfl,rfl,rfl⟩) rfl ⟨rfl,hx.2⟩
 ·clear h0 h7
  have H3:=lj (three_allocs w (.cells #[.int .i64 5,.int .i64 i,.int .i64 n,.string (str t)] 34) (.cells #[.int .i64 5,.int .i64 0,.int .i64 0,.string (⟨#[]⟩)] 34) #[.int .i64 5,.int .i64 0,.int .i64 0,.string (⟨#[]⟩)] 34)
  go_enter Tryz.func68,Tryz.ntmps68
  go_wp2;have hx:=H3.out;clear H3;generalize ((World.alloc _ _).alloc _).alloc _=W at hx ⊢;obtain ⟨c0,c1,c2,c3⟩:=hx.1.ev;exact bodyPost_ret (by simp [results,go_sem,c0,c1,c2,c3]; exact ⟨rfl,rfl,rfl,rfl⟩) rfl ⟨rfl,hx.2⟩
 ·clear h0 h7
  have H3:=lj (three_allocs w (.cells #[.int .i64 6,.int .i64 i,.int .i64 n,.string (str t)] 34) (.cells #[.int .i64 6,.int .i64 i,.int .i64 0,.string (⟨#[]⟩)] 34) #[.int .i64 6,.int .i64 i,.int .i64 0,.string (⟨#[]⟩)] 34)
  go_enter Tryz.func68,Tryz.ntmps68
  go_wp2;have hx:=H3.out;clear H3;generalize ((World.alloc _ _).alloc _).alloc _=W at hx ⊢;obtain ⟨c0,c1,c2,c3⟩:=hx.1.ev;exact bodyPost_ret (by simp [results,go_sem,c0,c1,c2,c3]; exact ⟨rfl,rfl,rfl,rfl⟩) rfl ⟨rfl,hx.2⟩
 ·clear h0 h7
  have H3:=lj (three_allocs w (.cells #[.int .i64 7,.int .i64 i,.int .i64 n,.string (str t)] 34) (.cells #[.int .i64 7,.int .i64 0,.int .i64 n,.string (⟨#[]⟩)] 34) #[.int .i64 7,.int .i64 0,.int .i64 n,.string (⟨#[]⟩)] 34)
  go_enter Tryz.func68,Tryz.ntmps68
  go_wp2;have hx:=H3.out;clear H3;generalize ((World.alloc _ _).alloc _).alloc _=W at hx ⊢;obtain ⟨c0,c1,c2,c3⟩:=hx.1.ev;exact bodyPost_ret (by simp [results,go_sem,c0,c1,c2,c3]; exact ⟨rfl,rfl,rfl,rfl⟩) rfl ⟨rfl,hx.2⟩
end
section
open Go.RowKit
open Sc
theorem rtE_own {e:Ev} (h:inB e=true):rtE e=(decide (e.i=(ownE e).i) && (decide (e.n=(ownE e).n) && decide (e.t=(ownE e).t))):=by
 unfold rtE ownB ownE;rw [h]
 cases hasI e.k <;> cases hasN e.k <;> cases hasD e.k <;> simp
theorem rtE_no {e:Ev} (h:inB e=false):rtE e=false:=by
 unfold rtE;rw [h];rfl
set_option maxHeartbeats 2000000 in
theorem right16_any (e:Ev) (w:World) :
  Calls Tryz.prog 43 #[evv e] w fun r w'=>r = .returned (.bool (rtE e))∧Below w.heap.size w w':=by
 have HN:=lj (fun (h:inB e=false)=>rtE_no h);have HY:=lj (fun (h:inB e=true)=>rtE_own h);have HI:=lj (show inB e=(decide (0≤e.k) && (decide (e.k≤7) && (decide (0≤e.i) && (decide (e.i≤255) && (decide (0≤e.n) && (decide (e.n≤65536) && decide (e.t.length≤4000))))))) from rfl);have HO:=lj (fun (a:0≤e.k) (b:e.k≤7)=>own_any e a b);have HS:=lj (str_size e.t);unfold evv at HO ⊢;generalize hq:ownE e=q at *
 have hk:q.k=e.k:=by rw [← hq]; rfl
 generalize rtE e=R at *;generalize inB e=I at *;clear hq;obtain ⟨k,i,n,t⟩:=e;obtain ⟨k2,i2,n2,t2⟩:=q;simp only at hk HI HO HS HY ⊢;subst hk;have HX:=lj (Bx.new w w.heap.size rfl #[.int .i64 k2,.int .i64 i,.int .i64 n,.string (str t)] 34);have HB:=lj ((Below.refl w.heap.size w).alloc (Nat.le_refl _) (.cells #[.int .i64 k2,.int .i64 i,.int .i64 n,.string (str t)] 34))
 go_enter Tryz.func43,Tryz.ntmps43
 go_upto_region 1 with fail
 generalize w.alloc _=w1 at *;have c0:=HX.out.cell 0 _ rfl;have c1:=HX.out.cell 1 _ rfl;have c2:=HX.out.cell 2 _ rfl;have c3:=HX.out.cell 3 _ rfl;simp at c0 c1 c2 c3;have hgw:=HX.out.room
 by_cases h0:0≤k2
 case neg =>
  have d0:decide (0≤k2)=false:=by simpa using h0
  have hf:=HN.out (by rw [HI.out]; simp; omega);subst hf;clear h0
  go_quiet (fail)
  go_wp2;go_ret;exact ⟨rfl,below_drewN HB.out _⟩
 have d0:decide (0≤k2)=true:=by simpa using h0
 by_cases h1:k2≤7
 case neg =>
  have d1:decide (k2≤7)=false:=by simpa using h1
  have hf:=HN.out (by rw [HI.out]; simp; omega);subst hf;clear h1
  go_quiet (fail)
  go_wp2;go_ret;exact ⟨rfl,below_drewN HB.out _⟩
 have d1:decide (k2≤7)=true:=by simpa using h1
 by_cases h2:0≤i
 case neg =>
  have d2:decide (0≤i)=false:=by simpa using h2
  have hf:=HN.out (by rw [HI.out]; simp; omega);subst hf;clear h2
  go_quiet (fail)
  go_wp2;go_ret;exact ⟨rfl,below_drewN HB.out _⟩
 have d2:decide (0≤i)=true:=by simpa using h2
 by_cases h3:i≤255
 case neg =>
  have d3:decide (i≤255)=false:=by simpa using h3
  have hf:=HN.out (by rw [HI.out]; simp; omega);subst hf;clear h3
  go_quiet (fail)
  go_wp2;go_ret;exact ⟨rfl,below_drewN HB.out _⟩
 have d3:decide (i≤255)=true:=by simpa using h3
 by_cases h4:0≤n
 case neg =>
  have d4:decide (0≤n)=false:=by simpa using h4
  have hf:=HN.out (by rw [HI.out]; simp; omega);subst hf;clear h4
  go_quiet (fail)
  go_wp2;go_ret;exact ⟨rfl,below_drewN HB.out _⟩
 have d4:decide (0≤n)=true:=by simpa using h4
 by_cases h5:n≤65536
 case neg =>
  have d5:decide (n≤65536)=false:=by simpa using h5
  have hf:=HN.out (by rw [HI.out]; simp; omega);subst hf;clear h5
  go_quiet (fail)
  go_wp2;go_ret;exact ⟨rfl,below_drewN HB.out _⟩
 have d5:decide (n≤65536)=true:=by simpa using h5
 by_cases h6:((str t).size:Int)≤4000
 case neg =>
  have d6:decide (((str t).size:Int)≤4000)=false:=by simpa using h6
  have hf:=HN.out (by rw [HI.out,← HS.out]; simp; omega);subst hf;clear h6
  go_quiet (fail)
  go_wp2;go_ret;exact ⟨rfl,below_drewN HB.out _⟩
 have d6:decide (((str t).size:Int)≤4000)=true:=by simpa using h6
 have hy:=HY.out (by rw [HI.out,← HS.out]; simp; omega);have HO1:=lj (HO.out h0 h1);clear HN HY HI HO h0 h1 h2 h3 h4 h5 h6 c0 c1 c2 c3;have HR:=lj hy;clear hy
 obtain ⟨g,hg⟩:∃ g,w.heap.size=g:=⟨_,rfl⟩
 rw [hg] at HX HB hgw;simp only [hg];have HG:=lj hg;clear hg
 have hmix:Tryz.prog.follows .mixedOrders=true:=by kernel_rfl
 have HC:=lj (fun (W:World) (h:Bx g W #[.int .i64 k2,.int .i64 i,.int .i64 n,.string (str t)])=>h.ev);refine wp_region_held (S:=fun W=>Bx g W #[.int .i64 k2,.int .i64 i,.int .i64 n,.string (str t)]) hmix ?_
 change wpAnyH _ _ _ _ _ _ _ _ (World.drew _)
 have hS0:Bx g w1.drew #[.int .i64 k2,.int .i64 i,.int .i64 n,.string (str t)]:=⟨HX.out.head⟩;refine wpAnyH_take (i:=0) (v:=.pointer (some ⟨g,0,none⟩)) rfl (by kernel_rfl) (by kernel_rfl) (by kernel_rfl) (fun _ _ _ h=>h) (.inl ⟨by kernel_rfl,fun W hW=>?_⟩) hS0 ?_
 ·go_simp
 refine wpAnyH_take (i:=1) (v:=.int .i64 k2) rfl (by kernel_rfl) (by kernel_rfl) (by kernel_rfl) (fun _ _ _ h=>h) (.inl ⟨by kernel_rfl,fun W hW=>?_⟩) hS0 ?_
 ·obtain ⟨e0,e1,e2,e3⟩:=HC.out W hW; go_simp
 refine wpAnyH_take (i:=2) (v:=.bool true) rfl (by kernel_rfl) (by kernel_rfl) (by kernel_rfl) (fun _ _ _ h=>h) (.inl ⟨by kernel_rfl,fun W hW=>?_⟩) hS0 ?_
 ·go_simp
 refine wpAnyH_take (i:=3) (v:=.bool true) rfl (by kernel_rfl) (by kernel_rfl) (by kernel_rfl) (fun _ _ _ h=>h) (.inl ⟨by kernel_rfl,fun W hW=>?_⟩) hS0 ?_
 ·go_simp
 refine wpAnyH_take (i:=4) (v:=.pointer (some ⟨g,0,none⟩)) rfl (by kernel_rfl) (by kernel_rfl) (by kernel_rfl) (fun _ _ _ h=>h) (.inl ⟨by kernel_rfl,fun W hW=>?_⟩) hS0 ?_
 ·go_simp
 refine wpAnyH_take (i:=5) (v:=.int .i64 k2) rfl (by kernel_rfl) (by kernel_rfl) (by kernel_rfl) (fun _ _ _ h=>h) (.inl ⟨by kernel_rfl,fun W hW=>?_⟩) hS0 ?_
 ·obtain ⟨e0,e1,e2,e3⟩:=HC.out W hW; go_simp
 refine wpAnyH_take (i:=6) (v:=.bool true) rfl (by kernel_rfl) (by kernel_rfl) (by kernel_rfl) (fun _ _ _ h=>h) (.inl ⟨by kernel_rfl,fun W hW=>?_⟩) hS0 ?_
 ·go_simp
 refine wpAnyH_take (i:=7) (v:=.bool true) rfl (by kernel_rfl) (by kernel_rfl) (by kernel_rfl) (fun _ _ _ h=>h) (.inl ⟨by kernel_rfl,fun W hW=>?_⟩) hS0 ?_
 ·go_simp
 refine wpAnyH_take (i:=8) (v:=.bool true) rfl (by kernel_rfl) (by kernel_rfl) (by kernel_rfl) (fun _ _ _ h=>h) (.inl ⟨by kernel_rfl,fun W hW=>?_⟩) hS0 ?_
 ·go_simp
 refine wpAnyH_take (i:=9) (v:=.pointer (some ⟨g,1,none⟩)) rfl (by kernel_rfl) (by kernel_rfl) (by kernel_rfl) (fun _ _ _ h=>h) (.inl ⟨by kernel_rfl,fun W hW=>?_⟩) hS0 ?_
 ·go_simp
 refine wpAnyH_take (i:=10) (v:=.int .i64 i) rfl (by kernel_rfl) (by kernel_rfl) (by kernel_rfl) (fun _ _ _ h=>h) (.inl ⟨by kernel_rfl,fun W hW=>?_⟩) hS0 ?_
 ·obtain ⟨e0,e1,e2,e3⟩:=HC.out W hW; go_simp
 refine wpAnyH_take (i:=11) (v:=.bool true) rfl (by kernel_rfl) (by kernel_rfl) (by kernel_rfl) (fun _ _ _ h=>h) (.inl ⟨by kernel_rfl,fun W hW=>?_⟩) hS0 ?_
 ·go_simp
 refine wpAnyH_take (i:=12) (v:=.bool true) rfl (by kernel_rfl) (by kernel_rfl) (by kernel_rfl) (fun _ _ _ h=>h) (.inl ⟨by kernel_rfl,fun W hW=>?_⟩) hS0 ?_
 ·go_simp
 refine wpAnyH_take (i:=13) (v:=.bool true) rfl (by kernel_rfl) (by kernel_rfl) (by kernel_rfl) (fun _ _ _ h=>h) (.inl ⟨by kernel_rfl,fun W hW=>?_⟩) hS0 ?_
 ·go_simp
 refine wpAnyH_take (i:=14) (v:=.pointer (some ⟨g,1,none⟩)) rfl (by kernel_rfl) (by kernel_rfl) (by kernel_rfl) (fun _ _ _ h=>h) (.inl ⟨by kernel_rfl,fun W hW=>?_⟩) hS0 ?_
 ·go_simp
 refine wpAnyH_take (i:=15) (v:=.int .i64 i) rfl (by kernel_rfl) (by kernel_rfl) (by kernel_rfl) (fun _ _ _ h=>h) (.inl ⟨by kernel_rfl,fun W hW=>?_⟩) hS0 ?_
 ·obtain ⟨e0,e1,e2,e3⟩:=HC.out W hW; go_simp
 refine wpAnyH_take (i:=16) (v:=.bool true) rfl (by kernel_rfl) (by kernel_rfl) (by kernel_rfl) (fun _ _ _ h=>h) (.inl ⟨by kernel_rfl,fun W hW=>?_⟩) hS0 ?_
 ·go_simp
 refine wpAnyH_take (i:=17) (v:=.bool true) rfl (by kernel_rfl) (by kernel_rfl) (by kernel_rfl) (fun _ _ _ h=>h) (.inl ⟨by kernel_rfl,fun W hW=>?_⟩) hS0 ?_
 ·go_simp
 refine wpAnyH_take (i:=18) (v:=.bool true) rfl (by kernel_rfl) (by kernel_rfl) (by kernel_rfl) (fun _ _ _ h=>h) (.inl ⟨by kernel_rfl,fun W hW=>?_⟩) hS0 ?_
 ·go_simp
 refine wpAnyH_take (i:=19) (v:=.pointer (some ⟨g,2,none⟩)) rfl (by kernel_rfl) (by kernel_rfl) (by kernel_rfl) (fun _ _ _ h=>h) (.inl ⟨by kernel_rfl,fun W hW=>?_⟩) hS0 ?_
 ·go_simp
 refine wpAnyH_take (i:=20) (v:=.int .i64 n) rfl (by kernel_rfl) (by kernel_rfl) (by kernel_rfl) (fun _ _ _ h=>h) (.inl ⟨by kernel_rfl,fun W hW=>?_⟩) hS0 ?_
 ·obtain ⟨e0,e1,e2,e3⟩:=HC.out W hW; go_simp
 refine wpAnyH_take (i:=21) (v:=.bool true) rfl (by kernel_rfl) (by kernel_rfl) (by kernel_rfl) (fun _ _ _ h=>h) (.inl ⟨by kernel_rfl,fun W hW=>?_⟩) hS0 ?_
 ·go_simp
 refine wpAnyH_take (i:=22) (v:=.bool true) rfl (by kernel_rfl) (by kernel_rfl) (by kernel_rfl) (fun _ _ _ h=>h) (.inl ⟨by kernel_rfl,fun W hW=>?_⟩) hS0 ?_
 ·go_simp
 refine wpAnyH_take (i:=23) (v:=.bool true) rfl (by kernel_rfl) (by kernel_rfl) (by kernel_rfl) (fun _ _ _ h=>h) (.inl ⟨by kernel_rfl,fun W hW=>?_⟩) hS0 ?_
 ·go_simp
 refine wpAnyH_take (i:=24) (v:=.pointer (some ⟨g,2,none⟩)) rfl (by kernel_rfl) (by kernel_rfl) (by kernel_rfl) (fun _ _ _ h=>h) (.inl ⟨by kernel_rfl,fun W hW=>?_⟩) hS0 ?_
 ·go_simp
 refine wpAnyH_take (i:=25) (v:=.int .i64 n) rfl (by kernel_rfl) (by kernel_rfl) (by kernel_rfl) (fun _ _ _ h=>h) (.inl ⟨by kernel_rfl,fun W hW=>?_⟩) hS0 ?_
 ·obtain ⟨e0,e1,e2,e3⟩:=HC.out W hW; go_simp
 refine wpAnyH_take (i:=26) (v:=.bool true) rfl (by kernel_rfl) (by kernel_rfl) (by kernel_rfl) (fun _ _ _ h=>h) (.inl ⟨by kernel_rfl,fun W hW=>?_⟩) hS0 ?_
 ·go_simp
 refine wpAnyH_take (i:=27) (v:=.bool true) rfl (by kernel_rfl) (by kernel_rfl) (by kernel_rfl) (fun _ _ _ h=>h) (.inl ⟨by kernel_rfl,fun W hW=>?_⟩) hS0 ?_
 ·go_simp
 refine wpAnyH_take (i:=28) (v:=.bool true) rfl (by kernel_rfl) (by kernel_rfl) (by kernel_rfl) (fun _ _ _ h=>h) (.inl ⟨by kernel_rfl,fun W hW=>?_⟩) hS0 ?_
 ·go_simp
 refine wpAnyH_take (i:=29) (v:=.pointer (some ⟨g,3,none⟩)) rfl (by kernel_rfl) (by kernel_rfl) (by kernel_rfl) (fun _ _ _ h=>h) (.inl ⟨by kernel_rfl,fun W hW=>?_⟩) hS0 ?_
 ·go_simp
 refine wpAnyH_take (i:=30) (v:=.string (str t)) rfl (by kernel_rfl) (by kernel_rfl) (by kernel_rfl) (fun _ _ _ h=>h) (.inl ⟨by kernel_rfl,fun W hW=>?_⟩) hS0 ?_
 ·obtain ⟨e0,e1,e2,e3⟩:=HC.out W hW; go_simp
 refine wpAnyH_take (i:=31) (v:=.int .i64 (str t).size) rfl (by kernel_rfl) (by kernel_rfl) (by kernel_rfl) (fun _ _ _ h=>h) (.inl ⟨by kernel_rfl,fun W hW=>?_⟩) hS0 ?_
 ·go_simp
 refine wpAnyH_take (i:=32) (v:=.bool true) rfl (by kernel_rfl) (by kernel_rfl) (by kernel_rfl) (fun _ _ _ h=>h) (.inl ⟨by kernel_rfl,fun W hW=>?_⟩) hS0 ?_
 ·go_simp
 refine wpAnyH_take (i:=33) (v:=.bool true) rfl (by kernel_rfl) (by kernel_rfl) (by kernel_rfl) (fun _ _ _ h=>h) (.inl ⟨by kernel_rfl,fun W hW=>?_⟩) hS0 ?_
 ·go_simp
 refine wpAnyH_take (i:=34) (v:=.bool true) rfl (by kernel_rfl) (by kernel_rfl) (by kernel_rfl) (fun _ _ _ h=>h) (.inl ⟨by kernel_rfl,fun W hW=>?_⟩) hS0 ?_
 ·go_simp
 refine wpAnyH_take (i:=35) (v:=.agg #[.int .i64 k2,.int .i64 i,.int .i64 n,.string (str t)]) rfl (by kernel_rfl) (by kernel_rfl) (by kernel_rfl) (fun _ _ _ h=>h) (.inl ⟨by kernel_rfl,fun W hW=>?_⟩) hS0 ?_
 ·obtain ⟨e0,e1,e2,e3⟩:=HC.out W hW; go_simp
 refine wpAnyH_take (i:=36) (v:=.agg #[.int .i64 k2,.int .i64 i,.int .i64 n,.string (str t)]) rfl (by kernel_rfl) (by kernel_rfl) (by kernel_rfl) (fun _ _ _ h=>h) (.inl ⟨by kernel_rfl,fun W hW=>?_⟩) hS0 ?_
 ·obtain ⟨e0,e1,e2,e3⟩:=HC.out W hW; go_simp
 refine wpAnyH_all (rs:=[37]) (by kernel_rfl) (by simp) ?_;intro z hz;rw [List.mem_singleton.1 hz];clear hz;unfold wpOp
 go_simp
 refine .inl ((HO1.out _).mono ?_);rintro e wa ⟨rfl,hba⟩;have hba:Below w1.heap.size w1.drew wa:=hba;have HBa:=lj (below_back hba);have HXa:=lj (HX.out.go HBa.out hgw);clear hba hS0
 go_simp
 have hS0:=HXa.out;refine ⟨hS0,?_⟩;have HE:=lj (Below.trans HB.out (HBa.out.mono (by omega)))
 rcases (show (i≠i2)∨(i=i2∧n≠n2)∨(i=i2∧n=n2∧t≠t2)∨(i=i2∧n=n2∧t=t2) by
  by_cases a:i=i2 <;> by_cases b:n=n2 <;> by_cases c:t=t2 <;> simp [a,b,c]) with hc | ⟨rfl,hc⟩ | ⟨rfl,rfl,hc⟩ | ⟨rfl,rfl,rfl⟩
 ·have he:(i == i2)=false:=by simpa using hc
  have hv:R=false:=by rw [HR.out]; simp [hc]
  clear hc HR;subst hv;refine wpAnyH_take (i:=38) (v:=.bool false) rfl (by kernel_rfl) (by kernel_rfl) (by kernel_rfl) (fun _ _ _ h=>h) (.inl ⟨by kernel_rfl,fun W hW=>?_⟩) hS0 ?_
  ·go_simp
  refine wpAnyH_take (i:=39) (v:=.bool false) rfl (by kernel_rfl) (by kernel_rfl) (by kernel_rfl) (fun _ _ _ h=>h) (.inl ⟨by kernel_rfl,fun W hW=>?_⟩) hS0 ?_
  ·go_simp
  refine wpAnyH_take (i:=40) (v:=.bool false) rfl (by kernel_rfl) (by kernel_rfl) (by kernel_rfl) (fun _ _ _ h=>h) (.inl ⟨by kernel_rfl,fun W hW=>?_⟩) hS0 ?_
  ·go_simp
  refine wpAnyH_done (by kernel_rfl) ?_ _;go_wp2;go_ret;exact ⟨rfl,by rw [HG.out]; exact HE.out⟩
 ·have he:(n == n2)=false:=by simpa using hc
  have hv:R=false:=by rw [HR.out]; simp [hc]
  clear hc HR;subst hv;refine wpAnyH_take (i:=38) (v:=.bool false) rfl (by kernel_rfl) (by kernel_rfl) (by kernel_rfl) (fun _ _ _ h=>h) (.inl ⟨by kernel_rfl,fun W hW=>?_⟩) hS0 ?_
  ·go_simp
  refine wpAnyH_take (i:=39) (v:=.bool false) rfl (by kernel_rfl) (by kernel_rfl) (by kernel_rfl) (fun _ _ _ h=>h) (.inl ⟨by kernel_rfl,fun W hW=>?_⟩) hS0 ?_
  ·go_simp
  refine wpAnyH_take (i:=40) (v:=.bool false) rfl (by kernel_rfl) (by kernel_rfl) (by kernel_rfl) (fun _ _ _ h=>h) (.inl ⟨by kernel_rfl,fun W hW=>?_⟩) hS0 ?_
  ·go_simp
  refine wpAnyH_done (by kernel_rfl) ?_ _;go_wp2;go_ret;exact ⟨rfl,by rw [HG.out]; exact HE.out⟩
 ·have he:((str t).toList == (str t2).toList)=false:=str_ne hc
  have hv:R=false:=by rw [HR.out]; simp [hc]
  clear hc HR;subst hv;refine wpAnyH_take (i:=38) (v:=.bool false) rfl (by kernel_rfl) (by kernel_rfl) (by kernel_rfl) (fun _ _ _ h=>h) (.inl ⟨by kernel_rfl,fun W hW=>?_⟩) hS0 ?_
  ·go_simp
  refine wpAnyH_take (i:=39) (v:=.bool false) rfl (by kernel_rfl) (by kernel_rfl) (by kernel_rfl) (fun _ _ _ h=>h) (.inl ⟨by kernel_rfl,fun W hW=>?_⟩) hS0 ?_
  ·go_simp
  refine wpAnyH_take (i:=40) (v:=.bool false) rfl (by kernel_rfl) (by kernel_rfl) (by kernel_rfl) (fun _ _ _ h=>h) (.inl ⟨by kernel_rfl,fun W hW=>?_⟩) hS0 ?_
  ·go_simp
  refine wpAnyH_done (by kernel_rfl) ?_ _;go_wp2;go_ret;exact ⟨rfl,by rw [HG.out]; exact HE.out⟩
 ·have hv:R=true:=by rw [HR.out]; simp
  clear HR;subst hv;refine wpAnyH_take (i:=38) (v:=.bool true) rfl (by kernel_rfl) (by kernel_rfl) (by kernel_rfl) (fun _ _ _ h=>h) (.inl ⟨by kernel_rfl,fun W hW=>?_⟩) hS0 ?_
  ·go_simp
  refine wpAnyH_take (i:=39) (v:=.bool true) rfl (by kernel_rfl) (by kernel_rfl) (by kernel_rfl) (fun _ _ _ h=>h) (.inl ⟨by kernel_rfl,fun W hW=>?_⟩) hS0 ?_
  ·go_simp
  refine wpAnyH_take (i:=40) (v:=.bool true) rfl (by kernel_rfl) (by kernel_rfl) (by kernel_rfl) (fun _ _ _ h=>h) (.inl ⟨by kernel_rfl,fun W hW=>?_⟩) hS0 ?_
  ·go_simp
  refine wpAnyH_done (by kernel_rfl) ?_ _;go_wp2;go_ret;exact ⟨rfl,by rw [HG.out]; exact HE.out⟩
end
end Go.Proofs.YtecjpkjbgknnnaaGreatDoor
