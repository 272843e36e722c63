/- PWor PBase PMid PRw PRingw PFramew PRow PBs PSz PTob -/
import Derived.Lib.SliceRun
import Derived.BigQuiet
import Derived.StillTailTactics
import Derived.Deep.Upon
import Derived.Test.YtdpagmcickkbmaaGreatDoorZd04
import Derived.Test.YtdpagmcickkbmaaGreatDoorZd08
namespace Go.Proofs.YtdpagmcickkbmaaGreatDoor
set_option maxRecDepth 100000
open Go.Lib renaming hid → lj
section
open Go.RowKit
theorem ret_bool {a b:Bool} (h:a=b):Ending.returned (.bool a) = .returned (.bool b):=by rw [h]
theorem slice_ret {A A2:Option Addr} {n n2 c c2:Nat} (hA:A=A2) (hn:n=n2) (hc:c=c2):Ending.returned (.slice A n c) = .returned (.slice A2 n2 c2):=by rw [hA,hn,hc]
theorem below_drewN {B:Nat} {a w:World} (h:Below B a w) (n:Nat):Below B a (w.drewN n):=⟨h.os,h.tape,h.output,h.size,h.block⟩
theorem quiet_left {P:Program} {f:FuncId} {args:Array Value} {w:World} {n:Nat} {v:Value}
  (h:Calls P f args (w.drewN n) fun e w'=>e = .returned v∧w.drewN n=w'):Calls P f args (w.drewN n) fun e w''=>e = .returned v∧∃ m,w''=w.drewN m:=
 h.mono fun _ _ ⟨he,hm⟩=>⟨he,n,hm.symm⟩
theorem quiet_right {P:Program} {f:FuncId} {args:Array Value} {w:World} {n:Nat} {v:Value}
  (h:Calls P f args (w.drewN n) fun e w'=>e = .returned v∧∃ m,w'=(w.drewN n).drewN m):Calls P f args (w.drewN n) fun e w''=>e = .returned v∧∃ m,w''=w.drewN m:=
 h.mono fun _ _ ⟨he,m,hm⟩=>⟨he,n+m,by rw [hm]; simp⟩
theorem region_tail {P:Program} {id:Nat} {Q:Exit→Act→World→Prop} {a:Act} {w:World} {l:List Oper} (n:Nat) (hm:P.follows .mixedOrders=true) (hB:Region.lexTailB .any l.toArray n=true)
  (h:∀ W,W=w.drew→wpStill P l.toArray W (fun a'=>wpList P l.toArray Q (l.drop n) a' W) (l.take n) a):(Code.region id l.toArray true).wp P Q a w:=
 wp_region_still_tail n hm hB (h _ rfl)
theorem below_drew {B:Nat} {a w:World} (h:Below B a w):Below B a w.drew:=⟨h.os,h.tape,h.output,h.size,h.block⟩
theorem below_back {w w':World} (h:Below w.heap.size w.drew w'):Below w.heap.size w w':=⟨h.os,h.tape,h.output,h.size,h.block⟩
def In (a:Option Addr) (b:Nat):Prop:=∃ p,a=some p∧p.block=b
theorem Only.frozen {S:Nat→Prop} {a b:World} (h:Only S a b) {p:Addr} (hp:p.block<a.heap.size) (hs:¬ S p.block):b.frozen? p=a.frozen? p:=World.frozen?_of_block (w:=a) (h.block p.block hp hs)
theorem only_of_below {w w':World} (h:Below w.heap.size w w'):Only (fun _=>False) w w':=⟨h.os,h.tape,h.output,h.size,fun k hk _=>h.block k hk⟩
theorem only_setCells (g:Nat):∀ (vs:List Value) (w:World) (o:Nat),Only (fun k=>k=g) w (w.setCells g o vs)
 | [],w,_=>Only.refl _ w
 | v :: r,w,o=>((Only.refl (fun k=>k=g) w).setCell (p:=⟨g,o,none⟩) rfl v).trans (only_setCells g r _ (o+1))
theorem Only.andThen {S T:Nat→Prop} {a b c:World} (h:Only S a b) (k:Only T b c) (hT:∀ i,i<a.heap.size→T i→S i):Only S a c:=
 ⟨k.os.trans h.os,k.tape.trans h.tape,k.output.trans h.output,Nat.le_trans h.size k.size,fun i hi hs=>(k.block i (Nat.lt_of_lt_of_le hi h.size) (fun ht=>hs (hT i hi ht))).trans (h.block i hi hs)⟩
theorem Only.trans' {S T:Nat→Prop} {a b c:World} (h:Only S a b) (k:Only T b c) (hT:∀ i,T i→S i∨a.heap.size≤i):Only S a c:=
 h.andThen k fun i hi ht=>(hT i ht).resolve_right (by omega)
end
section
open Go.RowKit
abbrev Bs:=List (BitVec 8)
theorem byte_info:∃ i,Tryz.prog.info? 5=some i∧i.zero=some (.int .u8 0)∧i.size=1∧i.bytes=1:=info_parts (by kernel_rfl)
structure Own (base:Nat) (w:World) (a:Option Addr) (n c:Nat) (l:Bs):Prop where
 row:w.ownsRow base 5 1 (.slice a n c) n (l.map by8)
 cap:n≤c
theorem Own.bytes {base n c:Nat} {w:World} {a:Option Addr} {l:Bs} (h:Own base w a n c l):Bytes w w.heap.size a n l:=Bytes.of_own h.row
theorem Own.len {base n c:Nat} {w:World} {a:Option Addr} {l:Bs} (h:Own base w a n c l):l.length=n:=by simpa using h.row.1
theorem Own.of_row {base n:Nat} {w:World} {v:Value} {l:Bs} (h:w.ownsRow base 5 1 v n (l.map by8)):∃ a c,v = .slice a n c∧Own base w a n c l:=by
 rcases h.2 with ⟨rfl,rfl⟩ | ⟨g,cap,cur,rfl,h2,h3,h4,h5⟩
 ·exact ⟨none,0,rfl,h,Nat.le_refl _⟩
 ·exact ⟨_,cap,rfl,h,h4⟩
theorem Own.form {base n c:Nat} {w:World} {a:Option Addr} {l:Bs} (h:Own base w a n c l) (hn:0<n):∃ g,a=some ⟨g,0,none⟩∧base≤g∧g<w.heap.size:=by
 obtain ⟨g,cap,hv,h1,h2⟩:=h.row.form hn
 injection hv with hv
 exact ⟨g,hv,h1,h2⟩
theorem Own.mono {base base' n c:Nat} {w:World} {a:Option Addr} {l:Bs} (h:Own base w a n c l) (hb:base'≤base):Own base' w a n c l:=by
 refine ⟨⟨h.row.1,?_⟩,h.cap⟩
 rcases h.row.2 with h1 | ⟨g,cap,cur,h1,h2,h3⟩
 ·exact .inl h1
 ·exact .inr ⟨g,cap,cur,h1,Nat.le_trans hb h2,h3⟩
theorem own_below {base e n:Nat} {v:Value} {xs:List Value} {w w':World} (h:w.ownsRow base e 1 v n xs) (hb:Below w.heap.size w w'):w'.ownsRow base e 1 v n xs:=by
 refine ⟨h.1,?_⟩
 rcases h.2 with h1 | ⟨g,cap,cur,h1,h2,h3,h4⟩
 ·exact .inl h1
 ·refine .inr ⟨g,cap,cur,h1,h2,?_,h4⟩
  have hlt:g<w.heap.size:=by
   rcases Nat.lt_or_ge g w.heap.size with h' | h'
   ·exact h'
   ·rw [Array.getElem?_eq_none h'] at h3; cases h3
  exact (hb.block g hlt).trans h3
theorem Own.below {base n c:Nat} {w w':World} {a:Option Addr} {l:Bs} (h:Own base w a n c l) (hb:Below w.heap.size w w'):Own base w' a n c l:=⟨own_below h.row hb,h.cap⟩
theorem wpList_put {w:World} {ops:Array Oper} {rest:List Oper} {o:Oper} {a:Act} {Q:Exit→Act→World→Prop} (hgd:o.guard=none) (s x:Operand)
  (ho:o.op = .call { callee:=.builtin .append,args:=#[s,x],argTypes:=#[41,41] })
  (base:Nat) (A1:Option Addr) (n c1:Nat) (k:Bs) (hs:a.eval s = .slice A1 n c1) (hown:Own base w A1 n c1 k)
  (B:Nat) (A:Option Addr) (m c:Nat) (l:Bs) (hx:a.eval x = .slice A m c) (hr:Bytes w B A m l)
  (hroom:n+m≤140737488355328) (hbase:base≤w.heap.size)
  (h:∀ A2 c2 w',Own base w' A2 (n+m) c2 (k ++ l)→Below base w w'→wpList Tryz.prog ops Q rest (a.put o.dst (.slice A2 (n+m) c2)) w') :
  wpList Tryz.prog ops Q (o :: rest) a w:=by
 obtain ⟨i0,hi0,hi1,hi2,hi3⟩:=byte_info;refine wpList_app hgd s x 41 ho base 5 i0 _ Tryz.underlying41 hi0 hi1 hi2 hi3 rfl _ n k hs hown.row B A m c l hx hr hroom hbase ?_;intro v' w' h1 h2 h3;obtain ⟨A2,c2,rfl,h4⟩:=Own.of_row h1;exact h A2 c2 w' h4 ((Below.refl _ _).grown h2 hbase (fun g hg=>(hown.row.lt g hg).1))
theorem own_new (w:World) (base:Nat) (hb:base≤w.heap.size):Own base (w.alloc (.cells #[] 5)) (some ⟨w.heap.size,0,none⟩) 0 0 []:=
 ⟨own_empty w 5 base hb,Nat.le_refl _⟩
theorem two_new (w:World) (x y:BitVec 8) (v0 v1:Int) (h0:v0=x.toNat) (h1:v1=y.toNat) :
  Bytes (w.alloc (.cells #[.int .u8 v0,.int .u8 v1] 5)) (w.heap.size+1) (some ⟨w.heap.size,0,none⟩) 2 [x,y]:=by
 subst h0 h1;refine ⟨rfl,fun _=>⟨_,0,rfl,by omega,fun i hi=>?_⟩⟩;rw [cell_of_row _ _ _ _ _ _ (heap_alloc_new _ _)]
 have:i=0∨i=1:=by omega
 rcases this with rfl | rfl <;> rfl
theorem one_new (w:World) (x:BitVec 8):Bytes (w.alloc (.cells #[.int .u8 x.toNat] 5)) (w.heap.size+1) (some ⟨w.heap.size,0,none⟩) 1 [x]:=by
 refine ⟨rfl,fun _=>⟨_,0,rfl,by omega,fun i hi=>?_⟩⟩;rw [cell_of_row _ _ _ _ _ _ (heap_alloc_new _ _)]
 obtain rfl:i=0:=by omega
 rfl
def zb (r:Nat):Array Value:=((List.replicate r 0#8).map by8).toArray
theorem make_room (W:World) (l:Int) (r:Nat) (hl:l=r) (hr:r≤1099511627776) :
  (Instr.makeSlice 41 (.int .i64 0) (.int .i64 l)).run Tryz.prog W = .ok (.slice (some ⟨W.heap.size,0,none⟩) 0 r) (W.alloc (.cells (zb r) 5)):=by
 obtain ⟨i0,hi0,hi1,hi2,hi3⟩:=byte_info;subst hl;have h:=run_make (P:=Tryz.prog) W 41 5 i0 _ Tryz.underlying41 hi0 hi1 .i64 .i64 0 (r:Int) (by omega) (by omega) (by rw [hi3]; omega) (by omega);rw [h,Int.toNat_natCast,hi2,Nat.mul_one]
 have e:(madeCells (Value.int IntKind.u8 0).cells r)=zb r:=by
  apply Array.toList_inj.1
  rw [show (Value.int IntKind.u8 0).cells = #[Value.int IntKind.u8 0] from rfl,toList_madeCells_one];simp [zb,by8]
 rw [e];rfl
theorem made_new (w:World) (base:Nat) (hb:base≤w.heap.size) (r:Nat) (hc:r≤1000000000):Own base (w.alloc (.cells (zb r) 5)) (some ⟨w.heap.size,0,none⟩) 0 r []:=
 ⟨⟨rfl,.inr ⟨w.heap.size,r,zb r,rfl,hb,heap_alloc_new w _,Nat.zero_le _,by unfold maxLen; omega,by simp [zb],rfl⟩⟩,Nat.zero_le _⟩
theorem Bytes.cut2 {w:World} {B n cap j g o:Nat} {l:Bs} (h:Bytes w B (some ⟨g,o,none⟩) n l) (hj:j≤n) (hc:n≤cap) (hne:¬ cap=j):Bytes w B (some ⟨g,o+j,none⟩) (n - j) (l.drop j):=by
 have:=h.cut (cap:=cap) hj hc;unfold cutA at this;rw [if_neg hne] at this
 simpa [add_none] using this
theorem Bytes.drewN {w:World} {B n:Nat} {a:Option Addr} {l:Bs} (h:Bytes w B a n l) (k:Nat):Bytes (w.drewN k) B a n l:=h.keep fun _ _=>rfl
def str (l:Bs):ByteArray:=⟨(l.map fun c=>(⟨c⟩:UInt8)).toArray⟩
theorem conv_str {w:World} {B n cap:Nat} {a:Option Addr} {l:Bs} (h:Bytes w B a n l):(convert 41 9 (.slice a n cap)).run Tryz.prog w = .ok (.string (str l)) w:=by
 rcases a with _ | ad
 ·have hn:n=0:=by
   rcases Nat.eq_zero_or_pos n with h0 | h0
   ·exact h0
   ·obtain ⟨_,_,h',_⟩:=h.2 h0
    cases h'
  subst hn;have hl:l=[]:=List.eq_nil_of_length_eq_zero h.1;subst hl;rw [run_convert_bytes_string w 41 9 5 none 0 cap Tryz.underlying41 Tryz.underlying5 Tryz.underlying9];rfl
 ·have hl:=h.1
  subst hl
  have:=run_convert_bytes_back (P:=Tryz.prog) w 41 9 5 ad cap (l.map fun c=>(⟨c⟩:UInt8)) Tryz.underlying41 Tryz.underlying5 Tryz.underlying9 (by
   intro j hj;rw [List.length_map] at hj;obtain ⟨b,off,e,_,hc⟩:=h.2 (by omega)
   injection e with e
   subst e;rw [add_none,hc j hj]
   simp [List.getElem?_eq_getElem hj])
  rw [List.length_map] at this;exact this
theorem str_ne {l m:Bs} (h:l≠m):((str l).toList == (str m).toList)=false:=by
 simp only [beq_eq_false_iff_ne];intro e;rw [ByteArray.toList_eq,ByteArray.toList_eq] at e
 apply h
 unfold str at e;simp only at e;exact (List.map_inj_right (fun x y e=>by injection e)).1 e
theorem str_app (l m:Bs):str (l ++ m)=str l ++ str m:=by
 unfold str;rw [ByteArray.mk_append_mk,List.map_append]
theorem make_full (W:World) (l:Int) (r:Nat) (hl:l=r) (hr:r≤1099511627776) :
  (Instr.makeSlice 41 (.int .i64 l) (.int .i64 l)).run Tryz.prog W = .ok (.slice (some ⟨W.heap.size,0,none⟩) r r) (W.alloc (.cells (zb r) 5)):=by
 obtain ⟨i0,hi0,hi1,hi2,hi3⟩:=byte_info;subst hl;have h:=run_make (P:=Tryz.prog) W 41 5 i0 _ Tryz.underlying41 hi0 hi1 .i64 .i64 (r:Int) (r:Int) (by omega) (Int.le_refl _) (by rw [hi3]; omega) (by omega);rw [h,Int.toNat_natCast,hi2,Nat.mul_one]
 have e:(madeCells (Value.int IntKind.u8 0).cells r)=zb r:=by
  apply Array.toList_inj.1
  rw [show (Value.int IntKind.u8 0).cells = #[Value.int IntKind.u8 0] from rfl,toList_madeCells_one];simp [zb,by8]
 rw [e]
theorem str_size (l:Bs):(str l).size=l.length:=by
 unfold str;simp [ByteArray.size]
end
section
open Go.RowKit
structure Mid (base:Nat) (w:World) (a:Option Addr) (n c:Nat) (l:Bs):Prop where
 len:l.length=n
 cap:n≤c
 max:c≤maxLen
 lies:(a=none∧c=0)∨∃ g off,a=some ⟨g,off,none⟩∧base≤g∧g<w.heap.size ∧
  (∀ j,j<n→w.cell? ⟨g,off+j,none⟩=some (.int .u8 (l[j]?.getD 0#8).toNat)) ∧
  ∀ j,j<c→(w.cell? ⟨g,off+j,none⟩).isSome=true∧w.frozen? ⟨g,off+j,none⟩=false
section
variable {base B n c m k:Nat} {w w':World} {a:Option Addr} {l:Bs}
theorem Mid.lt (h:Mid base w a n c l) {p:Addr} (hp:a=some p):base≤p.block∧p.block<w.heap.size:=by
 rcases h.lies with ⟨e,_⟩ | ⟨g,off,e,h1,h2,_⟩
 ·rw [e] at hp; cases hp
 ·rw [e] at hp; injection hp with hp; subst hp; exact ⟨h1,h2⟩
theorem Mid.bytes (h:Mid base w a n c l):Bytes w w.heap.size a n l:=by
 refine ⟨h.len,fun hn=>?_⟩
 rcases h.lies with ⟨_,hc⟩ | ⟨g,off,e,h1,h2,h3,_⟩
 ·have:=h.cap; omega
 ·exact ⟨g,off,e,h2,h3⟩
theorem Mid.only {S:Nat→Prop} (h:Mid base w a n c l) (hO:Only S w w') (hS:∀ p,a=some p→¬ S p.block):Mid base w' a n c l:=by
 refine ⟨h.len,h.cap,h.max,?_⟩
 rcases h.lies with h0 | ⟨g,off,e,h1,h2,h3,h4⟩
 ·exact .inl h0
 ·have hg:=hS _ e
  refine .inr ⟨g,off,e,h1,Nat.lt_of_lt_of_le h2 hO.size,fun j hj=>?_,fun j hj=>?_⟩
  ·rw [hO.cell (p:=⟨g,off+j,none⟩) h2 hg]; exact h3 j hj
  ·rw [hO.cell (p:=⟨g,off+j,none⟩) h2 hg,hO.frozen (p:=⟨g,off+j,none⟩) h2 hg]; exact h4 j hj
theorem Mid.below (h:Mid base w a n c l) (hb:Below w.heap.size w w'):Mid base w' a n c l:=h.only (only_of_below hb) fun _ _ h=>h
theorem Mid.mono (h:Mid base w a n c l) (hb:B≤base):Mid B w a n c l:=by
 refine ⟨h.len,h.cap,h.max,?_⟩
 rcases h.lies with h0 | ⟨g,off,e,h1,h2⟩
 ·exact .inl h0
 ·exact .inr ⟨g,off,e,Nat.le_trans hb h1,h2⟩
theorem Mid.nil (base:Nat) (w:World):Mid base w none 0 0 []:=⟨rfl,Nat.le_refl _,by unfold maxLen; omega,.inl ⟨rfl,rfl⟩⟩
theorem Own.mid (h:Own base w a n c l):Mid base w a n c l:=by
 rcases h.row.2 with ⟨e,hn⟩ | ⟨g,cap,cur,e,h1,h2,h3,h4,h5,h6⟩
 ·injection e with e1 e2 e3
  subst e1 e2 e3;exact ⟨h.len,Nat.le_refl _,by unfold maxLen; omega,.inl ⟨rfl,rfl⟩⟩
 ·injection e with e1 _ e3
  subst e1 e3
  have hlt:g<w.heap.size:=by
   rcases Nat.lt_or_ge g w.heap.size with h' | h'
   ·exact h'
   ·rw [Array.getElem?_eq_none h'] at h2; cases h2
  refine ⟨h.len,h3,h4,.inr ⟨g,0,rfl,h1,hlt,fun j hj=>?_,fun j hj=>?_⟩⟩
  ·rw [Nat.zero_add]
   exact own_cell h.row j (by rw [h.len]; exact hj)
  ·rw [Nat.zero_add,cell_of_row _ _ _ _ _ _ h2,frozen_of_row _ _ _ _ _ h2]
   exact ⟨by rw [Array.getElem?_eq_getElem (by omega)]; rfl,rfl⟩
theorem Mid.cut (h:Mid base w a n c l) (hk:k≤n):Mid base w (cutA a c k) (n - k) (c - k) (l.drop k):=by
 have hc:=h.cap;have hm:=h.max;refine ⟨by simp [h.len],by omega,by omega,?_⟩;unfold cutA
 rcases h.lies with ⟨rfl,rfl⟩ | ⟨g,off,rfl,h1,h2,h3,h4⟩
 ·exact .inl ⟨by simp,by omega⟩
 ·right
  by_cases e:c=k
  ·rw [if_pos e]
   exact ⟨g,off,rfl,h1,h2,fun j hj=>absurd hj (by omega),fun j hj=>absurd hj (by omega)⟩
  ·rw [if_neg e]
   refine ⟨g,off+k,by simp [add_none],h1,h2,fun j hj=>?_,fun j hj=>?_⟩
   ·rw [Nat.add_assoc,h3 _ (by omega),List.getElem?_drop]
   ·rw [Nat.add_assoc]; exact h4 _ (by omega)
end
theorem src_bytes {w:World} {B:Nat} {A:Option Addr} {m c:Nat} {l:Bs} (hr:Bytes w B A m l):Src Tryz.prog 1 41 (.slice A m c) m (l.map by8) w:=by
 rcases A with _ | ad
 ·have hm:m=0:=by
   rcases Nat.eq_zero_or_pos m with h | h
   ·exact h
   ·obtain ⟨_,_,h',_⟩:=hr.2 h
    cases h'
  subst hm;have hl:l=[]:=List.eq_nil_of_length_eq_zero hr.1;subst hl;exact Src.ofNil w Tryz.underlying41 c
 ·refine Src.ofSlice w Tryz.underlying41 ad m c (l.map by8) (by simp [hr.1]) ?_ (by intro u hu; simp at hu; obtain ⟨c,_,rfl⟩:=hu; rfl)
  intro j u hu
  have hj:j<l.length:=by
   rcases Nat.lt_or_ge j l.length with h | h
   ·exact h
   ·rw [List.getElem?_eq_none (by simpa using h)] at hu; cases hu
  obtain ⟨b,off,h,_,hc⟩:=hr.2 (by have:=hr.1; omega)
  injection h with h
  subst h;rw [add_none,hc j (by have:=hr.1; omega),← hu];simp [List.getElem?_eq_getElem hj,by8]
theorem run_mid (ty:TypeId) (base:Nat) {w:World} {a:Option Addr} {n c:Nat} {k:Bs} (h:Mid base w a n c k) {B:Nat} {A:Option Addr} {m c2:Nat} {l:Bs} (hr:Bytes w B A m l)
    (hroom:n+m≤140737488355328) (hbase:base≤w.heap.size) :
    ∃ A2 c3 w',(Builtin.append_ #[41,41] ty #[.slice a n c,.slice A m c2]).run Tryz.prog w = .ok (.slice A2 (n+m) c3) w'∧Mid base w' A2 (n+m) c3 (k ++ l)∧Only (In a) w w' ∧
      ∀ p,A2=some p→In a p.block∨w.heap.size≤p.block:=by
  obtain ⟨i0,hi0,hi1,hi2,hi3⟩:=byte_info;have hs:=src_bytes (c:=c2) hr
  have hs':Src Tryz.prog i0.size 41 (.slice A m c2) m (l.map by8) w:=by rw [hi2]; exact hs
  have hkl:=h.len;have hlm:=hr.1;have hcap:=h.cap;have hmax:=h.max
  by_cases hfit:n+m≤c
  · rcases h.lies with ⟨rfl,rfl⟩ | ⟨g,off,rfl,h1,h2,h3,h4⟩
    · obtain rfl:n=0:=by omega
      obtain rfl:m=0:=by omega
      obtain rfl:l=[]:=List.eq_nil_of_length_eq_zero hlm;refine ⟨none,0,w,run_append_nothing w 41 41 ty 5 i0 Tryz.underlying41 hi0 none 0 0 (Nat.le_refl _) _ hs',by simpa using h,Only.refl _ w,fun p hp=>by cases hp⟩
    · have hc:=fun j (hj:j<(l.map by8).length)=>h4 (n+j) (by simp at hj; omega)
      have hrun:=run_append_room_src (P:=Tryz.prog) w 41 41 ty 5 i0 Tryz.underlying41 hi0 g off n c _ m _ hs' hfit
        (fun j hj=>by rw [hi2,Nat.mul_one,Nat.add_assoc]; exact (hc j hj).1) (fun j hj=>by rw [hi2,Nat.mul_one,Nat.add_assoc]; exact (hc j hj).2)
      rw [hi2,Nat.mul_one] at hrun;have hO:=only_setCells g (l.map by8) w (off+n);refine ⟨_,_,_,hrun,⟨by simp [hkl,hlm],hfit,hmax,.inr ⟨g,off,rfl,h1,Nat.lt_of_lt_of_le h2 hO.size,fun j hj=>?_,fun j hj=>?_⟩⟩,hO.mono (fun k _ hk=>⟨_,rfl,hk.symm⟩),fun p hp=>.inl ⟨_,rfl,by injection hp with hp; rw [← hp]⟩⟩
      · by_cases hjn:j<n
        · rw [World.cell?_setCells_out g _ _ w ⟨g,off+j,none⟩ (fun _ _=>.inl (by show off+j<off+n; omega)),h3 j hjn,List.getElem?_append_left (by omega)]
        · obtain ⟨i,rfl⟩:∃ i,j=n+i:=⟨j - n,by omega⟩
          have hi:i<(l.map by8).length:=by simp; omega
          rw [← Nat.add_assoc,World.cell?_setCells_in g _ _ w (fun j hj=>by rw [Nat.add_assoc]; exact (hc j hj).1) i hi,List.getElem?_append_right (by omega),hkl,Nat.add_sub_cancel_left];simp [by8,List.getElem?_eq_getElem (show i<l.length by simpa using hi)]
      · rw [World.frozen?_setCells]
        refine ⟨?_,(h4 j hj).2⟩
        by_cases hjn:j<n∨n+m≤j
        · rw [World.cell?_setCells_out g _ _ w ⟨g,off+j,none⟩ (fun _ _=>by
            rcases hjn with h' | h'
            · left; show off+j<off+n; omega
            · right; show off+n+(l.map by8).length≤off+j; simp; omega)]
          exact (h4 j hj).1
        · obtain ⟨i,rfl⟩:∃ i,j=n+i:=⟨j - n,by omega⟩
          have hi:i<(l.map by8).length:=by simp; omega
          rw [← Nat.add_assoc,World.cell?_setCells_in g _ _ w (fun j hj=>by rw [Nat.add_assoc]; exact (hc j hj).1) i hi];rfl
  · have hold:(Builtin.firstCells i0.size n (.slice a n c)).run Tryz.prog w.drew = .ok (k.map by8).toArray w.drew:=by
      rw [hi2];exact (src_bytes (c:=c) h.bytes).cellsD
    have hrun:=run_append_grow_src (P:=Tryz.prog) w 41 41 ty 5 i0 _ Tryz.underlying41 hi0 hi1 a n c (k.map by8) hold _ m _ hs' (by omega) (by omega) (growslice_fits (by omega) (by rw [hi3]; omega));have hge:=grownCap_ge w (n+m) c 5;have hle:=grownCap_le_maxLen w (n+m) c 5 (by unfold maxLen; omega);refine ⟨_,_,_,hrun,?_,?_,fun p hp=>.inr (by injection hp with hp; subst hp; exact Nat.le_refl _)⟩
    · have hown:Own base (w.drew.alloc (.cells ((k.map by8 ++ l.map by8).toArray ++ Builtin.zeroCells (Value.int .u8 0).cells (grownCap w (n+m) c 5 - (n+m))) 5)) (some ⟨w.heap.size,0,none⟩) (n+m) (grownCap w (n+m) c 5) (k ++ l):=by
        refine ⟨⟨by simp [hkl,hlm],.inr ⟨w.heap.size,_,_,rfl,hbase,heap_alloc_new w.drew _,hge,hle,?_,?_⟩⟩,hge⟩
        · simp only [Array.size_append,List.size_toArray,size_zeroCells,List.length_append,List.length_map,hkl,hlm]
          simp [Value.cells];omega
        · simp only [Array.toList_append,List.map_append,Nat.mul_one]
          rw [List.take_left' (by simp [hkl,hlm])]
      exact hown.mid
    · exact ⟨rfl,rfl,rfl,by simp,fun i hi _=>heap_alloc_old w.drew _ hi⟩
theorem wpList_mid {w:World} {ops:Array Oper} {rest:List Oper} {o:Oper} {act:Act} {Q:Exit→Act→World→Prop} (hgd:o.guard=none) (s x:Operand)
  (ho:o.op = .call { callee:=.builtin .append,args:=#[s,x],argTypes:=#[41,41] })
  (base:Nat) {a:Option Addr} {n c:Nat} {k:Bs} (hs:act.eval s = .slice a n c) (hm:Mid base w a n c k)
  {B:Nat} {A:Option Addr} {m c2:Nat} {l:Bs} (hx:act.eval x = .slice A m c2) (hr:Bytes w B A m l)
  (hroom:n+m≤140737488355328) (hbase:base≤w.heap.size)
  (h:∀ A2 c3 w',Mid base w' A2 (n+m) c3 (k ++ l)→Only (In a) w w'→(∀ p,A2=some p→In a p.block∨w.heap.size≤p.block)→wpList Tryz.prog ops Q rest (act.put o.dst (.slice A2 (n+m) c3)) w') :
  wpList Tryz.prog ops Q (o :: rest) act w:=by
 obtain ⟨A2,c3,w',hrun,h1,h2,h3⟩:=run_mid o.type base hm (c2:=c2) hr hroom hbase
 refine wpList_plain hgd fun K hK=>?_
 unfold Oper.wp execOp;simp only [ho,resolve,invoke,builtin,Sem.run_bind,Sem.run_pure,Result.andThen_ok,List.map_toArray,List.map_cons,List.map_nil,hs,hx,hrun];exact hK _ _ (h A2 c3 w' h1 h2 h3)
end
section
open Go.RowKit
structure Elem (st e:TypeId) (z:Value) (wd:Nat):Prop where
 und:Tryz.prog.underlying st=some (.slice e)
 info:∃ i,Tryz.prog.info? e=some i∧i.zero=some z∧i.size=1∧i.bytes=wd
 zc:z.cells = #[z]
 pos:1≤wd
def Vals (w:World) (B:Nat) (a:Option Addr) (n:Nat) (vs:List Value):Prop:=
 vs.length=n∧(∀ v∈vs,v.oneCell'=true)∧(0<n→∃ b off,a=some ⟨b,off,none⟩∧b<B∧∀ i v,vs[i]?=some v→w.cell? ⟨b,off+i,none⟩=some v)
structure Rw (base:Nat) (w:World) (a:Option Addr) (n c:Nat) (vs:List Value):Prop where
 len:vs.length=n
 cap:n≤c
 max:c≤maxLen
 one:∀ v∈vs,v.oneCell'=true
 lies:(a=none∧c=0)∨∃ g off,a=some ⟨g,off,none⟩∧base≤g∧g<w.heap.size ∧
  (∀ j v,vs[j]?=some v→w.cell? ⟨g,off+j,none⟩=some v) ∧
  ∀ j,j<c→(w.cell? ⟨g,off+j,none⟩).isSome=true∧w.frozen? ⟨g,off+j,none⟩=false
section
variable {base B n c m k:Nat} {w w':World} {a:Option Addr} {vs:List Value}
theorem Vals.only {S:Nat→Prop} (h:Vals w B a n vs) (hO:Only S w w') (hB:B≤w.heap.size) (hs:0<n→∀ p,a=some p→¬ S p.block):Vals w' B a n vs:=
 ⟨h.1,h.2.1,fun hn=>by
  obtain ⟨b,off,e,hlt,hc⟩:=h.2.2 hn
  exact ⟨b,off,e,hlt,fun i v hi=>(hO.cell (p:=⟨b,off+i,none⟩) (Nat.lt_of_lt_of_le hlt hB) (fun hS=>hs hn _ e hS)).trans (hc i v hi)⟩⟩
theorem Vals.more (h:Vals w B a n vs) (hB:B≤k):Vals w k a n vs:=
 ⟨h.1,h.2.1,fun hn=>by
  obtain ⟨b,off,e,hlt,hc⟩:=h.2.2 hn
  exact ⟨b,off,e,by omega,hc⟩⟩
theorem Rw.lt (h:Rw base w a n c vs) {p:Addr} (hp:a=some p):base≤p.block∧p.block<w.heap.size:=by
 rcases h.lies with ⟨e,_⟩ | ⟨g,off,e,h1,h2,_⟩
 ·rw [e] at hp; cases hp
 ·rw [e] at hp; injection hp with hp; subst hp; exact ⟨h1,h2⟩
theorem Rw.inlt (h:Rw base w a n c vs) {b:Nat} (hb:In a b):base≤b∧b<w.heap.size:=by
 obtain ⟨p,hp,rfl⟩:=hb;exact h.lt hp
theorem Rw.vals (h:Rw base w a n c vs):Vals w w.heap.size a n vs:=by
 refine ⟨h.len,h.one,fun hn=>?_⟩
 rcases h.lies with ⟨_,hc⟩ | ⟨g,off,e,h1,h2,h3,_⟩
 ·have:=h.cap; omega
 ·exact ⟨g,off,e,h2,h3⟩
theorem Rw.only {S:Nat→Prop} (h:Rw base w a n c vs) (hO:Only S w w') (hS:∀ b,In a b→¬ S b):Rw base w' a n c vs:=by
 refine ⟨h.len,h.cap,h.max,h.one,?_⟩
 rcases h.lies with h0 | ⟨g,off,e,h1,h2,h3,h4⟩
 ·exact .inl h0
 ·have hg:=hS g ⟨_,e,rfl⟩
  refine .inr ⟨g,off,e,h1,Nat.lt_of_lt_of_le h2 hO.size,fun j v hj=>?_,fun j hj=>?_⟩
  ·rw [hO.cell (p:=⟨g,off+j,none⟩) h2 hg]; exact h3 j v hj
  ·rw [hO.cell (p:=⟨g,off+j,none⟩) h2 hg,hO.frozen (p:=⟨g,off+j,none⟩) h2 hg]; exact h4 j hj
theorem Rw.below (h:Rw base w a n c vs) (hb:Below w.heap.size w w'):Rw base w' a n c vs:=h.only (only_of_below hb) fun _ _ h=>h
theorem Rw.mono (h:Rw base w a n c vs) (hb:B≤base):Rw B w a n c vs:=by
 refine ⟨h.len,h.cap,h.max,h.one,?_⟩
 rcases h.lies with h0 | ⟨g,off,e,h1,h2⟩
 ·exact .inl h0
 ·exact .inr ⟨g,off,e,Nat.le_trans hb h1,h2⟩
theorem Rw.nil (base:Nat) (w:World):Rw base w none 0 0 []:=⟨rfl,Nat.le_refl _,by unfold maxLen; omega,by simp,.inl ⟨rfl,rfl⟩⟩
theorem Vals.lit (w:World) (vs:List Value) (t:TypeId) (h1:∀ v∈vs,v.oneCell'=true) (fr:Nat×Nat) (C:Array Value) (hC:C=vs.toArray):Vals (w.alloc (.cells C t fr)) (w.heap.size+1) (some ⟨w.heap.size,0,none⟩) vs.length vs:=by
 subst hC;have hh:=heap_alloc_new w (.cells vs.toArray t fr);refine ⟨rfl,h1,fun _=>⟨_,0,rfl,by omega,fun j v hj=>?_⟩⟩
 rw [cell_of_row _ _ _ _ _ _ hh,Nat.zero_add]; simpa using hj
end
theorem src_vals {st e:TypeId} {z:Value} {wd:Nat} (he:Elem st e z wd) {w:World} {B:Nat} {A:Option Addr} {m c:Nat} {vs:List Value} (hr:Vals w B A m vs):Src Tryz.prog 1 st (.slice A m c) m vs w:=by
 rcases A with _ | ad
 ·have hm:m=0:=by
   rcases Nat.eq_zero_or_pos m with h | h
   ·exact h
   ·obtain ⟨_,_,h',_⟩:=hr.2.2 h
    cases h'
  subst hm;have hl:vs=[]:=List.eq_nil_of_length_eq_zero hr.1;subst hl;exact Src.ofNil w he.und c
 ·refine Src.ofSlice w he.und ad m c vs (by simp [hr.1]) ?_ hr.2.1
  intro j u hu
  have hj:j<vs.length:=by
   rcases Nat.lt_or_ge j vs.length with h | h
   ·exact h
   ·rw [List.getElem?_eq_none h] at hu; cases hu
  obtain ⟨b,off,h,_,hc⟩:=hr.2.2 (by have:=hr.1; omega)
  injection h with h
  subst h;rw [add_none];exact hc j u hu
theorem run_rw {st e:TypeId} {z:Value} {wd:Nat} (he:Elem st e z wd) (ty:TypeId) (base:Nat) {w:World} {a:Option Addr} {n c:Nat} {k:List Value} (h:Rw base w a n c k) {B:Nat} {A:Option Addr} {m c2:Nat} {l:List Value} (hr:Vals w B A m l)
    (hroom:(n+m) * wd≤140737488355328) (hbase:base≤w.heap.size) :
    ∃ A2 c3 w',(Builtin.append_ #[st,st] ty #[.slice a n c,.slice A m c2]).run Tryz.prog w = .ok (.slice A2 (n+m) c3) w'∧Rw base w' A2 (n+m) c3 (k ++ l)∧Only (In a) w w' ∧
      ∀ b,In A2 b→In a b∨w.heap.size≤b:=by
  obtain ⟨i0,hi0,hi1,hi2,hi3⟩:=he.info;have hs:=src_vals he (c:=c2) hr
  have hs':Src Tryz.prog i0.size st (.slice A m c2) m l w:=by rw [hi2]; exact hs
  have hkl:=h.len;have hlm:=hr.1;have hcap:=h.cap;have hmax:=h.max;have hwd:=he.pos
  have hone:∀ v∈k ++ l,v.oneCell'=true:=by
    intro v hv
    rcases List.mem_append.1 hv with hv | hv
    · exact h.one v hv
    · exact hr.2.1 v hv
  have hle2:n+m≤140737488355328:=Nat.le_trans (Nat.le_mul_of_pos_right _ hwd) hroom
  by_cases hfit:n+m≤c
  · rcases h.lies with ⟨rfl,rfl⟩ | ⟨g,off,rfl,h1,h2,h3,h4⟩
    · obtain rfl:n=0:=by omega
      obtain rfl:m=0:=by omega
      obtain rfl:l=[]:=List.eq_nil_of_length_eq_zero hlm;refine ⟨none,0,w,run_append_nothing w st st ty e i0 he.und hi0 none 0 0 (Nat.le_refl _) _ hs',by simpa using h,Only.refl _ w,fun b hb=>.inl hb⟩
    · have hc:=fun j (hj:j<l.length)=>h4 (n+j) (by omega)
      have hrun:=run_append_room_src (P:=Tryz.prog) w st st ty e i0 he.und hi0 g off n c _ m _ hs' hfit
        (fun j hj=>by rw [hi2,Nat.mul_one,Nat.add_assoc]; exact (hc j hj).1) (fun j hj=>by rw [hi2,Nat.mul_one,Nat.add_assoc]; exact (hc j hj).2)
      rw [hi2,Nat.mul_one] at hrun;have hO:=only_setCells g l w (off+n);refine ⟨_,_,_,hrun,⟨by simp [hkl,hlm],hfit,hmax,hone,.inr ⟨g,off,rfl,h1,Nat.lt_of_lt_of_le h2 hO.size,fun j v hj=>?_,fun j hj=>?_⟩⟩,hO.mono (fun k _ hk=>⟨_,rfl,hk.symm⟩),fun b hb=>.inl hb⟩
      · by_cases hjn:j<n
        · rw [World.cell?_setCells_out g _ _ w ⟨g,off+j,none⟩ (fun _ _=>.inl (by show off+j<off+n; omega))]
          rw [List.getElem?_append_left (by omega)] at hj;exact h3 j v hj
        · obtain ⟨i,rfl⟩:∃ i,j=n+i:=⟨j - n,by omega⟩
          have hi:i<l.length:=by
            rcases Nat.lt_or_ge i l.length with h' | h'
            · exact h'
            · rw [List.getElem?_eq_none (by simp; omega)] at hj; cases hj
          rw [← Nat.add_assoc,World.cell?_setCells_in g _ _ w (fun j hj=>by rw [Nat.add_assoc]; exact (hc j hj).1) i hi];rw [List.getElem?_append_right (by omega),hkl,Nat.add_sub_cancel_left,List.getElem?_eq_getElem hi] at hj;exact hj
      · rw [World.frozen?_setCells]
        refine ⟨?_,(h4 j hj).2⟩
        by_cases hjn:j<n∨n+m≤j
        · rw [World.cell?_setCells_out g _ _ w ⟨g,off+j,none⟩ (fun _ _=>by
            rcases hjn with h' | h'
            · left; show off+j<off+n; omega
            · right; show off+n+l.length≤off+j; omega)]
          exact (h4 j hj).1
        · obtain ⟨i,rfl⟩:∃ i,j=n+i:=⟨j - n,by omega⟩
          have hi:i<l.length:=by omega
          rw [← Nat.add_assoc,World.cell?_setCells_in g _ _ w (fun j hj=>by rw [Nat.add_assoc]; exact (hc j hj).1) i hi];rfl
  · have hold:(Builtin.firstCells i0.size n (.slice a n c)).run Tryz.prog w.drew = .ok k.toArray w.drew:=by
      rw [hi2];exact (src_vals he (c:=c) h.vals).cellsD
    have hrun:=run_append_grow_src (P:=Tryz.prog) w st st ty e i0 _ he.und hi0 hi1 a n c k hold _ m _ hs' (by omega) (by omega) (growslice_fits (by omega) (by rw [hi3]; exact hroom));have hge:=grownCap_ge w (n+m) c e;have hle:=grownCap_le_maxLen w (n+m) c e (by unfold maxLen; omega);refine ⟨_,_,_,hrun,?_,?_,fun b hb=>.inr (by obtain ⟨p,hp,rfl⟩:=hb; injection hp with hp; subst hp; exact Nat.le_refl _)⟩
    · have hh:=heap_alloc_new w.drew (.cells ((k ++ l).toArray ++ Builtin.zeroCells z.cells (grownCap w (n+m) c e - (n+m))) e)
      have hsz:((k ++ l).toArray ++ Builtin.zeroCells z.cells (grownCap w (n+m) c e - (n+m))).size=grownCap w (n+m) c e:=by
        simp only [Array.size_append,List.size_toArray,size_zeroCells,List.length_append,hkl,hlm];simp [he.zc];omega
      refine ⟨by simp [hkl,hlm],hge,hle,hone,.inr ⟨_,0,rfl,hbase,by simp,fun j v hj=>?_,fun j hj=>?_⟩⟩
      · have hjl:j<(k ++ l).length:=by
          rcases Nat.lt_or_ge j (k ++ l).length with h' | h'
          · exact h'
          · rw [List.getElem?_eq_none h'] at hj; cases hj
        show World.cell? _ ⟨w.drew.heap.size,0+j,none⟩=_
        rw [cell_of_row _ _ _ _ _ _ hh,Nat.zero_add,Array.getElem?_append_left (by simpa using hjl)]
        simpa using hj
      · show (World.cell? _ ⟨w.drew.heap.size,0+j,none⟩).isSome=true∧World.frozen? _ ⟨w.drew.heap.size,0+j,none⟩=false
        rw [cell_of_row _ _ _ _ _ _ hh,frozen_of_row _ _ _ _ _ hh,Nat.zero_add];exact ⟨by rw [Array.getElem?_eq_getElem (by rw [hsz]; exact hj)]; rfl,rfl⟩
    · exact ⟨rfl,rfl,rfl,by simp,fun i hi _=>heap_alloc_old w.drew _ hi⟩
theorem wpList_rw {st e:TypeId} {z:Value} {wd:Nat} (he:Elem st e z wd) {w:World} {ops:Array Oper} {rest:List Oper} {o:Oper} {act:Act} {Q:Exit→Act→World→Prop} (hgd:o.guard=none) (s x:Operand)
  (ho:o.op = .call { callee:=.builtin .append,args:=#[s,x],argTypes:=#[st,st] })
  (base:Nat) {a:Option Addr} {n c:Nat} {k:List Value} (hs:act.eval s = .slice a n c) (hm:Rw base w a n c k)
  {B:Nat} {A:Option Addr} {m c2:Nat} {l:List Value} (hx:act.eval x = .slice A m c2) (hr:Vals w B A m l)
  (hroom:(n+m) * wd≤140737488355328) (hbase:base≤w.heap.size)
  (h:∀ A2 c3 w',Rw base w' A2 (n+m) c3 (k ++ l)→Only (In a) w w'→(∀ b,In A2 b→In a b∨w.heap.size≤b)→wpList Tryz.prog ops Q rest (act.put o.dst (.slice A2 (n+m) c3)) w') :
  wpList Tryz.prog ops Q (o :: rest) act w:=by
 obtain ⟨A2,c3,w',hrun,h1,h2,h3⟩:=run_rw he o.type base hm (c2:=c2) hr hroom hbase
 refine wpList_plain hgd fun K hK=>?_
 unfold Oper.wp execOp;simp only [ho,resolve,invoke,builtin,Sem.run_bind,Sem.run_pure,Result.andThen_ok,List.map_toArray,List.map_cons,List.map_nil,hs,hx,hrun];exact hK _ _ (h A2 c3 w' h1 h2 h3)
def ints (l:List Int):List Value:=l.map (Value.int .i64)
theorem ints_len (l:List Int):(ints l).length=l.length:=by simp [ints]
theorem ints_app (l m:List Int):ints (l ++ m)=ints l ++ ints m:=by simp [ints]
theorem ints_one (l:List Int):∀ v∈ints l,v.oneCell'=true:=by
 intro v hv;simp only [ints,List.mem_map] at hv;obtain ⟨x,_,rfl⟩:=hv;rfl
theorem ints_get (l:List Int) (j:Nat) (hj:j<l.length):(ints l)[j]?=some (.int .i64 (l.getD j 0)):=by
 simp [ints,List.getElem?_eq_getElem hj,List.getD_eq_getElem?_getD]
theorem ints_at {w:World} {B n:Nat} {a:Option Addr} {l:List Int} (h:Vals w B a n (ints l)) (hn:0<n) :
  ∃ b off,a=some ⟨b,off,none⟩∧b<B∧∀ j,j<n→w.cell? ⟨b,off+j,none⟩=some (.int .i64 (l.getD j 0)):=by
 obtain ⟨b,off,e,hlt,hc⟩:=h.2.2 hn;have hl:=h.1;rw [ints_len] at hl;exact ⟨b,off,e,hlt,fun j hj=>hc j _ (ints_get l j (by omega))⟩
end
section
open Go.RowKit
open Rg
theorem block_lt {w:World} {g:Nat} {o:Obj} (h:w.heap[g]?=some o):g<w.heap.size:=by
 rcases Nat.lt_or_ge g w.heap.size with h' | h'
 ·exact h'
 ·rw [Array.getElem?_eq_none h'] at h; cases h
structure Raw (z:Zo) (w:World) (gr gk room:Nat) (c:Bs) (e:Nat):Prop where
 len:c.length=room
 pos:0<room
 small:room≤65536
 few:e≤1099511627776
 ne:gr≠gk
 head:Bo z gr w #[.int .i64 e,.slice (some ⟨gk,0,none⟩) room room]
 body:w.heap[gk]?=some (.cells (c.map by8).toArray 5 (0,0))
section
variable {z:Zo} {w w':World} {gr gk room e:Nat} {c:Bs}
theorem Raw.end_ (h:Raw z w gr gk room c e):w.cell? ⟨gr,z.o,none⟩=some (.int .i64 e):=by
 exact h.head.cell0 _ rfl
theorem Raw.kept (h:Raw z w gr gk room c e):w.cell? ⟨gr,z.o+1,none⟩=some (.slice (some ⟨gk,0,none⟩) room room):=by
 exact h.head.cell 1 _ rfl
theorem Raw.drewN (h:Raw z w gr gk room c e) (n:Nat):Raw z (w.drewN n) gr gk room c e:=⟨h.len,h.pos,h.small,h.few,h.ne,h.head.drewN n,h.body⟩
theorem Raw.drew (h:Raw z w gr gk room c e):Raw z w.drew gr gk room c e:=⟨h.len,h.pos,h.small,h.few,h.ne,⟨⟨h.head.bx.head⟩⟩,h.body⟩
theorem Raw.free0 (h:Raw z w gr gk room c e):w.frozen? ⟨gr,z.o,none⟩=false:=h.head.free0
theorem Raw.cell (h:Raw z w gr gk room c e) (i:Nat) (hi:i<room):w.cell? ⟨gk,i,none⟩=some (.int .u8 (c[i]?.getD 0#8).toNat):=by
 rw [cell_of_row _ _ _ _ _ _ h.body];have:=h.len;simp [List.getElem?_eq_getElem (show i<c.length by omega),by8]
end
theorem Raw.body_of {z:Zo} {w w':World} {gr gk room e:Nat} {c c':Bs} (h:Raw z w gr gk room c e) (h1:w'.heap[gk]?=some (.cells (c'.map by8).toArray 5 (0,0))) (hO:Only (fun k=>k=gk) w w') (hl:c'.length=room) :
  Raw z w' gr gk room c' e:=
 ⟨hl,h.pos,h.small,h.few,h.ne,h.head.keep hO h.ne,h1⟩
theorem Raw.end_set {z:Zo} {w:World} {gr gk room e e':Nat} {c:Bs} (h:Raw z w gr gk room c e) {v:Int} (hv:v=e') (he:e'≤1099511627776):Raw z (w.setCell ⟨gr,z.o,none⟩ (.int .i64 v)) gr gk room c e':=
 ⟨h.len,h.pos,h.small,he,h.ne,by subst hv; exact h.head.set0 (.int .i64 e') (by simp),by rw [heap_setCell_other w ⟨gr,z.o,none⟩ gk _ (by simpa using h.ne.symm)]; exact h.body⟩
theorem room_any {z:Zo} {gr gk room E:Nat} {c:Bs} (w:World) (h:Raw z w gr gk room c E) :
  Calls Tryz.prog 71 #[.pointer (some ⟨gr,z.o,none⟩)] w fun e w'=>e = .returned (.int .i64 room)∧w=w':=by
 have hk:=h.kept;have h1:=h.pos;have h2:=h.small
 go_enter Tryz.func71,Tryz.ntmps71
 go_wp2;go_ret;exact ⟨rfl,rfl⟩
theorem place_any {z:Zo} {gr gk room E:Nat} {c:Bs} (n:Nat) (w:World) (h:Raw z w gr gk room c E) (hn:n≤1099511627776) :
  Calls Tryz.prog 91 #[.pointer (some ⟨gr,z.o,none⟩),.int .i64 n] w fun e w'=>e = .returned (.int .i64 (n % room:Nat))∧w=w':=by
 have hr:=lj (room_any w h);have h1:=h.pos;have h2:=h.small
 go_enter Tryz.func91,Tryz.ntmps91
 go_wp2_with fail
 refine hr.out.mono ?_;rintro e w' ⟨rfl,rfl⟩;go_wp2;go_ret;exact ⟨rfl,rfl⟩
theorem base_any {z:Zo} {gr gk room E:Nat} {c:Bs} (w:World) (h:Raw z w gr gk room c E) :
  Calls Tryz.prog 98 #[.pointer (some ⟨gr,z.o,none⟩)] w fun e w'=>e = .returned (.int .i64 (E - room:Nat))∧∃ m,w'=w.drewN m:=by
 have HR:=lj h;have he:=h.end_;have h1:=h.pos;have h2:=h.small;have h3:=h.few
 go_enter Tryz.func98,Tryz.ntmps98
 clear h;go_wp2
 go_quiet ((go_at_call 71; exact quiet_left (room_any _ (HR.out.drewN _))))
 go_wp2
 all_goals
  go_ret;exact ⟨ret_int (by omega),nq,rfl⟩
theorem end_any {z:Zo} {gr gk room E:Nat} {c:Bs} (w:World) (h:Raw z w gr gk room c E) :
  Calls Tryz.prog 166 #[.pointer (some ⟨gr,z.o,none⟩)] w fun e w'=>e = .returned (.int .i64 E)∧w=w':=by
 have he:=h.end_
 go_enter Tryz.func166,Tryz.ntmps166
 go_wp2;go_ret;exact ⟨rfl,rfl⟩
def Away (n:Nat) (a:Option Addr) (gr gk:Nat):Prop:=0<n→∀ p,a=some p→p.block≠gr∧p.block≠gk
theorem byte_size:(Tryz.prog.info? 5).map (·.size)=some 1:=by kernel_rfl
theorem still_of {P:Program} {f:FuncId} {args:Array Value} {w:World} {v:Value} (h:Calls P f args w fun e w'=>e = .returned v∧w=w') :
  Calls P f args w fun e w'=>e = .returned v∧w'=w:=h.mono fun _ _ ⟨he,hw⟩=>⟨he,hw.symm⟩
theorem Bytes.drew {w:World} {B n:Nat} {a:Option Addr} {l:Bs} (h:Bytes w B a n l):Bytes w.drew B a n l:=h
theorem put_any {z:Zo} {gr gk room E B:Nat} {c:Bs} (a:Option Addr) (n cap:Nat) (l:Bs) (w:World) (h:Raw z w gr gk room c E) (hl:Bytes w B a n l) (ha:Away n a gr gk) (hcap:n≤cap)
  (hn:n≤room) (hB:B≤w.heap.size) (hE:E+n≤1099511627776) :
  Calls Tryz.prog 72 #[.pointer (some ⟨gr,z.o,none⟩),.slice a n cap] w fun e w'=>e = .returned (.tuple #[])∧Raw z w' gr gk room (put room (E % room) c l) (E+n)∧Only (fun k=>k=gr∨k=gk) w w':=by
 have h1:=h.pos;have h2:=h.small;have h3:=h.few;have hp:=Nat.mod_lt E h1
 go_enter Tryz.func72,Tryz.ntmps72
 go_wp2;refine region_tail 12 (by kernel_rfl) (by kernel_rfl) ?_;intro W hW
 have h0:Raw z W gr gk room c E:=by rw [hW]; exact h.drew
 have hl0:Bytes W B a n l:=by rw [hW]; exact hl
 have HO:=lj (show Only (fun k=>k=gr∨k=gk) w W by rw [hW]; exact (Only.refl _ _).drew);have he:=h0.end_;have hk:=h0.kept;have HR:=lj h0;have HL:=lj hl0;clear h h0 hl hl0 hW;simp only [List.take_succ_cons,List.take_zero,List.drop_succ_cons,List.drop_zero]
 repeat still_step
 still_call (still_of (place_any E W HR.out h3))
 generalize hP:E % room=p at *;have HP:=lj hP;clear hP
 have hp1:¬ room=p:=by omega
 have hp2:p≤room:=by omega
 repeat still_step
 refine wpStill_nil ?_
 show wpList _ _ _ _ _ _
 have hlb:=HL.out.1;have HLb:=lj hlb;clear hlb
 have hxl:(l.take (min (room - p) n)).length=min (room - p) n:=by simp [HLb.out]
 have hxb:=HL.out.take (Nat.min_le_right (room - p) n);refine wpList_copyb rfl (.tmp 15) (.tmp 16) 41 41 rfl 5 Tryz.underlying41 byte_size (some ⟨gk,p,none⟩) a (room - p) (room - p) n cap rfl rfl gk p c 5 HR.out.body B (l.take (min (room - p) n)) (by rw [hxl]; exact Nat.min_comm _ _) (fun _=>rfl) (by rw [hxl]; exact hxb) (by rw [hxl,HR.out.len]; omega) ?_;intro W1 hW1 hO1;rw [hxl];have H1:=lj hW1;have HO1:=lj hO1;clear hW1 hO1 hxl hxb he hk;generalize hm:min (room - p) n=m at *;have Hm:=lj hm
 have hmn:m≤n:=by omega
 clear hm;have hBW:B≤W.heap.size:=Nat.le_trans hB HO.out.size;have HBW:=lj hBW;clear hBW;have hraw1:Raw z W1 gr gk room (splice c p (l.take m)) E:=HR.out.body_of H1.out HO1.out (by rw [splice_len _ _ _ (by rw [HR.out.len]; have:=Hm.out; simp [HLb.out]; omega),HR.out.len]);have hby1:Bytes W1 B a n l:=HL.out.only HO1.out HBW.out (fun hn q hq=>(ha hn q hq).2);have HR1:=lj hraw1;have HL1:=lj hby1;clear hraw1 hby1;go_wp2;refine region_tail 7 (by kernel_rfl) (by kernel_rfl) ?_;intro W2 hW2
 have h0:Raw z W2 gr gk room (splice c p (l.take m)) E:=by rw [hW2]; exact HR1.out.drew
 have hl0:Bytes W2 B a n l:=by rw [hW2]; exact HL1.out
 have HO2:=lj (show Only (fun k=>k=gk) W1 W2 by rw [hW2]; exact (Only.refl _ _).drew);have hk:=h0.kept;have HR2:=lj h0;have HL2:=lj hl0;clear h0 hl0 hW2;simp only [List.take_succ_cons,List.take_zero,List.drop_succ_cons,List.drop_zero]
 repeat still_step
 refine wpStill_nil ?_
 show wpList _ _ _ _ _ _
 have hxl:(l.drop m).length=n - m:=by simp [HLb.out]
 have hxb:Bytes W2 B (cutA a cap m) (n - m) (l.drop m):=HL2.out.cut hmn hcap;have hcl:(splice c p (l.take m)).length=room:=HR2.out.len;refine wpList_copyb rfl (.tmp 21) (.tmp 24) 41 41 rfl 5 Tryz.underlying41 byte_size (some ⟨gk,0,none⟩) (cutA a cap m) room room (n - m) (cap - m) rfl rfl gk 0 (splice c p (l.take m)) 5 HR2.out.body B (l.drop m) (by rw [hxl]; exact (Nat.min_eq_left (by omega)).symm) (fun _=>rfl) (by rw [hxl]; exact hxb) (by rw [hxl,hcl]; omega) ?_;intro W3 hW3 hO3
 have hput:splice (splice c p (l.take m)) 0 (l.drop m)=put room p c l:=by
  unfold put at2;rw [HLb.out,Hm.out]
 rw [hput] at hW3;have hraw3:Raw z W3 gr gk room (put room p c l) E:=HR2.out.body_of hW3 hO3 (put_len room p c l HR.out.len hp (by rw [HLb.out]; exact hn));have HR3:=lj hraw3;have HO3:=lj hO3;have he:=hraw3.end_;have hf:=hraw3.free0;clear hraw3 hO3 hW3 hput hxl hxb hcl hk;go_wp2
 all_goals
  go_end0
  have hP:=HP.out;subst hP;exact ⟨rfl,HR3.out.end_set (by omega) (by omega),((HO.out.trans (HO1.out.mono fun _ _ h=>.inr h)).trans ((HO2.out.trans HO3.out).mono fun _ _ h=>.inr h)).setCell (.inl rfl) _⟩
theorem append_any {z:Zo} {gr gk room E B:Nat} {c:Bs} (a:Option Addr) (n cap:Nat) (l:Bs) (w:World) (h:Raw z w gr gk room c E) (hl:Bytes w B a n l) (ha:Away n a gr gk) (hcap:n≤cap)
  (hB:B≤w.heap.size) (hE:E+n≤1099511627776) :
  Calls Tryz.prog 45 #[.pointer (some ⟨gr,z.o,none⟩),.slice a n cap] w fun e w'=>e = .returned (.bool true) ∧
   Raw z w' gr gk room (put room ((E+(n - room)) % room) c (l.drop (n - room))) (E+n)∧Only (fun k=>k=gr∨k=gk) w w':=by
 have h1:=h.pos;have h2:=h.small;have h3:=h.few;have he:=h.end_;have hk:=h.kept;have hf:=h.free0;have HR:=lj h;have HL:=lj hl;clear h hl
 have hnil:=fun (w:World) (a:Option Addr) (n c:Nat)=>Lib.run_eql_slice_nil (P:=Tryz.prog) w 41 5 a n c 0 0 Tryz.underlying41
 by_cases hle:n≤room
 ·have h0:n - room=0:=by omega
  rw [h0,Nat.add_zero,List.drop_zero]
  rcases (show (n:Int) - (room:Int)<0∨n=room by omega) with hbig | rfl
  ·clear h0
   go_enter Tryz.func45,Tryz.ntmps45
   go_wp2_with fail
   all_goals
    refine (put_any a n _ l _ (HR.out.end_set rfl h3) (HL.out.only ((Only.refl (fun k=>k=gr) _).setCell rfl _) hB (fun hn q hq=>(ha hn q hq).1)) ha (by omega) hle (by simpa [World.setCell] using hB) hE).mono ?_;rintro e w' ⟨rfl,hr,ho⟩;go_wp2;go_ret;exact ⟨rfl,hr,(((Only.refl (fun k=>k=gr∨k=gk) w).setCell (.inl rfl) _).trans ho)⟩
  ·clear h0
   go_enter Tryz.func45,Tryz.ntmps45
   go_wp2_with fail
   refine (put_any a n _ l _ (HR.out.end_set rfl h3) (HL.out.only ((Only.refl (fun k=>k=gr) _).setCell rfl _) hB (fun hn q hq=>(ha hn q hq).1)) ha (by omega) hle (by simpa [World.setCell] using hB) hE).mono ?_;rintro e w' ⟨rfl,hr,ho⟩;go_wp2;go_ret;exact ⟨rfl,hr,(((Only.refl (fun k=>k=gr∨k=gk) w).setCell (.inl rfl) _).trans ho)⟩
 ·obtain ⟨k0,rfl⟩:∃ k0,n=room+k0:=⟨n - room,by omega⟩
  rw [Nat.add_sub_cancel_left]
  have hk0:0<k0:=by omega
  have hE2:E+k0≤1099511627776:=by omega
  clear hle
  have hcut:Bytes w B (a.map (·.add k0)) room (l.drop k0):=by
   have h:=HL.out.cut (k:=k0) (cap:=cap) (by omega) hcap;rw [Nat.add_sub_cancel] at h;unfold cutA at h
   rwa [if_neg (by omega)] at h
  have haw:Away room (a.map (·.add k0)) gr gk:=by
   intro _ p hp
   rcases a with _ | q
   ·simp at hp
   ·simp at hp
    rw [← hp,add_block];exact ha (by omega) q rfl
  have HC:=lj hcut;clear hcut
  go_enter Tryz.func45,Tryz.ntmps45
  go_wp2_with fail
  refine (put_any _ room _ (l.drop k0) _ (HR.out.end_set (e':=E+k0) (by omega) hE2) (HC.out.only ((Only.refl (fun k=>k=gr) _).setCell rfl _) hB (fun hn q hq=>(haw hn q hq).1)) haw (by omega) (Nat.le_refl _) (by simpa [World.setCell] using hB) (by omega)).mono ?_;rintro e w' ⟨rfl,hr,ho⟩
  have hr2:Raw z w' gr gk room (put room ((E+k0) % room) c (l.drop k0)) (E+(room+k0)):=by
   rw [show E+(room+k0)=E+k0+room by omega]; exact hr
  have HR2:=lj hr2;clear hr hr2;go_wp2;go_ret;exact ⟨rfl,HR2.out,(((Only.refl (fun k=>k=gr∨k=gk) w).setCell (.inl rfl) _).trans ho)⟩
theorem make_bytes (W:World) (l:Int) (r:Nat) (hl:l=r) (hr:r≤1099511627776) :
  (Instr.makeSlice 41 (.int .i64 l) (.int .i64 l)).run Tryz.prog W = .ok (.slice (some ⟨W.heap.size,0,none⟩) r r) (W.alloc (.cells (zb r) 5)):=by
 obtain ⟨i0,hi0,hi1,hi2,hi3⟩:=byte_info;subst hl;have h:=run_make (P:=Tryz.prog) W 41 5 i0 _ Tryz.underlying41 hi0 hi1 .i64 .i64 (r:Int) (r:Int) (by omega) (Int.le_refl _) (by rw [hi3]; omega) (by omega);rw [h,Int.toNat_natCast,hi2,Nat.mul_one]
 have e:(madeCells (Value.int IntKind.u8 0).cells r)=zb r:=by
  apply Array.toList_inj.1
  rw [show (Value.int IntKind.u8 0).cells = #[Value.int IntKind.u8 0] from rfl,toList_madeCells_one];simp [zb,by8]
 rw [e]
theorem new_at (size l:Int) (r:Nat) (hl:l=r) (hr1:0<r) (hr:r≤65536) (hc:(size<1∧l=1)∨(65536<size∧l=65536)∨(1≤size∧size≤65536∧l=size)) (w:World) :
  Calls Tryz.prog 21 #[.int .i64 size] w fun e w'=>e = .returned (.pointer (some ⟨w.heap.size+1,0,none⟩))∧Raw z0 w' (w.heap.size+1) w.heap.size r (List.replicate r 0#8) 0∧Below w.heap.size w w'∧w'.heap.size=w.heap.size+2:=by
 have hmk:=fun W=>make_bytes W l r hl (by omega)
 have H:∀ W:World,W=(w.alloc (.cells (zb r) 5)).alloc (.cells #[.int .i64 0,.slice (some ⟨w.heap.size,0,none⟩) r r] 60) →
   Raw z0 W (w.heap.size+1) w.heap.size r (List.replicate r 0#8) 0∧Below w.heap.size w W∧W.heap.size=w.heap.size+2:=by
  rintro W rfl;refine ⟨⟨by simp,hr1,hr,by omega,by omega,?_,?_⟩,((Below.refl _ _).alloc (Nat.le_refl _) _).alloc (by simp) _,by simp⟩
  ·exact Bo.new _ _ (by simp) _ _
  ·rw [Below.heap_alloc _ _ _ (by simp),heap_alloc_new]
   rfl
 rcases hc with ⟨h1,rfl⟩ | ⟨h1,rfl⟩ | ⟨h1,h2,rfl⟩
 all_goals
  have HM:=lj hl;clear hl
  go_enter Tryz.func21,Tryz.ntmps21
  go_wp2;go_ret;exact ⟨rfl,H _ rfl⟩
def roomOf (size:Int):Nat:=(min (max size 1) 65536).toNat
theorem new_any (size:Int) (w:World) :
  Calls Tryz.prog 21 #[.int .i64 size] w fun e w'=>e = .returned (.pointer (some ⟨w.heap.size+1,0,none⟩))∧Raw z0 w' (w.heap.size+1) w.heap.size (roomOf size) (List.replicate (roomOf size) 0#8) 0∧Below w.heap.size w w'∧w'.heap.size=w.heap.size+2:=by
 unfold roomOf;exact new_at size (min (max size 1) 65536) _ (by omega) (by omega) (by omega) (by omega) w
theorem read_none {z:Zo} {gr gk room E:Nat} {c:Bs} (off:Nat) (n:Int) (w:World) (h:Raw z w gr gk room c E) (hlo:E≤off+room) (hhi:off≤E) (hn:n<1∨off=E) :
  Calls Tryz.prog 115 #[.pointer (some ⟨gr,z.o,none⟩),.int .i64 off,.int .i64 n] w fun e w'=>e = .returned (.tuple #[.slice none 0 0,.bool true])∧∃ m,w'=w.drewN m:=by
 have HR:=lj h;have he:=h.end_;have h3:=h.few;clear h
 have hb:decide ((off:Int)<((E - room:Nat):Int))=false:=by simp; omega
 have hb2:decide ((E:Int)<(off:Int))=false:=by simp; omega
 by_cases hn1:n<(E:Int) - (off:Int)
 ·have hn2:n<1:=by omega
  go_enter Tryz.func115,Tryz.ntmps115
  go_wp2_with fail
  refine (base_any w HR.out).mono ?_;rintro e w' ⟨rfl,m,rfl⟩;go_wp2
  all_goals
   go_ret2
   exact ⟨rfl,m,rfl⟩
 ·have hn2:(E:Int) - (off:Int)<1:=by omega
  go_enter Tryz.func115,Tryz.ntmps115
  go_wp2_with fail
  refine (base_any w HR.out).mono ?_;rintro e w' ⟨rfl,m,rfl⟩;go_wp2
  all_goals
   go_ret2
   exact ⟨rfl,m,rfl⟩
theorem Raw.bytes {z:Zo} {w:World} {gr gk room e:Nat} {c:Bs} (h:Raw z w gr gk room c e) (k:Nat) (hk:k≤room):Bytes w (gk+1) (some ⟨gk,k,none⟩) (room - k) (c.drop k):=by
 refine ⟨by rw [List.length_drop,h.len],fun hn=>⟨gk,k,rfl,by omega,fun i hi=>?_⟩⟩;rw [h.cell _ (by omega),List.getElem?_drop]
theorem Raw.keep {z:Zo} {w w':World} {gr gk room e:Nat} {c:Bs} {S:Nat→Prop} (h:Raw z w gr gk room c e) (hO:Only S w w') (h1:¬ S gr) (h2:¬ S gk):Raw z w' gr gk room c e:=
 ⟨h.len,h.pos,h.small,h.few,h.ne,h.head.keep hO h1,(hO.block gk (block_lt h.body) h2).trans h.body⟩
theorem _root_.Go.Proofs.YtdpagmcickkbmaaGreatDoor.Only.fresh {a b c:World} (h:Only (fun _=>False) a b) (k:Only (fun k=>k=a.heap.size) b c):Only (fun _=>False) a c:=
 ⟨k.os.trans h.os,k.tape.trans h.tape,k.output.trans h.output,Nat.le_trans h.size k.size,fun i hi _=>(k.block i (Nat.lt_of_lt_of_le hi h.size) (by omega)).trans (h.block i hi (fun h=>h))⟩
theorem read_some {z:Zo} {gr gk room E:Nat} {c:Bs} (off count:Nat) (n:Int) (w:World) (h:Raw z w gr gk room c E) (hc:1≤count) (hlo:E≤off+room) (hhi:off+count≤E) (hn:n=count∨(E=off+count∧(count:Int)<n)) :
  Calls Tryz.prog 115 #[.pointer (some ⟨gr,z.o,none⟩),.int .i64 off,.int .i64 n] w fun e w'=>e = .returned (.tuple #[.slice (some ⟨w.heap.size,0,none⟩) count count,.bool true]) ∧
   w'.heap[w.heap.size]?=some (.cells ((readOf room off count c (List.replicate count 0#8)).map by8).toArray 5 (0,0))∧Only (fun _=>False) w w':=by
 have HR:=lj h;have he:=h.end_;have h3:=h.few;have h1:=h.pos;have h2:=h.small;clear h
 have hb:decide ((off:Int)<((E - room:Nat):Int))=false:=by simp; omega
 have hb2:decide ((E:Int)<(off:Int))=false:=by simp; omega
 have hmk:=fun W=>make_bytes W count count rfl (by omega)
 have hmk2:=fun W=>make_bytes W ((off:Int)+(count:Int) - (off:Int)) count (by omega) (by omega)
 have hp:=Nat.mod_lt off h1
 rcases hn with rfl | ⟨rfl,hn⟩
 all_goals
  have HB2:=lj hb2;have HB1:=lj hb
  go_enter Tryz.func115,Tryz.ntmps115
  go_wp2_with fail
  refine (base_any w HR.out).mono ?_;rintro e w' ⟨rfl,m,rfl⟩;go_wp2
 all_goals
  generalize hW0:(w.drewN m).alloc (Obj.cells (zb count) 5)=W0
  have hO0:Only (fun _=>False) w W0:=by rw [← hW0]; exact ((Only.refl _ w).drewN m).alloc _
  have hR0:=HR.out.keep hO0 (fun h=>h) (fun h=>h)
  have hG0:W0.heap[w.heap.size]?=some (.cells ((List.replicate count 0#8).map by8).toArray 5 (0,0)):=by rw [← hW0]; exact heap_alloc_new (w.drewN m) _
  clear hW0;refine region_tail 9 (by kernel_rfl) (by kernel_rfl) ?_;intro W hW;have h0:=hR0.drew;rw [← hW] at h0;have hO:=hO0.drew;rw [← hW] at hO
  have hG:W.heap[w.heap.size]?=some (.cells ((List.replicate count 0#8).map by8).toArray 5 (0,0)):=by rw [hW]; exact hG0
  have he0:=h0.end_;have hk0:=h0.kept;have HR0:=lj h0;have HO:=lj hO;have HG:=lj hG;clear h0 hO hG hO0 hR0 hG0 hW hmk hmk2 he;simp only [List.take_succ_cons,List.take_zero,List.drop_succ_cons,List.drop_zero]
  repeat still_step
  still_call (still_of (place_any off W HR0.out (by omega)))
  generalize hP:off % room=p at *;have HP:=lj hP;clear hP
  have hp1:¬ room=p:=by omega
  have hp2:p≤room:=by omega
  repeat still_step
  refine wpStill_nil ?_
  show wpList _ _ _ _ _ _
  have hxl:((c.drop p).take (min count (room - p))).length=min count (room - p):=by simp [HR0.out.len]
  have hxb:=(HR0.out.bytes p hp2).take (Nat.min_le_right count (room - p));refine wpList_copyb rfl (.tmp 35) (.tmp 43) 41 41 rfl 5 Tryz.underlying41 byte_size (some ⟨w.heap.size,0,none⟩) (some ⟨gk,p,none⟩) count count (room - p) (room - p) rfl rfl w.heap.size 0 (List.replicate count 0#8) 5 HG.out (gk+1) ((c.drop p).take (min count (room - p))) (by rw [hxl]; exact Nat.min_comm _ _) (fun _=>rfl) (by rw [hxl]; exact hxb) (by rw [hxl,List.length_replicate]; omega) ?_;intro W1 hW1 hO1;rw [hxl];have hgr:gr<w.heap.size:=HR.out.head.room;have hgk:gk<w.heap.size:=block_lt HR.out.body;have hraw1:=HR0.out.keep hO1 (by omega) (by omega);have hk1:=hraw1.kept;have HR1:=lj hraw1;have HG1:=lj hW1;have HO1:=lj hO1;clear hraw1 hW1 hO1 hxl hxb he0 hk0;generalize hf:min count (room - p)=f at *;have HF:=lj hf
  have hf1:f≤count:=by omega
  clear hf;go_wp2;refine region_tail 7 (by kernel_rfl) (by kernel_rfl) ?_;intro W2 hW2;have hr2:=HR1.out.drew;rw [← hW2] at hr2
  have hG2:W2.heap[w.heap.size]?=some (.cells ((splice (List.replicate count 0#8) 0 ((c.drop p).take f)).map by8).toArray 5 (0,0)):=by rw [hW2]; exact HG1.out
  have hO2:=HO1.out.drew;rw [← hW2] at hO2;have hk2:=hr2.kept;have HR2:=lj hr2;have HG2:=lj hG2;have HO2:=lj hO2;clear hr2 hG2 hO2 hk1 hW2;simp only [List.take_succ_cons,List.take_zero,List.drop_succ_cons,List.drop_zero]
  repeat still_step
  refine wpStill_nil ?_
  show wpList _ _ _ _ _ _
  have hxl:(c.take (count - f)).length=count - f:=by have:=HF.out; simp [HR0.out.len]; omega
  have hxb:=(HR2.out.bytes 0 (Nat.zero_le _)).take (show count - f≤room - 0 by have:=HF.out; omega);rw [List.drop_zero] at hxb
  have hl2:(splice (List.replicate count 0#8) 0 ((c.drop p).take f)).length=count:=by
   rw [splice_len _ _ _ (by simp; omega),List.length_replicate]
  refine wpList_copyb rfl (.tmp 47) (.tmp 51) 41 41 rfl 5 Tryz.underlying41 byte_size _ (some ⟨gk,0,none⟩) (count - f) (count - f) room room rfl rfl w.heap.size f _ 5 HG2.out (gk+1) (c.take (count - f)) (by rw [hxl]; exact (Nat.min_eq_right (by have:=HF.out; omega)).symm) (by rw [hxl]; intro h; rw [if_neg (by omega)]) (by rw [hxl]; exact hxb) (by rw [hxl,hl2]; omega) ?_;intro W3 hG3 hO3
  have hread:splice (splice (List.replicate count 0#8) 0 ((c.drop p).take f)) f (c.take (count - f))=readOf room off count c (List.replicate count 0#8):=by
   unfold readOf;rw [HP.out,HF.out]
  rw [hread] at hG3;have HG3:=lj hG3;have HO3:=lj hO3;clear hG3 hO3 hread hxl hxb hl2 hk2;go_wp2
 all_goals
  try subst h
  go_ret2
  exact ⟨rfl,HG3.out,(HO.out.fresh HO2.out).fresh HO3.out⟩
end
section
open Go.RowKit
open Fr
theorem clone_any (a:Option Addr) (n cap B:Nat) (l:Bs) (w:World) (hl:Bytes w B a n l) (hB:B≤w.heap.size) (hn:n≤140737488355328) :
    Calls Tryz.prog 60 #[.slice a n cap] w fun e w'=>∃ A c,e = .returned (.slice A n c)∧Own w.heap.size w' A n c l∧Below w.heap.size w w':=by
  have hnil:=fun (w:World) (a:Option Addr) (n c:Nat)=>Lib.run_eql_slice_nil (P:=Tryz.prog) w 41 5 a n c 0 0 Tryz.underlying41
  have HL:=lj hl;clear hl
  rcases a with _ | ad
  · obtain rfl:n=0:=by
      rcases Nat.eq_zero_or_pos n with h | h
      · exact h
      · obtain ⟨_,_,h',_⟩:=HL.out.2 h
        cases h'
    obtain rfl:l=[]:=List.eq_nil_of_length_eq_zero HL.out.1
    go_enter Tryz.func60,Tryz.ntmps60
    go_wp2;go_ret;exact ⟨none,0,rfl,⟨⟨rfl,.inl ⟨rfl,rfl⟩⟩,Nat.le_refl _⟩,Below.refl _ _⟩
  · go_enter Tryz.func60,Tryz.ntmps60
    go_wp2_with (first
      | (at_builtin
         refine wpList_put rfl (.tmp 5) (.tmp 6) rfl w.heap.size (some ⟨w.heap.size,0,none⟩) 0 0 [] rfl (own_new w _ (Nat.le_refl _)) B (some ad) n cap l rfl (HL.out.below ((Below.refl _ _).alloc hB _)) (by omega) (by simp) ?_
         intro A2 c2 w1 hown hbel))
    rw [Nat.zero_add,List.nil_append] at hown;have HO:=lj hown;have HB:=lj hbel;clear hown hbel;go_ret;exact ⟨_,_,rfl,HO.out,Below.trans ((Below.refl _ _).alloc (Nat.le_refl _) _) HB.out⟩
theorem right_yes (k:BitVec 8) (a:Option Addr) (n c:Nat) (w:World) (hn:n≤2048) :
  Calls Tryz.prog 117 #[.agg #[.int .u8 k.toNat,.slice a n c]] w fun e w'=>e = .returned (.bool true)∧Below w.heap.size w w':=by
 go_enter Tryz.func117,Tryz.ntmps117
 go_wp2;go_ret;exact ⟨ret_bool (by simp; omega),(Below.refl _ _).alloc (Nat.le_refl _) _⟩
theorem num_hi (m:Nat) (h:m<65536):((m:Int) / 256)=(BitVec.ofNat 8 (m / 256)).toNat:=by
 rw [BitVec.toNat_ofNat];omega
theorem num_lo (m:Nat):((m:Int) % 256)=(BitVec.ofNat 8 m).toNat:=by
 rw [BitVec.toNat_ofNat];omega
theorem putn_any (base:Nat) (A:Option Addr) (n c:Nat) (l:Bs) (v:Int) (m:Nat) (w:World) (hv:v=m) (hm:m<65536) (hown:Own base w A n c l) (hb:base≤w.heap.size) (hn:n≤1000000000) :
    Calls Tryz.prog 118 #[.slice A n c,.int .u16 v] w fun e w'=>∃ A2 c2,e = .returned (.slice A2 (n+2) c2)∧Own base w' A2 (n+2) c2 (l ++ num m)∧Below base w w':=by
  subst hv;have HO:=lj hown;clear hown
  go_enter Tryz.func118,Tryz.ntmps118
  go_wp2_with (first
    | (at_builtin
       refine wpList_put rfl (.tmp 5) (.tmp 11) rfl base A n c l rfl (HO.out.below ((Below.refl _ _).alloc (Nat.le_refl _) _)) (w.heap.size+1) (some ⟨w.heap.size,0,none⟩) 2 2 (num m) rfl (two_new w _ _ _ _ (num_hi m hm) (num_lo m)) (by omega) (by simp; omega) ?_
       intro A2 c2 w1 hown hbel))
  have HO2:=lj hown;have HB2:=lj hbel;clear hown hbel;go_ret;exact ⟨A2,c2,rfl,HO2.out,Below.trans ((Below.refl _ _).alloc hb _) HB2.out⟩
structure Box (g:Nat) (W w:World) (k:BitVec 8) (a:Option Addr) (n c:Nat):Prop where
 below:Below (g+1) W w
 room:g+1≤w.heap.size
 kind:w.cell? ⟨g,0,none⟩=some (.int .u8 k.toNat)
 body:w.cell? ⟨g,1,none⟩=some (.slice a n c)
theorem Box.new (w:World) (k:BitVec 8) (a:Option Addr) (n c:Nat) (v:Value) (hv:v = .int .u8 k.toNat) :
  Box w.heap.size (w.alloc (.cells #[v,.slice a n c] 96)) (w.alloc (.cells #[v,.slice a n c] 96)) k a n c:=
 ⟨Below.refl _ _,by simp,by rw [cell_of_row _ _ _ _ _ _ (heap_alloc_new _ _),hv]; rfl,by rw [cell_of_row _ _ _ _ _ _ (heap_alloc_new _ _)]; rfl⟩
theorem Box.go {g:Nat} {W w w':World} {k:BitVec 8} {a:Option Addr} {n c:Nat} (h:Box g W w k a n c) (hb:Below (g+1) w w'):Box g W w' k a n c:=
 ⟨Below.trans h.below hb,Nat.le_trans h.room hb.size,(hb.cell (p:=⟨g,0,none⟩) (by simp)).trans h.kind,(hb.cell (p:=⟨g,1,none⟩) (by simp)).trans h.body⟩
theorem put_yes (a:Option Addr) (n cap B:Nat) (l:Bs) (k:BitVec 8) (a2:Option Addr) (m c2:Nat) (body:Bs) (w:World) (hl:Bytes w B a n l) (hl2:Bytes w B a2 m body) (hB:B≤w.heap.size) (hn:n≤1000000) (hm:m≤2048) :
    Calls Tryz.prog 102 #[.slice a n cap,.agg #[.int .u8 k.toNat,.slice a2 m c2]] w fun e w'=>∃ A c,e = .returned (.slice A (n+m+5) c)∧Own w.heap.size w' A (n+m+5) c (l ++ fr k body)∧Below w.heap.size w w':=by
  have HL:=lj hl;have HL2:=lj hl2;clear hl hl2
  have hmk:=fun W=>make_room W ((n:Int)+5+(m:Int)) (n+5+m) (by omega) (by omega)
  go_enter Tryz.func102,Tryz.ntmps102
  go_wp2_with fail
  have hx:=Box.new w k a2 m c2 _ rfl
  have hs:(w.alloc (.cells #[.int .u8 k.toNat,.slice a2 m c2] 96)).heap.size=w.heap.size+1:=by simp
  have hw:Below w.heap.size w (w.alloc (.cells #[.int .u8 k.toNat,.slice a2 m c2] 96)):=(Below.refl _ _).alloc (Nat.le_refl _) _;generalize hW:w.alloc (.cells #[.int .u8 k.toNat,.slice a2 m c2] 96)=W at *;generalize hg:w.heap.size=g at *;have HW:=lj hw;have HS:=lj hs;have HL0:=lj (HL.out.below (hw.mono hB));have HL20:=lj (HL2.out.below (hw.mono hB));have HG:=lj hg;clear hW hg hw hs HL HL2;refine (right_yes k a2 m c2 _ hm).mono ?_;rintro e w1 ⟨rfl,hb1⟩;rw [HS.out] at hb1;have HX1:=lj (hx.go hb1);have hc:=HX1.out.body;clear hx hb1
  go_wp2_with (first
    | (at_builtin
       refine wpList_put rfl (.tmp 20) (.tmp 21) rfl (g+1) _ 0 _ [] rfl (made_new w1 (g+1) HX1.out.room (n+5+m) (by omega)) B a n cap l rfl (HL0.out.below ((HX1.out.below.mono (by omega)).alloc (by have:=HX1.out.room; omega) _)) (by omega) (by have:=HX1.out.room; simp; omega) ?_;intro A3 c3 w3 hown hbel;rw [Nat.zero_add,List.nil_append] at hown;have HO3:=lj hown;have HX3:=lj (HX1.out.go (Below.trans ((Below.refl _ _).alloc HX1.out.room _) hbel));have hc0:=HX3.out.kind;have hc1:=HX3.out.body
       clear hown hbel hc))
  refine (putn_any (g+1) A3 n c3 l _ (m+1) w3 (by omega) (by omega) HO3.out HX3.out.room (by omega)).mono ?_;rintro e w4 ⟨A4,c4,rfl,hown,hbel⟩;have HO4:=lj hown;have HX4:=lj (HX3.out.go hbel);clear hown hbel hc0 hc1;have hc0:=HX4.out.kind;have hc1:=HX4.out.body
  go_wp2_with (first
    | (at_builtin
       (with_reducible refine wpList_put rfl (.tmp 32) (.tmp 35) rfl (g+1) _ _ _ _ rfl (HO4.out.below ((Below.refl _ _).alloc (Nat.le_refl _) _)) _ _ 1 1 [k] rfl (one_new w4 k) (by omega) (by have:=HX4.out.room; simp; omega) ?_)
       intro A5 c5 w5 hown hbel;have HO5:=lj hown;have HX5:=lj (HX4.out.go (Below.trans ((Below.refl _ _).alloc HX4.out.room _) hbel));have hc2:=HX5.out.body
       clear hown hbel hc0 hc1)
    | (at_builtin
       refine wpList_put rfl (.tmp 37) (.tmp 39) rfl (g+1) _ _ _ _ rfl HO5.out _ _ _ _ body rfl (HL20.out.below (HX5.out.below.mono (by omega))) (by omega) HX5.out.room ?_;intro A6 c6 w6 hown hbel;have HO6:=lj hown;have HX6:=lj (HX5.out.go hbel);obtain ⟨g6,rfl,hg6,hgg6⟩:=hown.form (by omega);have hcap:=hown.cap
       have hne:¬ c6=n+2:=by omega
       clear hown hbel hc2))
  have hby:=HO6.out.bytes.cut2 (cap:=c6) (j:=n+2) (by omega) hcap hne;have hl0:l.length=n:=HL0.out.1
  have hdr:(l ++ num (m+1) ++ [k] ++ body).drop (n+2)=k :: body:=by
    rw [List.append_assoc,List.append_assoc,← List.append_assoc l,List.drop_left' (by rw [List.length_append,hl0,num_len])];rfl
  rw [hdr,Nat.zero_add] at hby;have HBy:=lj hby;have HLen:=lj hl0;clear hby hdr hl0
  have hnum:n+2+1+m - (n+2)≤9223372036854775807:=by omega
  refine (of_any _ _ _ w6.heap.size (k :: body) w6 hnum HBy.out).mono ?_;rintro e w7 ⟨rfl,rfl⟩
  go_wp2_with fail
  refine (putn_any (g+1) _ _ c6 _ _ (sum (k :: body)) w6 rfl (sum_lt _) HO6.out HX6.out.room (by omega)).mono ?_;rintro e w7 ⟨A7,c7,rfl,hown,hbel⟩;have HO7:=lj hown;have HX7:=lj (HX6.out.go hbel);clear hown hbel;go_wp2;go_ret;have hg:=HG.out;subst hg;have h7:=HO7.out;have hbl:=HL20.out.1;rw [show n+2+1+m+2=n+m+5 by omega,show l ++ num (m+1) ++ [k] ++ body ++ num (sum (k :: body))=l ++ fr k body by simp [fr,pre,hbl]] at h7;exact ⟨A7,c7,slice_ret rfl (by omega) rfl,h7.mono (by omega),Below.trans HW.out (HX7.out.below.mono (by omega))⟩
end
section
open Go.RowKit
theorem Mid.inlt {base n c:Nat} {w:World} {a:Option Addr} {l:Bs} (h:Mid base w a n c l) {b:Nat} (hb:In a b):base≤b∧b<w.heap.size:=by
 obtain ⟨p,hp,rfl⟩:=hb;exact h.lt hp
end
section
open Go.RowKit
theorem s_cut (l:Bs) (i j:Nat):(str l).extract i j=str ((l.take j).drop i):=by
 unfold str
 apply ByteArray.ext
 rw [ByteArray.data_extract]
 apply Array.toList_inj.1
 simp [List.map_take,List.map_drop,List.drop_take]
end
section
open Go.RowKit
theorem rest_any (a m:Int) (h1:0<m) (h2:m≤1000000):∃ p:Nat,(p:Int)<m∧wrap64 ((IntKind.u64.wrap a).tmod m)=p:=by
 have hw:0≤IntKind.u64.wrap a:=by
  have:=wrap_u64_nonneg a;exact this
 generalize IntKind.u64.wrap a=x at *;rw [Int.tmod_eq_emod_of_nonneg hw];have h3:=Int.emod_nonneg x (show m≠0 by omega);have h4:=Int.emod_lt_of_pos x h1;generalize x % m=y at *;refine ⟨y.toNat,by omega,?_⟩;rw [IntWalk.wrap64_in _ (by omega)];omega
theorem bits_any (a:Int) (m:Nat) (h:m≤1000000):∃ r:Nat,r≤m∧bits .and .i64 a m=r:=by
 have hlt:(BitVec.ofInt 64 a &&& BitVec.ofInt 64 (m:Int)).toNat≤m:=by
  rw [BitVec.toNat_and];refine Nat.le_trans Nat.and_le_right ?_;rw [BitVec.ofInt_natCast,BitVec.toNat_ofNat];exact Nat.mod_le _ _
 refine ⟨_,hlt,?_⟩
 show IntKind.i64.wrap ((BitVec.ofInt 64 a &&& BitVec.ofInt 64 (m:Int)).toNat:Int)=_
 rw [IntKind.wrap_i64];omega
end
section
open Go.RowKit
theorem conv_tob (w:World) (l:Bs):∃ c w',(convert 9 41 (.string (str l))).run Tryz.prog w = .ok (.slice (some ⟨w.heap.size,0,none⟩) l.length c) w'∧Bytes w' (w.heap.size+1) (some ⟨w.heap.size,0,none⟩) l.length l ∧
  Below w.heap.size w w'∧l.length≤c∧w.heap.size+1≤w'.heap.size:=by
 have h:=run_bytes_of_string (P:=Tryz.prog) w 9 41 5 (str l) Tryz.underlying9 Tryz.underlying41 Tryz.underlying5;have hs:=str_size l;have hge:=grownCap_ge w (str l).size 0 5;generalize grownCap w (str l).size 0 5=c at *;rw [hs] at h hge;refine ⟨c,_,h,⟨rfl,fun _=>⟨w.heap.size,0,rfl,by omega,fun i hi=>?_⟩⟩,?_,hge,?_⟩
 ·have hh:=heap_alloc_new w.drew (.cells (bytesRow (str l) c) 5 ((bytesRow (str l) c).size,(bytesRow (str l) c).size+1))
  rw [cell_of_row _ w.heap.size _ _ _ _ hh,Nat.zero_add];unfold bytesRow str;rw [Array.getElem?_append_left (by simpa using hi)];simp [List.getElem?_eq_getElem hi]
 ·have:=(Below.refl w.heap.size w).drew.alloc (Nat.le_refl _) (.cells (bytesRow (str l) c) 5 ((bytesRow (str l) c).size,(bytesRow (str l) c).size+1))
  exact this
 ·simp
theorem conv_tob2 (w:World) (l:Bs) (hm:l.length≤maxLen):∃ c w',(convert 9 41 (.string (str l))).run Tryz.prog w = .ok (.slice (some ⟨w.heap.size,0,none⟩) l.length c) w'∧Bytes w' (w.heap.size+1) (some ⟨w.heap.size,0,none⟩) l.length l ∧
  Below w.heap.size w w'∧l.length≤c∧w.heap.size+1≤w'.heap.size∧c≤maxLen:=by
 have h:=run_bytes_of_string (P:=Tryz.prog) w 9 41 5 (str l) Tryz.underlying9 Tryz.underlying41 Tryz.underlying5;have hs:=str_size l;have hgm:=grownCap_le_maxLen w (str l).size 0 5 (by rw [hs]; exact hm);have hge:=grownCap_ge w (str l).size 0 5;generalize grownCap w (str l).size 0 5=c at *;rw [hs] at h hge;refine ⟨c,_,h,⟨rfl,fun _=>⟨w.heap.size,0,rfl,by omega,fun i hi=>?_⟩⟩,?_,hge,?_,hgm⟩
 ·have hh:=heap_alloc_new w.drew (.cells (bytesRow (str l) c) 5 ((bytesRow (str l) c).size,(bytesRow (str l) c).size+1))
  rw [cell_of_row _ w.heap.size _ _ _ _ hh,Nat.zero_add];unfold bytesRow str;rw [Array.getElem?_append_left (by simpa using hi)];simp [List.getElem?_eq_getElem hi]
 ·have:=(Below.refl w.heap.size w).drew.alloc (Nat.le_refl _) (.cells (bytesRow (str l) c) 5 ((bytesRow (str l) c).size,(bytesRow (str l) c).size+1))
  exact this
 ·simp
end
end Go.Proofs.YtdpagmcickkbmaaGreatDoor
