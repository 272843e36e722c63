/- PWor PBase PTob PBs PFramew PMid PRw PSz PRingw -/
import Derived.Test.YtecjpkjbgknnnaaGreatDoorRows
import Derived.Lib.SliceRun
import Derived.Lib.SlBytesConst
import Derived.BigQuiet
import Derived.StillTailTactics
import Derived.Deep.Upon
import Derived.Test.YtecjpkjbgknnnaaGreatDoorZd01
import Derived.Test.YtecjpkjbgknnnaaGreatDoorZd04
import Derived.Test.YtecjpkjbgknnnaaGreatDoorZd05
namespace Go.Proofs.YtecjpkjbgknnnaaGreatDoor
set_option maxRecDepth 100000
section
open Go.RowKit
theorem below_drewN {B:Nat} {a w:World} (h:Below B a w) (n:Nat):Below B a (w.drewN n):=⟨h.os,h.tape,h.output,h.size,h.block⟩
theorem below_drew {B:Nat} {a w:World} (h:Below B a w):Below B a w.drew:=⟨h.os,h.tape,h.output,h.size,h.block⟩
theorem below_back {w w':World} (h:Below w.heap.size w.drew w'):Below w.heap.size w w':=⟨h.os,h.tape,h.output,h.size,h.block⟩
def In (a:Option Addr) (b:Nat):Prop:=∃ p,a=some p∧p.block=b
theorem Only.frozen {S:Nat→Prop} {a b:World} (h:Only S a b) {p:Addr} (hp:p.block<a.heap.size) (hs:¬ S p.block):b.frozen? p=a.frozen? p:=World.frozen?_of_block (w:=a) (h.block p.block hp hs)
theorem only_of_below {w w':World} (h:Below w.heap.size w w'):Only (fun _=>False) w w':=⟨h.os,h.tape,h.output,h.size,fun k hk _=>h.block k hk⟩
theorem only_setCells (g:Nat):∀ (vs:List Value) (w:World) (o:Nat),Only (fun k=>k=g) w (w.setCells g o vs)
 | [],w,_=>Only.refl _ w
 | v :: r,w,o=>((Only.refl (fun k=>k=g) w).setCell (p:=⟨g,o,none⟩) rfl v).trans (only_setCells g r _ (o+1))
end
section
open Go.RowKit
abbrev Bs:=List (BitVec 8)
theorem byte_info:∃ i,Tryz.prog.info? 5=some i∧i.zero=some (.int .u8 0)∧i.size=1∧i.bytes=1:=info_parts (by kernel_rfl)
structure Own (base:Nat) (w:World) (a:Option Addr) (n c:Nat) (l:Bs):Prop where
 row:w.ownsRow base 5 1 (.slice a n c) n (l.map by8)
 cap:n≤c
theorem Own.bytes {base n c:Nat} {w:World} {a:Option Addr} {l:Bs} (h:Own base w a n c l):Bytes w w.heap.size a n l:=Bytes.of_own h.row
theorem Own.of_row {base n:Nat} {w:World} {v:Value} {l:Bs} (h:w.ownsRow base 5 1 v n (l.map by8)):∃ a c,v = .slice a n c∧Own base w a n c l:=by
 rcases h.2 with ⟨rfl,rfl⟩ | ⟨g,cap,cur,rfl,h2,h3,h4,h5⟩
 ·exact ⟨none,0,rfl,h,Nat.le_refl _⟩
 ·exact ⟨_,cap,rfl,h,h4⟩
theorem own_below {base e n:Nat} {v:Value} {xs:List Value} {w w':World} (h:w.ownsRow base e 1 v n xs) (hb:Below w.heap.size w w'):w'.ownsRow base e 1 v n xs:=by
 refine ⟨h.1,?_⟩
 rcases h.2 with h1 | ⟨g,cap,cur,h1,h2,h3,h4⟩
 ·exact .inl h1
 ·refine .inr ⟨g,cap,cur,h1,h2,?_,h4⟩
  have hlt:g<w.heap.size:=by
   rcases Nat.lt_or_ge g w.heap.size with h' | h'
   ·exact h'
   ·rw [Array.getElem?_eq_none h'] at h3; cases h3
  exact (hb.block g hlt).trans h3
theorem Own.below {base n c:Nat} {w w':World} {a:Option Addr} {l:Bs} (h:Own base w a n c l) (hb:Below w.heap.size w w'):Own base w' a n c l:=⟨own_below h.row hb,h.cap⟩
theorem two_new (w:World) (x y:BitVec 8) (v0 v1:Int) (h0:v0=x.toNat) (h1:v1=y.toNat) :
  Bytes (w.alloc (.cells #[.int .u8 v0,.int .u8 v1] 5)) (w.heap.size+1) (some ⟨w.heap.size,0,none⟩) 2 [x,y]:=by
 subst h0 h1;refine ⟨rfl,fun _=>⟨_,0,rfl,by omega,fun i hi=>?_⟩⟩;rw [cell_of_row _ _ _ _ _ _ (heap_alloc_new _ _)]
 have:i=0∨i=1:=by omega
 rcases this with rfl | rfl <;> rfl
def zb (r:Nat):Array Value:=((List.replicate r 0#8).map by8).toArray
theorem make_room (W:World) (l:Int) (r:Nat) (hl:l=r) (hr:r≤1099511627776) :
  (Instr.makeSlice 35 (.int .i64 0) (.int .i64 l)).run Tryz.prog W = .ok (.slice (some ⟨W.heap.size,0,none⟩) 0 r) (W.alloc (.cells (zb r) 5)):=by
 obtain ⟨i0,hi0,hi1,hi2,hi3⟩:=byte_info;subst hl;have h:=run_make (P:=Tryz.prog) W 35 5 i0 _ Tryz.underlying35 hi0 hi1 .i64 .i64 0 (r:Int) (by omega) (by omega) (by rw [hi3]; omega) (by omega);rw [h,Int.toNat_natCast,hi2,Nat.mul_one]
 have e:(madeCells (Value.int IntKind.u8 0).cells r)=zb r:=by
  apply Array.toList_inj.1
  rw [show (Value.int IntKind.u8 0).cells = #[Value.int IntKind.u8 0] from rfl,toList_madeCells_one];simp [zb,by8]
 rw [e];rfl
theorem made_new (w:World) (base:Nat) (hb:base≤w.heap.size) (r:Nat) (hc:r≤1000000000):Own base (w.alloc (.cells (zb r) 5)) (some ⟨w.heap.size,0,none⟩) 0 r []:=
 ⟨⟨rfl,.inr ⟨w.heap.size,r,zb r,rfl,hb,heap_alloc_new w _,Nat.zero_le _,by unfold maxLen; omega,by simp [zb],rfl⟩⟩,Nat.zero_le _⟩
theorem Bytes.cut2 {w:World} {B n cap j g o:Nat} {l:Bs} (h:Bytes w B (some ⟨g,o,none⟩) n l) (hj:j≤n) (hc:n≤cap) (hne:¬ cap=j):Bytes w B (some ⟨g,o+j,none⟩) (n - j) (l.drop j):=by
 have:=h.cut (cap:=cap) hj hc;unfold cutA at this;rw [if_neg hne] at this
 simpa [add_none] using this
def str (l:Bs):ByteArray:=⟨(l.map fun c=>(⟨c⟩:UInt8)).toArray⟩
theorem conv_str {w:World} {B n cap:Nat} {a:Option Addr} {l:Bs} (h:Bytes w B a n l):(convert 35 9 (.slice a n cap)).run Tryz.prog w = .ok (.string (str l)) w:=by
 rcases a with _ | ad
 ·have hn:n=0:=by
   rcases Nat.eq_zero_or_pos n with h0 | h0
   ·exact h0
   ·obtain ⟨_,_,h',_⟩:=h.2 h0
    cases h'
  subst hn;have hl:l=[]:=List.eq_nil_of_length_eq_zero h.1;subst hl;rw [run_convert_bytes_string w 35 9 5 none 0 cap Tryz.underlying35 Tryz.underlying5 Tryz.underlying9];rfl
 ·have hl:=h.1
  subst hl
  have:=run_convert_bytes_back (P:=Tryz.prog) w 35 9 5 ad cap (l.map fun c=>(⟨c⟩:UInt8)) Tryz.underlying35 Tryz.underlying5 Tryz.underlying9 (by
   intro j hj;rw [List.length_map] at hj;obtain ⟨b,off,e,_,hc⟩:=h.2 (by omega)
   injection e with e
   subst e;rw [add_none,hc j hj]
   simp [List.getElem?_eq_getElem hj])
  rw [List.length_map] at this;exact this
theorem str_ne {l m:Bs} (h:l≠m):((str l).toList == (str m).toList)=false:=by
 simp only [beq_eq_false_iff_ne];intro e;rw [ByteArray.toList_eq,ByteArray.toList_eq] at e
 apply h
 unfold str at e;simp only at e;exact (List.map_inj_right (fun x y e=>by injection e)).1 e
theorem str_app (l m:Bs):str (l ++ m)=str l ++ str m:=by
 unfold str;rw [ByteArray.mk_append_mk,List.map_append]
theorem bytes_drew {w:World} {B n:Nat} {a:Option Addr} {l:Bs} (h:Bytes w B a n l):Bytes w.drew B a n l:=h.keep fun _ _=>rfl
theorem str_size (l:Bs):(str l).size=l.length:=by
 unfold str;simp [ByteArray.size]
end
section
open Go.RowKit
theorem conv_tob (w:World) (l:Bs):∃ c w',(convert 9 35 (.string (str l))).run Tryz.prog w = .ok (.slice (some ⟨w.heap.size,0,none⟩) l.length c) w'∧Bytes w' (w.heap.size+1) (some ⟨w.heap.size,0,none⟩) l.length l ∧
  Below w.heap.size w w'∧l.length≤c∧w.heap.size+1≤w'.heap.size:=by
 have h:=run_bytes_of_string (P:=Tryz.prog) w 9 35 5 (str l) Tryz.underlying9 Tryz.underlying35 Tryz.underlying5;have hs:=str_size l;have hge:=grownCap_ge w (str l).size 0 5;generalize grownCap w (str l).size 0 5=c at *;rw [hs] at h hge;refine ⟨c,_,h,⟨rfl,fun _=>⟨w.heap.size,0,rfl,by omega,fun i hi=>?_⟩⟩,?_,hge,?_⟩
 ·have hh:=heap_alloc_new w.drew (.cells (bytesRow (str l) c) 5 ((bytesRow (str l) c).size,(bytesRow (str l) c).size+1))
  rw [cell_of_row _ w.heap.size _ _ _ _ hh,Nat.zero_add];unfold bytesRow str;rw [Array.getElem?_append_left (by simpa using hi)];simp [List.getElem?_eq_getElem hi]
 ·have:=(Below.refl w.heap.size w).drew.alloc (Nat.le_refl _) (.cells (bytesRow (str l) c) 5 ((bytesRow (str l) c).size,(bytesRow (str l) c).size+1))
  exact this
 ·simp
end
section
open Go.RowKit
def bsOf (s:ByteArray):Bs:=s.data.toList.map fun c=>c.toBitVec
theorem str_bsOf (s:ByteArray):str (bsOf s)=s:=by
 unfold str bsOf;rw [List.map_map]
 show (⟨(List.map id s.data.toList).toArray⟩:ByteArray)=s
 simp
theorem s_cut (l:Bs) (i j:Nat):(str l).extract i j=str ((l.take j).drop i):=by
 unfold str
 apply ByteArray.ext
 rw [ByteArray.data_extract]
 apply Array.toList_inj.1
 simp [List.map_take,List.map_drop,List.drop_take]
end
section
open Go.RowKit
open Fr
structure Box (g:Nat) (W w:World) (k:BitVec 8) (a:Option Addr) (n c:Nat):Prop where
 below:Below (g+1) W w
 room:g+1≤w.heap.size
 kind:w.cell? ⟨g,0,none⟩=some (.int .u8 k.toNat)
 body:w.cell? ⟨g,1,none⟩=some (.slice a n c)
end
section
open Go.RowKit
structure Mid (base:Nat) (w:World) (a:Option Addr) (n c:Nat) (l:Bs):Prop where
 len:l.length=n
 cap:n≤c
 max:c≤maxLen
 lies:(a=none∧c=0)∨∃ g off,a=some ⟨g,off,none⟩∧base≤g∧g<w.heap.size ∧
  (∀ j,j<n→w.cell? ⟨g,off+j,none⟩=some (.int .u8 (l[j]?.getD 0#8).toNat)) ∧
  ∀ j,j<c→(w.cell? ⟨g,off+j,none⟩).isSome=true∧w.frozen? ⟨g,off+j,none⟩=false
end
section
open Go.RowKit
structure Elem (st e:TypeId) (z:Value) (wd:Nat):Prop where
 und:Tryz.prog.underlying st=some (.slice e)
 info:∃ i,Tryz.prog.info? e=some i∧i.zero=some z∧i.size=1∧i.bytes=wd
 zc:z.cells = #[z]
 pos:1≤wd
def Vals (w:World) (B:Nat) (a:Option Addr) (n:Nat) (vs:List Value):Prop:=
 vs.length=n∧(∀ v∈vs,v.oneCell'=true)∧(0<n→∃ b off,a=some ⟨b,off,none⟩∧b<B∧∀ i v,vs[i]?=some v→w.cell? ⟨b,off+i,none⟩=some v)
structure Rw (base:Nat) (w:World) (a:Option Addr) (n c:Nat) (vs:List Value):Prop where
 len:vs.length=n
 cap:n≤c
 max:c≤maxLen
 one:∀ v∈vs,v.oneCell'=true
 lies:(a=none∧c=0)∨∃ g off,a=some ⟨g,off,none⟩∧base≤g∧g<w.heap.size ∧
  (∀ j v,vs[j]?=some v→w.cell? ⟨g,off+j,none⟩=some v) ∧
  ∀ j,j<c→(w.cell? ⟨g,off+j,none⟩).isSome=true∧w.frozen? ⟨g,off+j,none⟩=false
section
variable {base B n c m k:Nat} {w w':World} {a:Option Addr} {vs:List Value}
theorem Vals.keep (h:Vals w B a n vs) (hk:∀ p:Addr,p.block<B→w'.cell? p=w.cell? p):Vals w' B a n vs:=
 ⟨h.1,h.2.1,fun hn=>by
  obtain ⟨b,off,e,hlt,hc⟩:=h.2.2 hn
  exact ⟨b,off,e,hlt,fun i v hi=>(hk ⟨b,off+i,none⟩ hlt).trans (hc i v hi)⟩⟩
theorem Vals.below (h:Vals w B a n vs) (hb:Below B w w'):Vals w' B a n vs:=h.keep fun _ hp=>hb.cell hp
theorem Vals.more (h:Vals w B a n vs) (hB:B≤k):Vals w k a n vs:=
 ⟨h.1,h.2.1,fun hn=>by
  obtain ⟨b,off,e,hlt,hc⟩:=h.2.2 hn
  exact ⟨b,off,e,by omega,hc⟩⟩
theorem Rw.lt (h:Rw base w a n c vs) {p:Addr} (hp:a=some p):base≤p.block∧p.block<w.heap.size:=by
 rcases h.lies with ⟨e,_⟩ | ⟨g,off,e,h1,h2,_⟩
 ·rw [e] at hp; cases hp
 ·rw [e] at hp; injection hp with hp; subst hp; exact ⟨h1,h2⟩
theorem Rw.inlt (h:Rw base w a n c vs) {b:Nat} (hb:In a b):base≤b∧b<w.heap.size:=by
 obtain ⟨p,hp,rfl⟩:=hb;exact h.lt hp
theorem Rw.vals (h:Rw base w a n c vs):Vals w w.heap.size a n vs:=by
 refine ⟨h.len,h.one,fun hn=>?_⟩
 rcases h.lies with ⟨_,hc⟩ | ⟨g,off,e,h1,h2,h3,_⟩
 ·have:=h.cap; omega
 ·exact ⟨g,off,e,h2,h3⟩
theorem Rw.only {S:Nat→Prop} (h:Rw base w a n c vs) (hO:Only S w w') (hS:∀ b,In a b→¬ S b):Rw base w' a n c vs:=by
 refine ⟨h.len,h.cap,h.max,h.one,?_⟩
 rcases h.lies with h0 | ⟨g,off,e,h1,h2,h3,h4⟩
 ·exact .inl h0
 ·have hg:=hS g ⟨_,e,rfl⟩
  refine .inr ⟨g,off,e,h1,Nat.lt_of_lt_of_le h2 hO.size,fun j v hj=>?_,fun j hj=>?_⟩
  ·rw [hO.cell (p:=⟨g,off+j,none⟩) h2 hg]; exact h3 j v hj
  ·rw [hO.cell (p:=⟨g,off+j,none⟩) h2 hg,hO.frozen (p:=⟨g,off+j,none⟩) h2 hg]; exact h4 j hj
theorem Rw.below (h:Rw base w a n c vs) (hb:Below w.heap.size w w'):Rw base w' a n c vs:=h.only (only_of_below hb) fun _ _ h=>h
theorem Rw.nil (base:Nat) (w:World):Rw base w none 0 0 []:=⟨rfl,Nat.le_refl _,by unfold maxLen; omega,by simp,.inl ⟨rfl,rfl⟩⟩
theorem Vals.lit (w:World) (vs:List Value) (t:TypeId) (h1:∀ v∈vs,v.oneCell'=true) (fr:Nat×Nat) (C:Array Value) (hC:C=vs.toArray):Vals (w.alloc (.cells C t fr)) (w.heap.size+1) (some ⟨w.heap.size,0,none⟩) vs.length vs:=by
 subst hC;have hh:=heap_alloc_new w (.cells vs.toArray t fr);refine ⟨rfl,h1,fun _=>⟨_,0,rfl,by omega,fun j v hj=>?_⟩⟩
 rw [cell_of_row _ _ _ _ _ _ hh,Nat.zero_add]; simpa using hj
end
theorem src_vals {st e:TypeId} {z:Value} {wd:Nat} (he:Elem st e z wd) {w:World} {B:Nat} {A:Option Addr} {m c:Nat} {vs:List Value} (hr:Vals w B A m vs):Src Tryz.prog 1 st (.slice A m c) m vs w:=by
 rcases A with _ | ad
 ·have hm:m=0:=by
   rcases Nat.eq_zero_or_pos m with h | h
   ·exact h
   ·obtain ⟨_,_,h',_⟩:=hr.2.2 h
    cases h'
  subst hm;have hl:vs=[]:=List.eq_nil_of_length_eq_zero hr.1;subst hl;exact Src.ofNil w he.und c
 ·refine Src.ofSlice w he.und ad m c vs (by simp [hr.1]) ?_ hr.2.1
  intro j u hu
  have hj:j<vs.length:=by
   rcases Nat.lt_or_ge j vs.length with h | h
   ·exact h
   ·rw [List.getElem?_eq_none h] at hu; cases hu
  obtain ⟨b,off,h,_,hc⟩:=hr.2.2 (by have:=hr.1; omega)
  injection h with h
  subst h;rw [add_none];exact hc j u hu
theorem run_rw {st e:TypeId} {z:Value} {wd:Nat} (he:Elem st e z wd) (ty:TypeId) (base:Nat) {w:World} {a:Option Addr} {n c:Nat} {k:List Value} (h:Rw base w a n c k) {B:Nat} {A:Option Addr} {m c2:Nat} {l:List Value} (hr:Vals w B A m l)
    (hroom:(n+m) * wd≤140737488355328) (hbase:base≤w.heap.size) :
    ∃ A2 c3 w',(Builtin.append_ #[st,st] ty #[.slice a n c,.slice A m c2]).run Tryz.prog w = .ok (.slice A2 (n+m) c3) w'∧Rw base w' A2 (n+m) c3 (k ++ l)∧Only (In a) w w' ∧
      ∀ b,In A2 b→In a b∨w.heap.size≤b:=by
  obtain ⟨i0,hi0,hi1,hi2,hi3⟩:=he.info;have hs:=src_vals he (c:=c2) hr
  have hs':Src Tryz.prog i0.size st (.slice A m c2) m l w:=by rw [hi2]; exact hs
  have hkl:=h.len;have hlm:=hr.1;have hcap:=h.cap;have hmax:=h.max;have hwd:=he.pos
  have hone:∀ v∈k ++ l,v.oneCell'=true:=by
    intro v hv
    rcases List.mem_append.1 hv with hv | hv
    · exact h.one v hv
    · exact hr.2.1 v hv
  have hle2:n+m≤140737488355328:=Nat.le_trans (Nat.le_mul_of_pos_right _ hwd) hroom
  by_cases hfit:n+m≤c
  · rcases h.lies with ⟨rfl,rfl⟩ | ⟨g,off,rfl,h1,h2,h3,h4⟩
    · obtain rfl:n=0:=by omega
      obtain rfl:m=0:=by omega
      obtain rfl:l=[]:=List.eq_nil_of_length_eq_zero hlm;refine ⟨none,0,w,run_append_nothing w st st ty e i0 he.und hi0 none 0 0 (Nat.le_refl _) _ hs',by simpa using h,Only.refl _ w,fun b hb=>.inl hb⟩
    · have hc:=fun j (hj:j<l.length)=>h4 (n+j) (by omega)
      have hrun:=run_append_room_src (P:=Tryz.prog) w st st ty e i0 he.und hi0 g off n c _ m _ hs' hfit
        (fun j hj=>by rw [hi2,Nat.mul_one,Nat.add_assoc]; exact (hc j hj).1) (fun j hj=>by rw [hi2,Nat.mul_one,Nat.add_assoc]; exact (hc j hj).2)
      rw [hi2,Nat.mul_one] at hrun;have hO:=only_setCells g l w (off+n);refine ⟨_,_,_,hrun,⟨by simp [hkl,hlm],hfit,hmax,hone,.inr ⟨g,off,rfl,h1,Nat.lt_of_lt_of_le h2 hO.size,fun j v hj=>?_,fun j hj=>?_⟩⟩,hO.mono (fun k _ hk=>⟨_,rfl,hk.symm⟩),fun b hb=>.inl hb⟩
      · by_cases hjn:j<n
        · rw [World.cell?_setCells_out g _ _ w ⟨g,off+j,none⟩ (fun _ _=>.inl (by show off+j<off+n; omega))]
          rw [List.getElem?_append_left (by omega)] at hj;exact h3 j v hj
        · obtain ⟨i,rfl⟩:∃ i,j=n+i:=⟨j - n,by omega⟩
          have hi:i<l.length:=by
            rcases Nat.lt_or_ge i l.length with h' | h'
            · exact h'
            · rw [List.getElem?_eq_none (by simp; omega)] at hj; cases hj
          rw [← Nat.add_assoc,World.cell?_setCells_in g _ _ w (fun j hj=>by rw [Nat.add_assoc]; exact (hc j hj).1) i hi];rw [List.getElem?_append_right (by omega),hkl,Nat.add_sub_cancel_left,List.getElem?_eq_getElem hi] at hj;exact hj
      · rw [World.frozen?_setCells]
        refine ⟨?_,(h4 j hj).2⟩
        by_cases hjn:j<n∨n+m≤j
        · rw [World.cell?_setCells_out g _ _ w ⟨g,off+j,none⟩ (fun _ _=>by
            rcases hjn with h' | h'
            · left; show off+j<off+n; omega
            · right; show off+n+l.length≤off+j; omega)]
          exact (h4 j hj).1
        · obtain ⟨i,rfl⟩:∃ i,j=n+i:=⟨j - n,by omega⟩
          have hi:i<l.length:=by omega
          rw [← Nat.add_assoc,World.cell?_setCells_in g _ _ w (fun j hj=>by rw [Nat.add_assoc]; exact (hc j hj).1) i hi];rfl
  · have hold:(Builtin.firstCells i0.size n (.slice a n c)).run Tryz.prog w.drew = .ok k.toArray w.drew:=by
      rw [hi2];exact (src_vals he (c:=c) h.vals).cellsD
    have hrun:=run_append_grow_src (P:=Tryz.prog) w st st ty e i0 _ he.und hi0 hi1 a n c k hold _ m _ hs' (by omega) (by omega) (growslice_fits (by omega) (by rw [hi3]; exact hroom));have hge:=grownCap_ge w (n+m) c e;have hle:=grownCap_le_maxLen w (n+m) c e (by unfold maxLen; omega);refine ⟨_,_,_,hrun,?_,?_,fun b hb=>.inr (by obtain ⟨p,hp,rfl⟩:=hb; injection hp with hp; subst hp; exact Nat.le_refl _)⟩
    · have hh:=heap_alloc_new w.drew (.cells ((k ++ l).toArray ++ Builtin.zeroCells z.cells (grownCap w (n+m) c e - (n+m))) e)
      have hsz:((k ++ l).toArray ++ Builtin.zeroCells z.cells (grownCap w (n+m) c e - (n+m))).size=grownCap w (n+m) c e:=by
        simp only [Array.size_append,List.size_toArray,size_zeroCells,List.length_append,hkl,hlm];simp [he.zc];omega
      refine ⟨by simp [hkl,hlm],hge,hle,hone,.inr ⟨_,0,rfl,hbase,by simp,fun j v hj=>?_,fun j hj=>?_⟩⟩
      · have hjl:j<(k ++ l).length:=by
          rcases Nat.lt_or_ge j (k ++ l).length with h' | h'
          · exact h'
          · rw [List.getElem?_eq_none h'] at hj; cases hj
        show World.cell? _ ⟨w.drew.heap.size,0+j,none⟩=_
        rw [cell_of_row _ _ _ _ _ _ hh,Nat.zero_add,Array.getElem?_append_left (by simpa using hjl)]
        simpa using hj
      · show (World.cell? _ ⟨w.drew.heap.size,0+j,none⟩).isSome=true∧World.frozen? _ ⟨w.drew.heap.size,0+j,none⟩=false
        rw [cell_of_row _ _ _ _ _ _ hh,frozen_of_row _ _ _ _ _ hh,Nat.zero_add];exact ⟨by rw [Array.getElem?_eq_getElem (by rw [hsz]; exact hj)]; rfl,rfl⟩
    · exact ⟨rfl,rfl,rfl,by simp,fun i hi _=>heap_alloc_old w.drew _ hi⟩
theorem wpList_rw {st e:TypeId} {z:Value} {wd:Nat} (he:Elem st e z wd) {w:World} {ops:Array Oper} {rest:List Oper} {o:Oper} {act:Act} {Q:Exit→Act→World→Prop} (hgd:o.guard=none) (s x:Operand)
  (ho:o.op = .call { callee:=.builtin .append,args:=#[s,x],argTypes:=#[st,st] })
  (base:Nat) {a:Option Addr} {n c:Nat} {k:List Value} (hs:act.eval s = .slice a n c) (hm:Rw base w a n c k)
  {B:Nat} {A:Option Addr} {m c2:Nat} {l:List Value} (hx:act.eval x = .slice A m c2) (hr:Vals w B A m l)
  (hroom:(n+m) * wd≤140737488355328) (hbase:base≤w.heap.size)
  (h:∀ A2 c3 w',Rw base w' A2 (n+m) c3 (k ++ l)→Only (In a) w w'→(∀ b,In A2 b→In a b∨w.heap.size≤b)→wpList Tryz.prog ops Q rest (act.put o.dst (.slice A2 (n+m) c3)) w') :
  wpList Tryz.prog ops Q (o :: rest) act w:=by
 obtain ⟨A2,c3,w',hrun,h1,h2,h3⟩:=run_rw he o.type base hm (c2:=c2) hr hroom hbase
 refine wpList_plain hgd fun K hK=>?_
 unfold Oper.wp execOp;simp only [ho,resolve,invoke,builtin,Sem.run_bind,Sem.run_pure,Result.andThen_ok,List.map_toArray,List.map_cons,List.map_nil,hs,hx,hrun];exact hK _ _ (h A2 c3 w' h1 h2 h3)
def ints (l:List Int):List Value:=l.map (Value.int .i64)
end
section
open Go.RowKit
theorem i64_bounds {n:Int} (h:(Lit.int .i64 n).wf=true) : -9223372036854775808≤n∧n≤9223372036854775807:=by
 simp [Lit.wf,IntKind.min,IntKind.max,IntKind.bits,IntKind.signed] at h;omega
end
section
open Go.RowKit
open Rg
structure Raw (z:Zo) (w:World) (gr gk room:Nat) (c:Bs) (e:Nat):Prop where
 len:c.length=room
 pos:0<room
 small:room≤65536
 few:e≤1099511627776
 ne:gr≠gk
 head:Bo z gr w #[.int .i64 e,.slice (some ⟨gk,0,none⟩) room room]
 body:w.heap[gk]?=some (.cells (c.map by8).toArray 5 (0,0))
end
end Go.Proofs.YtecjpkjbgknnnaaGreatDoor
