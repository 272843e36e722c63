/- PLxp PLxs PLxi PYg -/
import Derived.Deep.DeepCutAuto
import Derived.Test.YtecjpkjbgknnnaaGreatDoorZd07
namespace Go.Proofs.YtecjpkjbgknnnaaGreatDoor
set_option maxRecDepth 100000
open Go.Lib renaming hid → lj
section
open Go.RowKit
open Lx
def sv (b:Bs):Value:=.string (str b)
def strs (ss:List Bs):List Value:=ss.map sv
theorem strs_one (ss:List Bs):∀ v∈strs ss,v.oneCell'=true:=by
 intro v hv;simp only [strs,List.mem_map] at hv;obtain ⟨b,_,rfl⟩:=hv;rfl
theorem strs_app (a b:List Bs):strs (a ++ b)=strs a ++ strs b:=by simp [strs]
theorem strs_len (a:List Bs):(strs a).length=a.length:=by simp [strs]
theorem strs_get (ss:List Bs) (j:Nat) (h:j<ss.length):(strs ss)[j]?=some (sv (ss.getD j [])):=by
 simp [strs,List.getElem?_eq_getElem h,List.getD_eq_getElem?_getD]
theorem elem_str:Elem 31 9 (.string (str [])) 16:=⟨Tryz.underlying31,by
 obtain ⟨i,h1,h2,h3,h4⟩:=(info_parts (by kernel_rfl):∃ i,Tryz.prog.info? 9=some i∧i.zero=some (.string ⟨#[]⟩)∧i.size=1∧i.bytes=16)
 exact ⟨i,h1,h2,h3,h4⟩,rfl,by omega⟩
structure KO (base:Nat) (w:World) (ka:Option Addr) (kn kc:Nat) (K:Bs) (ra:Option Addr) (rn rc:Nat) (C:List Bs):Prop where
 keys:Mid base w ka kn kc K
 cmds:Rw base w ra rn rc (strs C)
 apart:∀ b,In ka b→¬ In ra b
structure PI (base:Nat) (w0 w:World) (l:Bs) (i:Nat) (ka:Option Addr) (kn kc:Nat) (ra:Option Addr) (rn rc:Nat):Prop where
 ko:KO base w ka kn kc (K l i) ra rn rc (C l i)
 bel:Below base w0 w
 room:base≤w.heap.size
 kle:kn≤i
 rle:rn≤i
theorem lits (w:World) (x:Bs) (v:Value) (hv:v=sv x):Vals (w.alloc (.cells #[v] 9)) (w.heap.size+1) (some ⟨w.heap.size,0,none⟩) 1 [sv x]:=by
 subst hv;exact Vals.lit w [sv x] 9 (strs_one [x]) (0,0) _ rfl
theorem below_lit (w:World) (o:Obj):Below w.heap.size w (w.alloc o):=(Below.refl _ _).alloc (Nat.le_refl _) o
end
section
open Go.RowKit
open Lx
theorem Vals.at {w:World} {B n:Nat} {a:Option Addr} {A:List Bs} (h:Vals w B a n (strs A)) (hn:0<n):∃ b off,a=some ⟨b,off,none⟩∧b<B∧∀ r,r<n→w.cell? ⟨b,off+r,none⟩=some (.string (str (A.getD r []))):=by
 obtain ⟨b,off,e,hb,hc⟩:=h.2.2 hn;exact ⟨b,off,e,hb,fun r hr=>hc r _ (strs_get A r (by have:=h.1; rw [strs_len] at this; omega))⟩
end
section
open Go.RowKit
open Lx
def LV (q:Nat) (a:Option Addr) (n c:Nat):Array Value:=#[.int .i64 q,.slice a n c]
def Wf (s:Lx):Prop:=s.q≤2∧(s.q≠2→s.b=[])
def LexIs (F:Nat→Prop) (g:Nat) (w:World) (s:Lx):Prop:=
 ∃ a n c,Bx g w (LV s.q a n c)∧Mid 0 w a n c (s.b.take 81)∧¬ In a g∧(∀ b,F b↔b=g∨In a b)∧Wf s
structure LxJ (F:Nat→Prop) (g:Nat) (w0 w:World) (s:Lx) (a:Option Addr) (n c:Nat) (ka:Option Addr) (kn kc:Nat) (K:Bs) (ra:Option Addr) (rn rc:Nat) (C:List Bs):Prop where
 bx:Bx g w (LV s.q a n c)
 line:Mid 0 w a n c (s.b.take 81)
 ga:¬ In a g
 gF:F g
 flt:∀ b,F b→b<w0.heap.size
 fr:∀ b,In a b→F b∨w0.heap.size≤b
 ko:KO w0.heap.size w ka kn kc K ra rn rc C
 ak:∀ b,In a b→¬ In ka b
 ar:∀ b,In a b→¬ In ra b
 only:Only F w0 w
end
section
open Go.RowKit
theorem bnew_no (a b c d e f g h:Int) (hr:rt a b c d e f g h=false) (w:World):Calls Tryz.prog 29 #[.agg (cv a b c d e f g h)] w fun r w'=>r = .returned (.pointer none)∧Below w.heap.size w w':=by
 have HC:=lj (fun W=>cright_any a b c d e f g h W);rw [hr] at HC;have HB:=lj (show Below w.heap.size w (w.alloc (.cells (cv a b c d e f g h) 38)) from (Below.refl _ _).alloc (Nat.le_refl _) _);unfold cv at *;clear hr
 go_enter Tryz.func29,Tryz.ntmps29
 go_wp2_with fail
 refine (HC.out _).mono ?_;rintro r w1 ⟨rfl,hb1⟩;have HB1:=lj (HB.out.trans (hb1.mono HB.out.size));clear hb1 HB HC;go_wp2;go_ret;exact ⟨rfl,HB1.out⟩
theorem pevents_no (a b c d e f g h:Int) (hr:rt a b c d e f g h=false) (A:Option Addr) (n cap:Nat) (w:World):Calls Tryz.prog 21 #[.agg (cv a b c d e f g h),.slice A n cap] w fun r w'=>r = .returned (.tuple #[.pointer none,.slice none 0 0])∧Below w.heap.size w w':=by
 have hxm:=Bx.new w _ rfl (cv a b c d e f g h) 38;have hba:Below w.heap.size w (w.alloc (.cells (cv a b c d e f g h) 38)):=(Below.refl _ _).alloc (Nat.le_refl _) _;have HNew:=lj (bnew_no a b c d e f g h hr (w.alloc (.cells (cv a b c d e f g h) 38)));unfold cv at hxm hba HNew ⊢;clear hr
 go_enter Tryz.func21,Tryz.ntmps21
 go_upto_region 1 with fail
 generalize w.alloc _=w1 at *;have z0:=hxm.cell 0 _ rfl;have z1:=hxm.cell 1 _ rfl;have z2:=hxm.cell 2 _ rfl;have z3:=hxm.cell 3 _ rfl;have z4:=hxm.cell 4 _ rfl;have z5:=hxm.cell 5 _ rfl;have z6:=hxm.cell 6 _ rfl;have z7:=hxm.cell 7 _ rfl;have HBa:=lj hba;clear hxm hba
 go_wp2_with fail
 refine HNew.out.mono ?_;rintro r w2 ⟨rfl,hb2⟩;have HB2:=lj (HBa.out.trans (hb2.mono HBa.out.size));clear hb2 HNew HBa z0 z1 z2 z3 z4 z5 z6 z7;go_wp2;exact bodyPost_ret (v:=.tuple #[.pointer none,.slice none 0 0]) (by simp [results,Tryz.results21,go_sem]) rfl ⟨rfl,HB2.out⟩
end
end Go.Proofs.YtecjpkjbgknnnaaGreatDoor
