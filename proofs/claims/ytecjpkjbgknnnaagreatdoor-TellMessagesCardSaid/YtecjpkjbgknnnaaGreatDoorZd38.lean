/- PTe PTh PSv PSe PEa PEn PTk PUs PCo PCt PNw PLi PKe PJo PRe PLb -/
import Derived.Test.YtecjpkjbgknnnaaGreatDoorZd14
import Derived.Test.YtecjpkjbgknnnaaGreatDoorZd21
import Derived.Test.YtecjpkjbgknnnaaGreatDoorZd24
import Derived.Test.YtecjpkjbgknnnaaGreatDoorZd37
namespace Go.Proofs.YtecjpkjbgknnnaaGreatDoor
set_option maxRecDepth 100000
section
open Go.RowKit Go.Shelf
open Fr Bk
attribute [local go_sem] Oper.semAt_some
structure TJ (f:Br→Nat→Br) (F:Fp) (g:Nat) (rs:List (Int×Int)) (w:World) (b:Br) (m:M) (B N j:Nat) (W:World):Prop where
 is:∃ F',BrIs F' g rs W (goes f b (ids.take j))∧(∀ x,Own1 F' x→Own1 F x∨N≤x)
 only:Only (Own1 F) w W
 bb:Bx w.heap.size W #[.pointer (some (at0 g))]
 bm:Bx (w.heap.size+1) W #[.int .i64 m.k,.int .i64 m.a,.int .i64 m.b,.string (str m.t)]
 bu:Bx (w.heap.size+2) W #[.pointer (some (at0 g))]
 nB:B≤N
 nS:N≤W.heap.size
end
section
open Go.RowKit Go.Shelf
open Fr Bk
structure Acc (F:Fp) (g:Nat) (rs:List (Int×Int)) (w:World) (W:World) (b:Br):Prop where
 is:∃ F',BrIs F' g rs W b∧(∀ x,Own1 F' x→Own1 F x∨w.heap.size≤x)
 only:Only (Own1 F) w W
 fok:FOk 16 b.fl
 rin:RIn b.fl
end
section
open Go.RowKit Go.Shelf
open Fr Bk
end
section
open Go.RowKit Go.Shelf
open Fr Bk
attribute [local go_sem] Oper.semAt_some
structure UJ (cur:Nat→Br) (F1:Fp) (g:Nat) (w2:World) (X:World→Prop) (B N j:Nat) (W:World):Prop where
 is:∃ F' rs,BrIs F' g rs W (cur j)∧(∀ x,Own1 F' x→Own1 F1 x∨N≤x)
 only:Only (Own1 F1) w2 W
 ex:X W
 nB:B≤N
 nS:N≤W.heap.size
end
section
open Go.RowKit Go.Shelf
open Fr Bk
end
section
open Go.RowKit Go.Shelf
open Fr Bk
end
section
open Go.RowKit Go.Shelf
open Fr Bk
attribute [local go_sem] Oper.semAt_some
end
section
open Go.RowKit Go.Shelf
open Fr Bk
attribute [local go_sem] Oper.semAt_some
structure SJ (F:Fp) (g:Nat) (rs:List (Int×Int)) (w:World) (b:Br) (n:Int) (B N j:Nat) (W:World):Prop where
 is:BrIs F g rs W b
 only:Only Nay w W
 bn:Bx w.heap.size W #[.int .i64 n]
 br:Bx (w.heap.size+1) W #[.pointer none]
 bu:Bx (w.heap.size+2) W #[.pointer (some (at0 g))]
 no:∀ i,i<j→opn b (i+1)=true→((i:Int)+1)≠n
 nB:B≤N
structure SX (F:Fp) (g:Nat) (rs:List (Int×Int)) (w:World) (b:Br) (n:Int) (W:World):Prop where
 only:Only Nay w W
 got:∃ (k:Nat) (gc:Nat),(k:Int)=n∧1≤k∧k≤16∧opn b k=true∧rrole rs k=(gc:Int)+1∧Bx (w.heap.size+1) W #[.pointer (some (at0 gc))]
end
section
open Go.RowKit Go.Shelf
open Fr Bk
attribute [local go_sem] Oper.semAt_some
def isSome (b:Br) (k:Nat):Bool:=(b.cs k).isSome
def connsTo (b:Br) (j:Nat):List Int:=((ids.take j).filter (isSome b)).map fun (k:Nat)=>((k:Nat):Int)
structure CJ (F:Fp) (g:Nat) (rs:List (Int×Int)) (w:World) (b:Br) (B N j:Nat) (W:World):Prop where
 is:BrIs F g rs W b
 only:Only Nay w W
 bu:Bx (w.heap.size+1) W #[.pointer (some (at0 g))]
 row:∃ a n c,Bx w.heap.size W #[.slice a n c]∧Rw B W a n c (ints (connsTo b j))∧∀ x,In a x→N≤x
 nB:B≤N
 nS:N≤W.heap.size
end
section
open Go.RowKit Go.Shelf Go.Maps
open Fr Bk
structure NewJ (w0 W:World) (size:Nat) (f:Option Nat) (l:Option ((Nat→Prop)×Nat)) (q:Option Nat):Prop where
 only:Only Nay w0 W
 fed:∀ x,f=some x→Fed 0 W x none 0 0 [] 0∧w0.heap.size≤x∧x<W.heap.size
 lex:∀ x,l=some x→LexIs x.1 x.2 W Lx.lx0∧∀ y,x.1 y→w0.heap.size≤y
 que:∀ x,q=some x→Que z0 [] 0 W x size none 0 0 []∧w0.heap.size≤x∧x<W.heap.size
 fl:∀ x y,f=some x→l=some y→¬ y.1 x
 fq:∀ x y,f=some x→q=some y→x≠y
 lq:∀ x y,l=some x→q=some y→¬ x.1 y
end
section
open Go.RowKit Go.Shelf Go.Maps
open Fr Bk
structure NT where
 g:Nat
 om:Option Nat
 a:Option Addr
 n:Nat
 c:Nat
 G:Nat→Prop
structure NI where
 g:Nat
 a:Option Addr
 c:Nat
 G:Nat→Prop
structure NewB (w0 W:World) (cf:Cf) (r:Option (Nat×Nat)) (s:Option (Nat×Nat×Nat)) (t:Option NT) (i:Option NI):Prop where
 only:Only Nay w0 W
 ring:∀ x,r=some x→Raw z0 W x.1 x.2 cf.log (List.replicate cf.log 0#8) 0∧w0.heap.size≤x.2
 spot:∀ x,s=some x→RepC x.2.1 x.2.2 0 0∧Bo z0 x.1 W (SV x.2.1 x.2.2 ⟨cf.width,0,0,0⟩)
 tab:∀ x,t=some x→TaAt z0 x.G x.g x.om x.a x.n x.c W (ofFl (fnew cf.lease))∧∀ b,x.G b→w0.heap.size≤b
 inp:∀ x,i=some x→Que z0 (IR 0 false) 0 W x.g cf.input x.a 0 x.c []∧(∀ b,In x.a b→x.G b)∧∀ b,x.G b→w0.heap.size≤b∧b<W.heap.size
 rt:∀ x y,r=some x→t=some y→¬ y.G x.2
 ri:∀ x y,r=some x→i=some y→¬ y.G x.2
 ti:∀ x y,t=some x→i=some y→∀ b,x.G b→¬ y.G b
structure CfOk (cf:Cf):Prop where
 log:1≤cf.log∧cf.log≤65536
 data:1≤cf.data∧cf.data≤2042
 queue:220≤cf.queue∧cf.queue≤65536
 input:1≤cf.input∧cf.input≤65536
 strikes:cf.strikes≤9
 lease:1≤cf.lease∧cf.lease≤1000
 idle:cf.idle≤1000
 width:1≤cf.width∧cf.width≤500
end
section
open Go.RowKit Go.Shelf
open Fr Bk
attribute [local go_sem] Oper.semAt_some
structure VJ (cur:Nat→Br) (F1:Fp) (g:Nat) (rs:List (Int×Int)) (w2:World) (X:World→Prop) (B N j:Nat) (W:World):Prop where
 is:∃ F',BrIs F' g rs W (cur j)∧(∀ x,Own1 F' x→Own1 F1 x∨N≤x)
 only:Only (Own1 F1) w2 W
 ex:X W
 nB:B≤N
 nS:N≤W.heap.size
end
section
open Go.RowKit Go.Shelf Go.Maps
open Fr Bk
structure KeyJ (m:M) (F1 F:Fp) (g:Nat) (rs:List (Int×Int)) (w0 w:World) (b1:Br) (K:Option Addr) (kn:Nat) (ks:Bs) (R:Option Addr) (rn:Nat) (cs:List Bs):Prop where
 is:BrIs F1 g rs w b1
 own:∀ x,Own1 F1 x→Own1 F x∨w0.heap.size≤x
 only:Only (Own1 F) w0 w
 keys:Bytes w w.heap.size K kn ks
 cmds:Vals w w.heap.size R rn (strs cs)
 ak:0<kn→∀ x,In K x→¬ Own1 F1 x
 ar:0<rn→∀ x,In R x→¬ Own1 F1 x
 box:Bx w0.heap.size w #[.int .i64 m.k,.int .i64 m.a,.int .i64 m.b,.string (str m.t)]
 nb:¬ Own1 F1 w0.heap.size
end
section
open Go.RowKit Go.Shelf Go.Maps
open Fr Bk
end
section
open Go.RowKit Go.Shelf Go.Maps
open Fr Bk
structure FedJ (F1 F:Fp) (g:Nat) (rs:List (Int×Int)) (w0 w:World) (b1:Br) (R:Option Addr) (rn rc:Nat) (es:List Ent):Prop where
 is:BrIs F1 g rs w b1
 own:∀ x,Own1 F1 x→Own1 F x∨w0.heap.size≤x
 only:Only (Own1 F) w0 w
 row:FrRow 0 w R rn rc es
 ar:∀ p,R=some p→¬ Own1 F1 p.block
 ae:Off (Own1 F1) es
 caps:∀ e∈es,e.n≤e.c
end
section
open Go.RowKit Go.Shelf Go.Maps
open Fr Bk
structure LB (n0:Nat) (F:Fp) (g:Nat) (rs:List (Int×Int)) (w:World) (b:Br):Prop where
 is:BrIs F g rs w b
 new:∀ x,Own1 F x→n0≤x
 le:n0≤w.heap.size
end
end Go.Proofs.YtecjpkjbgknnnaaGreatDoor
