/- PBm PBl -/
import Derived.Test.YtecjpkjbgknnnaaGreatDoorZd06
import Derived.Test.YtecjpkjbgknnnaaGreatDoorZd10
import Derived.Test.YtecjpkjbgknnnaaGreatDoorZd13
import Derived.Test.YtecjpkjbgknnnaaGreatDoorZd17
import Derived.Test.YtecjpkjbgknnnaaGreatDoorZd22
import Derived.Test.YtecjpkjbgknnnaaGreatDoorZd23
import Derived.Test.YtecjpkjbgknnnaaGreatDoorZd31
import Derived.Test.YtecjpkjbgknnnaaGreatDoorZd35
namespace Go.Proofs.YtecjpkjbgknnnaaGreatDoor
set_option maxRecDepth 100000
section
open Go.RowKit Go.Maps
open Fr Bk
abbrev Fp:=Nat→Nat→Prop
structure Fit (F:Fp) (w:World):Prop where
 one:∀ s t x,F s x→F t x→s=t
 lt:∀ s x,F s x→x<w.heap.size
def RingMem (G:Nat→Prop) (gk:Nat) (w:World) (log:Nat) (L:Bs):Prop:=
 G gk∧0<log∧log≤65536∧L.length≤1099511627776∧∃ c,w.heap[gk]?=some (.cells (c.map by8).toArray 5 (0,0))∧Rg.Inv log c L
structure TabMem (G:Nat→Prop) (om:Option Nat) (a:Option Addr) (n c:Nat) (w:World) (t:Ta):Prop where
 mo:(om=none∧t.roles=[])∨∃ bm,om=some bm∧Rm bm w t.roles
 rw:Rw 0 w a n c (ints t.waits)
 d3:∀ bm,om=some bm→¬ In a bm
 m2:∀ bm,om=some bm→G bm
 m3:∀ b,In a b→G b
 l1:1≤t.lease
 l2:t.lease≤1000
def InpMem (G:Nat→Prop) (ia:Option Addr) (ic:Nat) (w:World) (size:Nat) (l:Bs):Prop:=
 size≤65536∧l.length≤size∧Mid 0 w ia l.length ic l∧∀ x,In ia x→G x
def MapMem (G:Nat→Prop) (cm:Option Nat) (rs:List (Int×Int)) (w:World):Prop:=
 (cm=none∧rs=[])∨∃ bm,cm=some bm∧Pm bm w rs∧G bm
def FdIs (G:Nat→Prop) (g:Nat) (w:World) (s:Fs):Prop:=∃ a n c,Fed 0 w g a n c s.l s.e∧G g∧∀ x,In a x→G x
structure Cy where
 gf:Nat
 gl:Nat
 gq:Nat
 gv:Option Nat
abbrev at0 (g:Nat):Addr:=⟨g,0,none⟩
abbrev crow (k:Nat) (c:Cn) (y:Cy):Array Value:=#[.int .i64 (k:Nat),.int .i64 (c.st:Nat),.int .i64 (c.idle:Nat),.pointer (some (at0 y.gf)),.pointer (some (at0 y.gl)),.pointer (some (at0 y.gq)),.string (str c.name),.pointer (y.gv.map at0)]
structure CnAt (F:Fp) (k gc:Nat) (y:Cy) (q:Nat) (w:World) (c:Cn):Prop where
 bx:Bx gc w (crow k c y)
 own:F (10 * k) gc
 fd:FdIs (F (10 * k+1)) y.gf w c.fd
 lx:LexIs (F (10 * k+2)) y.gl w c.lx
 qu:QuIs z0 (F (10 * k+3)) [] w y.gq q c.out
 vw:∀ gv,y.gv=some gv→Bx gv w (VV c.p c.s)∧F (10 * k+4) gv
 vo:c.st=1→y.gv≠none
structure Ly where
 gk:Nat
 om:Option Nat
 a:Option Addr
 n:Nat
 c:Nat
 ia:Option Addr
 ic:Nat
 sa:Nat
 sb:Nat
 cm:Option Nat
 rs:List (Int×Int)
 cy:Nat→Cy
abbrev confV (c:Cf):List Value:=[.int .i64 (c.log:Nat),.int .i64 (c.data:Nat),.int .i64 (c.queue:Nat),.int .i64 (c.input:Nat),.int .i64 (c.strikes:Nat),.int .i64 (c.lease:Nat),.int .i64 (c.idle:Nat),.int .i64 (c.width:Nat)]
abbrev ringV (b:Br) (y:Ly):List Value:=[.int .i64 (b.L.length:Nat),.slice (some (at0 y.gk)) b.cf.log b.cf.log]
abbrev spotV (b:Br) (y:Ly):List Value:=[.complex .f64 y.sa y.sb,.int .i64 (b.sp.w - 1),.int .i64 b.sp.q]
abbrev tabV (b:Br) (y:Ly):List Value:=[.map y.om,.int .i64 (fhold b.fl),.int .i64 (b.fl.left:Nat),.slice y.a y.n y.c,.int .i64 ((b.fl.lease:Int) - 1)]
def isz (b:Br):Nat:=if b.ended then 0 else b.cf.input
abbrev inpV (b:Br) (y:Ly):List Value:=[.int .i64 (isz b:Nat),.slice y.ia b.inp.length y.ic,.int .i64 (b.tot:Nat),.bool b.ended]
abbrev restV (b:Br) (y:Ly):List Value:=[.int .i64 (b.strikes:Nat),.int .i64 b.told,.map y.cm,.bool b.ended,.int .i64 (b.code:Nat)]
def rowOf (b:Br) (y:Ly):Array Value:=(confV b.cf ++ (ringV b y ++ (spotV b y ++ (tabV b y ++ (inpV b y ++ restV b y))))).toArray
def TIB (F:Fp) (w:World):Prop:=∃ w0,TI w0∧Below w0.heap.size w0 w∧∀ t x,F t x→w0.heap.size≤x
def CnOpt (F:Fp) (k:Nat) (y:Ly) (q:Nat) (w:World):Option Cn→Prop
 | none=>rrole y.rs k=0
 | some c=>∃ gc:Nat,rrole y.rs k=(gc:Int)+1∧CnAt F k gc (y.cy k) q w c
structure BrAt (F:Fp) (g:Nat) (y:Ly) (w:World) (b:Br):Prop where
 fit:Fit F w
 me:∀ x,F 1 x↔x=g
 row:Bx g w (rowOf b y)
 ring:RingMem (F 2) y.gk w b.cf.log b.L
 spot:RepC y.sa y.sb b.sp.c b.sp.r
 tab:TabMem (F 3) y.om y.a y.n y.c w (ofFl b.fl)
 inp:InpMem (F 4) y.ia y.ic w (isz b) b.inp
 map:MapMem (F 5) y.cm y.rs w
 rsok:∀ p∈y.rs,1≤p.1∧p.1≤16
 cns:∀ k,1≤k→k≤16→CnOpt F k y b.cf.queue w (b.cs k)
 base:TIB F w
def BrIs (F:Fp) (g:Nat) (rs:List (Int×Int)) (w:World) (b:Br):Prop:=∃ y,y.rs=rs∧BrAt F g y w b
def Own1 (F:Fp) (x:Nat):Prop:=∃ s,F s x
end
section
open Go.RowKit Go.Maps
open Fr Bk
end
end Go.Proofs.YtecjpkjbgknnnaaGreatDoor
