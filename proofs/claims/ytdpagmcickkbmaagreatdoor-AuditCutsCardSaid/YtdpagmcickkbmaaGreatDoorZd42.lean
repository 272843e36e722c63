/- PBm PBl -/
import Derived.Test.YtdpagmcickkbmaaGreatDoorZd06
import Derived.Test.YtdpagmcickkbmaaGreatDoorZd13
import Derived.Test.YtdpagmcickkbmaaGreatDoorZd17
import Derived.Test.YtdpagmcickkbmaaGreatDoorZd21
import Derived.Test.YtdpagmcickkbmaaGreatDoorZd26
import Derived.Test.YtdpagmcickkbmaaGreatDoorZd27
import Derived.Test.YtdpagmcickkbmaaGreatDoorZd37
import Derived.Test.YtdpagmcickkbmaaGreatDoorZd41
namespace Go.Proofs.YtdpagmcickkbmaaGreatDoor
set_option maxRecDepth 100000
section
open Go.RowKit Go.Maps
open Fr Bk
abbrev Fp:=Nat→Nat→Prop
structure Fit (F:Fp) (w:World):Prop where
 one:∀ s t x,F s x→F t x→s=t
 lt:∀ s x,F s x→x<w.heap.size
def upF (F:Fp) (t:Nat) (G:Nat→Prop):Fp:=fun s x=>if s=t then G x else F s x
section
variable {F:Fp} {t s:Nat} {G:Nat→Prop} {w w':World}
theorem upF_same:upF F t G t=G:=by unfold upF; simp
theorem upF_other (h:s≠t):upF F t G s=F s:=by unfold upF; simp [h]
theorem Fit.up (h:Fit F w) (hG:∀ x,G x→F t x∨w.heap.size≤x) (hl:∀ x,G x→x<w'.heap.size) (hs:w.heap.size≤w'.heap.size):Fit (upF F t G) w':=by
 have key:∀ s x,s≠t→F s x→¬ G x:=fun s x hne hx hg=>by
  rcases hG x hg with h1 | h1
  ·exact hne (h.one _ _ _ hx h1)
  ·have:=h.lt _ _ hx; omega
 refine ⟨fun s1 s2 x h1 h2=>?_,fun s1 x h1=>?_⟩
 ·unfold upF at h1 h2
  by_cases e1:s1=t <;> by_cases e2:s2=t <;> simp only [e1,e2,if_true,if_false] at h1 h2
  ·omega
  ·exact absurd h1 (key _ _ e2 h2)
  ·exact absurd h2 (key _ _ e1 h1)
  ·exact h.one _ _ _ h1 h2
 ·unfold upF at h1
  by_cases e1:s1=t <;> simp only [e1,if_true,if_false] at h1
  ·exact hl x h1
  ·exact Nat.lt_of_lt_of_le (h.lt _ _ h1) hs
theorem upF_sub (hG:∀ x,G x→F t x∨w.heap.size≤x):∀ s x,upF F t G s x→(∃ r,F r x)∨w.heap.size≤x:=fun s x h=>by
 unfold upF at h
 by_cases e:s=t <;> simp only [e,if_true,if_false] at h
 ·exact (hG x h).imp (fun h=>⟨t,h⟩) id
 ·exact .inl ⟨s,h⟩
end
def RingMem (G:Nat→Prop) (gk:Nat) (w:World) (log:Nat) (L:Bs):Prop:=
 G gk∧0<log∧log≤65536∧L.length≤1099511627776∧∃ c,w.heap[gk]?=some (.cells (c.map by8).toArray 5 (0,0))∧Rg.Inv log c L
structure TabMem (G:Nat→Prop) (om:Option Nat) (a:Option Addr) (n c:Nat) (w:World) (t:Ta):Prop where
 mo:(om=none∧t.roles=[])∨∃ bm,om=some bm∧Rm bm w t.roles
 rw:Rw 0 w a n c (ints t.waits)
 d3:∀ bm,om=some bm→¬ In a bm
 m2:∀ bm,om=some bm→G bm
 m3:∀ b,In a b→G b
 l1:1≤t.lease
 l2:t.lease≤1000
def InpMem (G:Nat→Prop) (ia:Option Addr) (ic:Nat) (w:World) (size:Nat) (l:Bs):Prop:=
 size≤65536∧l.length≤size∧Mid 0 w ia l.length ic l∧∀ x,In ia x→G x
def MapMem (G:Nat→Prop) (cm:Option Nat) (rs:List (Int×Int)) (w:World):Prop:=
 (cm=none∧rs=[])∨∃ bm,cm=some bm∧Pm bm w rs∧G bm
def FdIs (G:Nat→Prop) (g:Nat) (w:World) (s:Fs):Prop:=∃ a n c,Fed 0 w g a n c s.l s.e∧G g∧∀ x,In a x→G x
section
variable {G S:Nat→Prop} {w w':World}
theorem RingMem.keep {gk log:Nat} {L:Bs} (h:RingMem G gk w log L) (hO:Only S w w') (hS:∀ x,G x→¬ S x):RingMem G gk w' log L:=by
 obtain ⟨h1,h2,h3,h4,c,h5,h6⟩:=h;exact ⟨h1,h2,h3,h4,c,(hO.block gk (block_lt h5) (hS _ h1)).trans h5,h6⟩
theorem TabMem.keep {om:Option Nat} {a:Option Addr} {n c:Nat} {t:Ta} (h:TabMem G om a n c w t) (hO:Only S w w') (hS:∀ x,G x→¬ S x):TabMem G om a n c w' t:=by
 refine ⟨?_,h.rw.only hO (fun b hb=>hS _ (h.m3 b hb)),h.d3,h.m2,h.m3,h.l1,h.l2⟩
 rcases h.mo with h1 | ⟨bm,h1,h2⟩
 ·exact .inl h1
 ·exact .inr ⟨bm,h1,h2.keep hO (hS _ (h.m2 bm h1))⟩
theorem InpMem.keep {ia:Option Addr} {ic size:Nat} {l:Bs} (h:InpMem G ia ic w size l) (hO:Only S w w') (hS:∀ x,G x→¬ S x):InpMem G ia ic w' size l:=by
 obtain ⟨h1,h2,h3,h4⟩:=h;exact ⟨h1,h2,h3.only hO (fun p hp=>hS _ (h4 _ ⟨p,hp,rfl⟩)),h4⟩
theorem MapMem.keep {cm:Option Nat} {rs:List (Int×Int)} (h:MapMem G cm rs w) (hO:Only S w w') (hS:∀ x,G x→¬ S x):MapMem G cm rs w':=by
 rcases h with h | ⟨bm,h1,h2,h3⟩
 ·exact .inl h
 ·exact .inr ⟨bm,h1,h2.keep hO (hS _ h3),h3⟩
theorem FdIs.keep {g:Nat} {s:Fs} (h:FdIs G g w s) (hO:Only S w w') (hS:∀ x,G x→¬ S x):FdIs G g w' s:=by
 obtain ⟨a,n,c,h1,h2,h3⟩:=h;exact ⟨a,n,c,h1.only hO (hS _ h2) (fun p hp=>hS _ (h3 _ ⟨p,hp,rfl⟩)),h2,h3⟩
end
structure Cy where
 gf:Nat
 gl:Nat
 gq:Nat
 gv:Option Nat
abbrev at0 (g:Nat):Addr:=⟨g,0,none⟩
abbrev crow (k:Nat) (c:Cn) (y:Cy):Array Value:=#[.int .i64 (k:Nat),.int .i64 (c.st:Nat),.int .i64 (c.idle:Nat),.pointer (some (at0 y.gf)),.pointer (some (at0 y.gl)),.pointer (some (at0 y.gq)),.string (str c.name),.pointer (y.gv.map at0)]
structure CnAt (F:Fp) (k gc:Nat) (y:Cy) (q:Nat) (w:World) (c:Cn):Prop where
 bx:Bx gc w (crow k c y)
 own:F (10 * k) gc
 fd:FdIs (F (10 * k+1)) y.gf w c.fd
 lx:LexIs (F (10 * k+2)) y.gl w c.lx
 qu:QuIs z0 (F (10 * k+3)) [] w y.gq q c.out
 vw:∀ gv,y.gv=some gv→Bx gv w (VV c.p c.s)∧F (10 * k+4) gv
 vo:c.st=1→y.gv≠none
theorem CnAt.keep {F:Fp} {S:Nat→Prop} {k gc q:Nat} {y:Cy} {w w':World} {c:Cn} (h:CnAt F k gc y q w c) (hO:Only S w w') (hS:∀ i x,i<5→F (10 * k+i) x→¬ S x):CnAt F k gc y q w' c:=
 ⟨h.bx.keep hO (hS 0 _ (by omega) h.own),h.own,h.fd.keep hO (fun x hx=>hS 1 x (by omega) hx),h.lx.keep hO (fun x hx=>hS 2 x (by omega) hx),h.qu.keep hO (fun x hx=>hS 3 x (by omega) hx),
  fun gv e=>⟨(h.vw gv e).1.keep hO (hS 4 _ (by omega) (h.vw gv e).2),(h.vw gv e).2⟩,h.vo⟩
theorem CnAt.re {F F':Fp} {k gc q:Nat} {y:Cy} {w:World} {c:Cn} (h:CnAt F k gc y q w c) (e:∀ i,i<5→F' (10 * k+i)=F (10 * k+i)):CnAt F' k gc y q w c:=by
 have e0:=e 0 (by omega);have e1:=e 1 (by omega);have e2:=e 2 (by omega);have e3:=e 3 (by omega);have e4:=e 4 (by omega);simp only [Nat.add_zero] at e0;exact ⟨h.bx,by rw [e0]; exact h.own,by rw [e1]; exact h.fd,by rw [e2]; exact h.lx,by rw [e3]; exact h.qu,fun gv hv=>by rw [e4]; exact h.vw gv hv,h.vo⟩
structure Ly where
 gk:Nat
 om:Option Nat
 a:Option Addr
 n:Nat
 c:Nat
 ia:Option Addr
 ic:Nat
 sa:Nat
 sb:Nat
 cm:Option Nat
 rs:List (Int×Int)
 cy:Nat→Cy
abbrev confV (c:Cf):List Value:=[.int .i64 (c.log:Nat),.int .i64 (c.data:Nat),.int .i64 (c.queue:Nat),.int .i64 (c.input:Nat),.int .i64 (c.strikes:Nat),.int .i64 (c.lease:Nat),.int .i64 (c.idle:Nat),.int .i64 (c.width:Nat)]
abbrev ringV (b:Br) (y:Ly):List Value:=[.int .i64 (b.L.length:Nat),.slice (some (at0 y.gk)) b.cf.log b.cf.log]
abbrev spotV (b:Br) (y:Ly):List Value:=[.complex .f64 y.sa y.sb,.int .i64 (b.sp.w - 1),.int .i64 b.sp.q]
abbrev tabV (b:Br) (y:Ly):List Value:=[.map y.om,.int .i64 (fhold b.fl),.int .i64 (b.fl.left:Nat),.slice y.a y.n y.c,.int .i64 ((b.fl.lease:Int) - 1)]
def isz (b:Br):Nat:=if b.ended then 0 else b.cf.input
abbrev inpV (b:Br) (y:Ly):List Value:=[.int .i64 (isz b:Nat),.slice y.ia b.inp.length y.ic,.int .i64 (b.tot:Nat),.bool b.ended]
abbrev restV (b:Br) (y:Ly):List Value:=[.int .i64 (b.strikes:Nat),.int .i64 b.told,.map y.cm,.bool b.ended,.int .i64 (b.code:Nat)]
def rowOf (b:Br) (y:Ly):Array Value:=(confV b.cf ++ (ringV b y ++ (spotV b y ++ (tabV b y ++ (inpV b y ++ restV b y))))).toArray
def zr (b:Br) (y:Ly):Zo:=⟨confV b.cf,spotV b y ++ (tabV b y ++ (inpV b y ++ restV b y)),8,rfl⟩
def zs (b:Br) (y:Ly):Zo:=⟨confV b.cf ++ ringV b y,tabV b y ++ (inpV b y ++ restV b y),10,rfl⟩
def zt (b:Br) (y:Ly):Zo:=⟨confV b.cf ++ (ringV b y ++ spotV b y),inpV b y ++ restV b y,13,rfl⟩
def zi (b:Br) (y:Ly):Zo:=⟨confV b.cf ++ (ringV b y ++ (spotV b y ++ tabV b y)),restV b y,18,rfl⟩
def TIB (F:Fp) (w:World):Prop:=∃ w0,TI w0∧Below w0.heap.size w0 w∧∀ t x,F t x→w0.heap.size≤x
def CnOpt (F:Fp) (k:Nat) (y:Ly) (q:Nat) (w:World):Option Cn→Prop
 | none=>rrole y.rs k=0
 | some c=>∃ gc:Nat,rrole y.rs k=(gc:Int)+1∧CnAt F k gc (y.cy k) q w c
structure BrAt (F:Fp) (g:Nat) (y:Ly) (w:World) (b:Br):Prop where
 fit:Fit F w
 me:∀ x,F 1 x↔x=g
 row:Bx g w (rowOf b y)
 ring:RingMem (F 2) y.gk w b.cf.log b.L
 spot:RepC y.sa y.sb b.sp.c b.sp.r
 tab:TabMem (F 3) y.om y.a y.n y.c w (ofFl b.fl)
 inp:InpMem (F 4) y.ia y.ic w (isz b) b.inp
 map:MapMem (F 5) y.cm y.rs w
 rsok:∀ p∈y.rs,1≤p.1∧p.1≤16
 cns:∀ k,1≤k→k≤16→CnOpt F k y b.cf.queue w (b.cs k)
 base:TIB F w
def BrIs (F:Fp) (g:Nat) (rs:List (Int×Int)) (w:World) (b:Br):Prop:=∃ y,y.rs=rs∧BrAt F g y w b
def Own1 (F:Fp) (x:Nat):Prop:=∃ s,F s x
def BGives (F:Fp) (g:Nat) (rs:List (Int×Int)) (w:World) (b2:Br) (v:Value) (e:Ending) (w':World):Prop:=
 ∃ F2,e = .returned v∧BrIs F2 g rs w' b2∧(∀ x,Own1 F2 x→Own1 F x∨w.heap.size≤x)∧Only (Own1 F) w w'
section
variable {F:Fp} {g:Nat} {rs:List (Int×Int)} {y:Ly} {w w':World} {b:Br}
theorem TIB.ti {F:Fp} {w:World} (h:TIB F w):TI w:=by
 obtain ⟨w0,h1,h2,_⟩:=h;exact h1.below h2
theorem TIB.step {F F':Fp} {w w':World} (h:TIB F w) (hO:Only (Own1 F) w w') (hF:∀ x,Own1 F' x→Own1 F x∨w.heap.size≤x):TIB F' w':=by
 obtain ⟨w0,h1,h2,h3⟩:=h;refine ⟨w0,h1,h2.trans (hO.below h2.size fun k hk ⟨s,hs⟩=>by have:=h3 _ _ hs; omega),fun t x hx=>?_⟩
 rcases hF x ⟨t,hx⟩ with ⟨s,hs⟩ | h4
 ·exact h3 _ _ hs
 ·exact Nat.le_trans h2.size h4
theorem BrAt.keep {S:Nat→Prop} (h:BrAt F g y w b) (hO:Only S w w') (hS:∀ x,Own1 F x→¬ S x) (hB:∀ x,S x→x<w.heap.size→∀ w0,TI w0→Below w0.heap.size w0 w→(∀ t x,F t x→w0.heap.size≤x)→w0.heap.size≤x):BrAt F g y w' b:=by
 refine ⟨⟨h.fit.one,fun s x hx=>Nat.lt_of_lt_of_le (h.fit.lt s x hx) hO.size⟩,h.me,h.row.keep hO (hS _ ⟨1,(h.me g).2 rfl⟩),h.ring.keep hO (fun x hx=>hS x ⟨_,hx⟩),h.spot,h.tab.keep hO (fun x hx=>hS x ⟨_,hx⟩),h.inp.keep hO (fun x hx=>hS x ⟨_,hx⟩),h.map.keep hO (fun x hx=>hS x ⟨_,hx⟩),h.rsok,fun k h1 h2=>?_,?_⟩
 ·have:=h.cns k h1 h2
  revert this
  rcases b.cs k with _ | c
  ·exact id
  ·rintro ⟨gc,h3,h4⟩
   exact ⟨gc,h3,h4.keep hO fun i x _ hx=>hS x ⟨_,hx⟩⟩
 ·obtain ⟨w0,h1,h2,h3⟩:=h.base
  refine ⟨w0,h1,h2.trans (hO.below h2.size fun k hk hs=>?_),h3⟩;have:=hB k hs (Nat.lt_of_lt_of_le hk h2.size) w0 h1 h2 h3;omega
theorem BrAt.quiet (h:BrAt F g y w b) (hO:Only (fun _=>False) w w'):BrAt F g y w' b:=h.keep hO (fun _ _ h=>h) (fun _ h=>h.elim)
theorem BrAt.drewN (h:BrAt F g y w b) (n:Nat):BrAt F g y (w.drewN n) b:=h.quiet ((Only.refl _ w).drewN n)
theorem BrAt.lt (h:BrAt F g y w b) {x:Nat} (hx:Own1 F x):x<w.heap.size:=by obtain ⟨s,hs⟩:=hx; exact h.fit.lt s x hs
end
end
section
open Go.RowKit Go.Maps
open Fr Bk
section
variable {F F2:Fp} {g k q:Nat} {y y2:Ly} {w w':World} {b:Br} {S:Nat→Prop} {oc:Option Cn}
theorem CnOpt.keep (h:CnOpt F k y q w oc) (hO:Only S w w') (hS:∀ i x,i<5→F (10 * k+i) x→¬ S x) (hF:∀ i,i<5→F2 (10 * k+i)=F (10 * k+i)) (hr:y2.rs=y.rs) (hc:y2.cy k=y.cy k):CnOpt F2 k y2 q w' oc:=by
 rcases oc with _ | c
 ·show rrole y2.rs k=0
  rw [hr]; exact h
 ·obtain ⟨gc,h1,h2⟩:=h
  refine ⟨gc,by rw [hr]; exact h1,?_⟩;rw [hc];exact (h2.keep hO hS).re hF
theorem upF_own {t:Nat} {G:Nat→Prop} (hG:∀ x,G x→F t x∨w.heap.size≤x):∀ x,Own1 (upF F t G) x→Own1 F x∨w.heap.size≤x:=fun x ⟨s,hs⟩=>upF_sub hG s x hs
theorem upF_id (F:Fp) (t:Nat):upF F t (F t)=F:=by
 funext s x
 unfold upF
 by_cases e:s=t <;> simp [e]
theorem Fit.ne (h:Fit F w) {s t x:Nat} (hx:F s x) (hst:s≠t):¬ F t x:=fun hy=>hst (h.one _ _ _ hx hy)
theorem BrAt.gow (h:BrAt F g y w b):F 1 g:=(h.me g).2 rfl
theorem BrAt.others (h:BrAt F g y w b) {t:Nat} {G:Nat→Prop} (hO:Only (fun x=>F 1 x∨F t x) w w') (ht:t<10) (k:Nat) (h1:1≤k) (h2:k≤16) (hr:y2.rs=y.rs) (hc:y2.cy=y.cy) :
  CnOpt (upF F t G) k y2 b.cf.queue w' (b.cs k):=
 (h.cns k h1 h2).keep hO (fun i x _ hx hs=>by rcases hs with hs | hs; exact h.fit.ne hx (by omega) hs; exact h.fit.ne hx (by omega) hs) (fun i _=>upF_other (by omega)) hr (by rw [hc])
theorem BrAt.dis (h:BrAt F g y w b) {s t:Nat} (h1:s≠1) (h2:s≠t):∀ x,F s x→¬ (F 1 x∨F t x):=fun x hx hs=>by
 rcases hs with hs | hs
 ·exact h.fit.ne hx h1 hs
 ·exact h.fit.ne hx h2 hs
theorem BrAt.toTab (h:BrAt F g y w b):TabIs (zt b y) (fun x=>F 1 x∨F 3 x) g w b.fl:=by
 have hd:=h.fit;refine ⟨y.om,y.a,y.n,y.c,⟨⟨h.row⟩,h.tab.mo,h.tab.rw,?_,?_,h.tab.d3,.inl h.gow,fun bm e=>.inr (h.tab.m2 bm e),fun x hx=>.inr (h.tab.m3 x hx),?_,h.tab.l1,h.tab.l2⟩⟩
 ·intro e
  exact hd.ne h.gow (by decide) (h.tab.m2 g e)
 ·intro e
  exact hd.ne h.gow (by decide) (h.tab.m3 g e)
 ·rintro x (hx | hx)
  ·exact hd.lt _ _ hx
  ·exact hd.lt _ _ hx
theorem BrAt.ofTab (h:BrAt F g y w b) {G2:Nat→Prop} {fl':Fl} (ht:TabIs (zt b y) G2 g w' fl') (hG:∀ x,G2 x→(F 1 x∨F 3 x)∨w.heap.size≤x) (hO:Only (fun x=>F 1 x∨F 3 x) w w') :
  ∃ F2,BrIs F2 g y.rs w' { b with fl:=fl' }∧(∀ x,Own1 F2 x→Own1 F x∨w.heap.size≤x):=by
 obtain ⟨om,a,n,c,ht⟩:=ht
 have hsub:∀ x,(G2 x∧x≠g)→F 3 x∨w.heap.size≤x:=fun x hx=>by
  rcases hG x hx.1 with (h1 | h1) | h1
  ·exact absurd ((h.me x).1 h1) hx.2
  ·exact .inl h1
  ·exact .inr h1
 refine ⟨upF F 3 (fun x=>G2 x∧x≠g),⟨{ y with om:=om,a:=a,n:=n,c:=c },rfl,?_⟩,upF_own hsub⟩;refine ⟨h.fit.up hsub (fun x hx=>ht.lt x hx.1) hO.size,fun x=>by rw [upF_other (by decide)]; exact h.me x,ht.bx.bx,?_,h.spot,?_,?_,?_,h.rsok,?_,?_⟩
 ·rw [upF_other (by decide)]; exact h.ring.keep hO (h.dis (by decide) (by decide))
 ·rw [upF_same]
  refine ⟨ht.mo,ht.rw,ht.d3,fun bm e=>⟨ht.m2 bm e,?_⟩,fun x hx=>⟨ht.m3 x hx,?_⟩,ht.l1,ht.l2⟩
  ·rintro rfl; exact ht.d1 e
  ·rintro rfl; exact ht.d2 hx
 ·rw [upF_other (by decide)]; exact h.inp.keep hO (h.dis (by decide) (by decide))
 ·rw [upF_other (by decide)]; exact h.map.keep hO (h.dis (by decide) (by decide))
 ·exact fun k h1 h2=>h.others hO (by decide) k h1 h2 rfl rfl
 ·exact h.base.step (hO.mono fun x _ hx=>hx.elim (fun h=>⟨_,h⟩) (fun h=>⟨_,h⟩)) (upF_own hsub)
theorem BrAt.toRing (h:BrAt F g y w b):Ring (zr b y) w g y.gk b.cf.log b.L:=by
 obtain ⟨h1,h2,h3,h4,c,h5,h6⟩:=h.ring;exact ⟨c,⟨h6.1,h2,h3,h4,fun e=>h.fit.ne h.gow (t:=2) (by decide) (by rw [e]; exact h1),⟨h.row⟩,h5⟩,h6⟩
theorem BrAt.ofRing (h:BrAt F g y w b) {L':Bs} (hr:Ring (zr b y) w' g y.gk b.cf.log L') (hO:Only (fun x=>x=g∨x=y.gk) w w'):BrAt F g y w' { b with L:=L' }:=by
 obtain ⟨c,hr,hI⟩:=hr
 have hO':Only (fun x=>F 1 x∨F 2 x) w w':=hO.mono fun x _ hx=>by
  rcases hx with rfl | rfl
  ·exact .inl h.gow
  ·exact .inr h.ring.1
 have hF:upF F 2 (F 2)=F:=by
  funext s x
  unfold upF
  by_cases e:s=2 <;> simp [e]
 refine ⟨⟨h.fit.one,fun s x hx=>Nat.lt_of_lt_of_le (h.fit.lt s x hx) hO.size⟩,h.me,hr.head.bx,⟨h.ring.1,hr.pos,hr.small,hr.few,c,hr.body,hI⟩,h.spot,h.tab.keep hO' (h.dis (by decide) (by decide)),h.inp.keep hO' (h.dis (by decide) (by decide)),h.map.keep hO' (h.dis (by decide) (by decide)),h.rsok,fun k h1 h2=>?_,?_⟩
 ·have:=h.others (y2:=y) (G:=F 2) hO' (by decide) k h1 h2 rfl rfl
  rwa [hF] at this
 ·exact h.base.step (hO'.mono fun x _ hx=>hx.elim (fun h=>⟨_,h⟩) (fun h=>⟨_,h⟩)) (fun x hx=>.inl hx)
theorem BrAt.rowed (h:BrAt F g y w b) {b':Br} (hO:Only (fun x=>x=g) w w') (hrow:Bx g w' (rowOf b' y)) (e1:b'.cf=b.cf) (e2:b'.L=b.L) (e3:RepC y.sa y.sb b'.sp.c b'.sp.r) (e4:ofFl b'.fl=ofFl b.fl) (e5:isz b'=isz b) (e6:b'.inp=b.inp) (e7:b'.cs=b.cs) :
  BrAt F g y w' b':=by
 have hO':Only (fun x=>F 1 x∨F 1 x) w w':=hO.mono fun x _ hx=>by subst hx; exact .inl h.gow
 have hF:upF F 1 (F 1)=F:=by
  funext s x
  unfold upF
  by_cases e:s=1 <;> simp [e]
 refine ⟨⟨h.fit.one,fun s x hx=>Nat.lt_of_lt_of_le (h.fit.lt s x hx) hO.size⟩,h.me,hrow,?_,e3,?_,?_,h.map.keep hO' (h.dis (by decide) (by decide)),h.rsok,fun k h1 h2=>?_,?_⟩
 ·rw [e1,e2]; exact h.ring.keep hO' (h.dis (by decide) (by decide))
 ·rw [e4]; exact h.tab.keep hO' (h.dis (by decide) (by decide))
 ·rw [e5,e6]; exact h.inp.keep hO' (h.dis (by decide) (by decide))
 ·have:=h.others (y2:=y) (G:=F 1) hO' (by decide) k h1 h2 rfl rfl
  rw [hF] at this
  rw [e1,e7]; exact this
 ·exact h.base.step (hO'.mono fun x _ hx=>hx.elim (fun h=>⟨_,h⟩) (fun h=>⟨_,h⟩)) (fun x hx=>.inl hx)
theorem BrAt.setTold (h:BrAt F g y w b) (v:Int):BrAt F g y (w.setCell ⟨g,23,none⟩ (.int .i64 v)) { b with told:=v }:=
 h.rowed (Bx.only g w 23 _) (h.row.set 23 (.int .i64 v)) rfl rfl h.spot rfl rfl rfl rfl
theorem BrAt.setStrikes (h:BrAt F g y w b) (v:Nat):BrAt F g y (w.setCell ⟨g,22,none⟩ (.int .i64 (v:Nat))) { b with strikes:=v }:=
 h.rowed (Bx.only g w 22 _) (h.row.set 22 (.int .i64 (v:Nat))) rfl rfl h.spot rfl rfl rfl rfl
theorem BrAt.toSpot (h:BrAt F g y w b):SpotIs (zs b y) g w b.sp:=⟨h.row.room,y.sa,y.sb,h.spot,⟨h.row⟩⟩
theorem BrAt.ofSpot (h:BrAt F g y w b) {s:Sp.Sp} (hs:SpotIs (zs b y) g w' s) (hO:Only (fun x=>x=g) w w'):BrIs F g y.rs w' { b with sp:=s }:=by
 obtain ⟨_,sa,sb,h1,h2⟩:=hs
 have hO':Only (fun x=>F 1 x∨F 1 x) w w':=hO.mono fun x _ hx=>by subst hx; exact .inl h.gow
 have hF:upF F 1 (F 1)=F:=by
  funext s x
  unfold upF
  by_cases e:s=1 <;> simp [e]
 refine ⟨{ y with sa:=sa,sb:=sb },rfl,⟨h.fit.one,fun s x hx=>Nat.lt_of_lt_of_le (h.fit.lt s x hx) hO.size⟩,h.me,h2.bx,h.ring.keep hO' (h.dis (by decide) (by decide)),h1,h.tab.keep hO' (h.dis (by decide) (by decide)),h.inp.keep hO' (h.dis (by decide) (by decide)),h.map.keep hO' (h.dis (by decide) (by decide)),h.rsok,fun k h1 h2=>?_,?_⟩
 ·have:=h.others (y2:={ y with sa:=sa,sb:=sb }) (G:=F 1) hO' (by decide) k h1 h2 rfl rfl
  rwa [hF] at this
 ·exact h.base.step (hO'.mono fun x _ hx=>hx.elim (fun h=>⟨_,h⟩) (fun h=>⟨_,h⟩)) (fun x hx=>.inl hx)
theorem BrAt.toInp (h:BrAt F g y w b):QuIs (zi b y) (fun x=>F 1 x∨F 4 x) (IR b.tot b.ended) w g (isz b) b.inp:=by
 obtain ⟨h1,h2,h3,h4⟩:=h.inp;refine ⟨y.ia,y.ic,⟨⟨h.row⟩,Nat.zero_le _,h1,h2,h3,fun e=>h.fit.ne h.gow (t:=4) (by decide) (h4 _ e)⟩,.inl h.gow,fun x hx=>.inr (h4 x hx),?_⟩;rintro x (hx | hx)
 ·exact h.fit.lt _ _ hx
 ·exact h.fit.lt _ _ hx
theorem BrAt.ofInp (h:BrAt F g y w b) {G2:Nat→Prop} {b':Br} (hq:QuIs (zi b y) G2 (IR b'.tot b'.ended) w' g (isz b') b'.inp) (hG:∀ x,G2 x→(F 1 x∨F 4 x)∨w.heap.size≤x) (hO:Only (fun x=>F 1 x∨F 4 x) w w')
  (hrow:∀ ia ic,(zi b y).row (.int .i64 (isz b':Nat) :: .slice ia b'.inp.length ic :: IR b'.tot b'.ended).toArray=rowOf b' { y with ia:=ia,ic:=ic })
  (e1:b'.cf=b.cf) (e2:b'.L=b.L) (e3:b'.sp=b.sp) (e4:b'.fl=b.fl) (e7:b'.cs=b.cs) :
  ∃ F2,BrIs F2 g y.rs w' b'∧(∀ x,Own1 F2 x→Own1 F x∨w.heap.size≤x):=by
 obtain ⟨ia,ic,hq,q1,q2,q3⟩:=hq
 have hsub:∀ x,(G2 x∧x≠g)→F 4 x∨w.heap.size≤x:=fun x hx=>by
  rcases hG x hx.1 with (h1 | h1) | h1
  ·exact absurd ((h.me x).1 h1) hx.2
  ·exact .inl h1
  ·exact .inr h1
 refine ⟨upF F 4 (fun x=>G2 x∧x≠g),⟨{ y with ia:=ia,ic:=ic },rfl,?_⟩,upF_own hsub⟩;refine ⟨h.fit.up hsub (fun x hx=>q3 x hx.1) hO.size,fun x=>by rw [upF_other (by decide)]; exact h.me x,by rw [← hrow]; exact hq.bx.bx,?_,by rw [e3]; exact h.spot,?_,?_,?_,h.rsok,?_,?_⟩
 ·rw [upF_other (by decide),e1,e2]; exact h.ring.keep hO (h.dis (by decide) (by decide))
 ·rw [upF_other (by decide),e4]; exact h.tab.keep hO (h.dis (by decide) (by decide))
 ·rw [upF_same]
  exact ⟨hq.small,hq.few,hq.mid,fun x hx=>⟨q2 x hx,fun e=>hq.apart (e ▸ hx)⟩⟩
 ·rw [upF_other (by decide)]; exact h.map.keep hO (h.dis (by decide) (by decide))
 ·intro k h1 h2
  rw [e1,e7];exact h.others hO (by decide) k h1 h2 rfl rfl
 ·exact h.base.step (hO.mono fun x _ hx=>hx.elim (fun h=>⟨_,h⟩) (fun h=>⟨_,h⟩)) (upF_own hsub)
theorem BrAt.conn (h:BrAt F g y w b) {k:Nat} {c:Cn} (h1:1≤k) (h2:k≤16) (hc:b.cs k=some c):∃ gc:Nat,rrole y.rs k=(gc:Int)+1∧CnAt F k gc (y.cy k) b.cf.queue w c:=by
 have:=h.cns k h1 h2;rw [hc] at this;exact this
theorem BrAt.none (h:BrAt F g y w b) {k:Nat} (h1:1≤k) (h2:k≤16) (hc:b.cs k=none):rrole y.rs k=0:=by
 have:=h.cns k h1 h2;rw [hc] at this;exact this
def ycy (y:Ly) (k:Nat) (cy:Cy):Ly:={ y with cy:=fun j=>if j=k then cy else y.cy j }
theorem BrAt.setCn (h:BrAt F g y w b) {k i gc:Nat} (h1:1≤k) (_h2:k≤16) (hgc:rrole y.rs k=(gc:Int)+1) (hi:i<5) {G:Nat→Prop} (hG:∀ x,G x→F (10 * k+i) x∨w.heap.size≤x) (hl:∀ x,G x→x<w'.heap.size)
  {cy:Cy} {c:Cn} (hO:Only (F (10 * k+i)) w w') (hcn:CnAt (upF F (10 * k+i) G) k gc cy b.cf.queue w' c):BrAt (upF F (10 * k+i) G) g (ycy y k cy) w' (setc b k (some c)):=by
 have hO1:∀ {s:Nat},s<10→∀ x,F s x→¬ F (10 * k+i) x:=fun hs x hx=>h.fit.ne hx (by omega)
 refine ⟨h.fit.up hG hl hO.size,fun x=>by rw [upF_other (by omega)]; exact h.me x,h.row.keep hO (hO1 (by decide) _ h.gow),?_,h.spot,?_,?_,?_,h.rsok,fun j j1 j2=>?_,?_⟩
 ·rw [upF_other (by omega)]; exact h.ring.keep hO (hO1 (by decide))
 ·rw [upF_other (by omega)]; exact h.tab.keep hO (hO1 (by decide))
 ·rw [upF_other (by omega)]; exact h.inp.keep hO (hO1 (by decide))
 ·rw [upF_other (by omega)]; exact h.map.keep hO (hO1 (by decide))
 ·show CnOpt _ j (ycy y k cy) b.cf.queue w' (if j=k then some c else b.cs j)
  by_cases e:j=k
  ·subst e
   rw [if_pos rfl];refine ⟨gc,hgc,?_⟩
   show CnAt _ j gc (if j=j then cy else y.cy j) _ _ _
   rw [if_pos rfl];exact hcn
  ·rw [if_neg e]
   refine (h.cns j j1 j2).keep hO (fun i2 x h5 hx=>h.fit.ne hx (by omega)) (fun i2 h5=>upF_other (by omega)) rfl ?_
   show (if j=k then cy else y.cy j)=y.cy j
   rw [if_neg e]
 ·exact h.base.step (hO.mono fun x _ hx=>⟨_,hx⟩) (upF_own hG)
theorem BrAt.cnCell (h:BrAt F g y w b) {k gc:Nat} {c c':Cn} {cy:Cy} (h1:1≤k) (h2:k≤16) (hgc:rrole y.rs k=(gc:Int)+1) (hcn:CnAt F k gc (y.cy k) b.cf.queue w c) (i:Nat) (v:Value)
  (hrow:(crow k c (y.cy k)).setIfInBounds i v=crow k c' cy) (e1:cy.gf=(y.cy k).gf) (e2:cy.gl=(y.cy k).gl) (e3:cy.gq=(y.cy k).gq) (d1:c'.fd=c.fd) (d2:c'.lx=c.lx) (d3:c'.out=c.out)
  (hv:∀ gv,cy.gv=some gv→Bx gv w (VV c'.p c'.s)∧F (10 * k+4) gv) (ho:c'.st=1→cy.gv≠.none) :
  BrAt F g (ycy y k cy) (w.setCell ⟨gc,i,.none⟩ v) (setc b k (some c')):=by
 have hOg:Only (F (10 * k+0)) w (w.setCell ⟨gc,i,.none⟩ v):=(Bx.only gc w i v).mono fun x _ hx=>by subst hx; exact hcn.own
 have hd:∀ j x,1≤j→j<5→F (10 * k+j) x→¬ F (10 * k+0) x:=fun j x hj _ hx=>h.fit.ne hx (by omega)
 have hr:=h.setCn (i:=0) h1 h2 hgc (by decide) (G:=F (10 * k+0)) (fun x hx=>.inl hx) (fun x hx=>Nat.lt_of_lt_of_le (h.fit.lt _ _ hx) hOg.size) (cy:=cy) (c:=c') hOg (by
  rw [upF_id];refine ⟨by rw [← hrow]; exact hcn.bx.set i v,hcn.own,?_,?_,?_,fun gv e=>⟨(hv gv e).1.keep hOg (hd 4 _ (by decide) (by decide) (hv gv e).2),(hv gv e).2⟩,ho⟩
  ·rw [e1,d1]; exact hcn.fd.keep hOg (fun x hx=>hd 1 x (by decide) (by decide) hx)
  ·rw [e2,d2]; exact hcn.lx.keep hOg (fun x hx=>hd 2 x (by decide) (by decide) hx)
  ·rw [e3,d3]; exact hcn.qu.keep hOg (fun x hx=>hd 3 x (by decide) (by decide) hx))
 rwa [upF_id] at hr
theorem BrAt.cnQueue (h:BrAt F g y w b) {k gc:Nat} {c:Cn} (h1:1≤k) (h2:k≤16) (hgc:rrole y.rs k=(gc:Int)+1) (hcn:CnAt F k gc (y.cy k) b.cf.queue w c) {G:Nat→Prop} {l:Bs} (hq:QuIs z0 G [] w' (y.cy k).gq b.cf.queue l)
  (hG:∀ x,G x→F (10 * k+3) x∨w.heap.size≤x) (hO:Only (F (10 * k+3)) w w'):BrAt (upF F (10 * k+3) G) g y w' (setc b k (some { c with out:=l })):=by
 have hd:∀ j x,j≠3→j<5→F (10 * k+j) x→¬ F (10 * k+3) x:=fun j x hj _ hx=>h.fit.ne hx (by omega)
 have hy:ycy y k (y.cy k)=y:=by
  unfold ycy
  congr 1
  funext j
  by_cases e:j=k <;> simp [e]
 have hr:=h.setCn (i:=3) h1 h2 hgc (by decide) hG (fun x hx=>hq.lt x hx) (cy:=y.cy k) (c:={ c with out:=l }) hO (by
  refine ⟨hcn.bx.keep hO (hd 0 _ (by decide) (by decide) hcn.own),by rw [upF_other (by omega)]; exact hcn.own,?_,?_,?_,?_,hcn.vo⟩
  ·rw [upF_other (by omega)]; exact hcn.fd.keep hO (fun x hx=>hd 1 x (by decide) (by decide) hx)
  ·rw [upF_other (by omega)]; exact hcn.lx.keep hO (fun x hx=>hd 2 x (by decide) (by decide) hx)
  ·rw [upF_same]; exact hq
  ·intro gv e
   rw [upF_other (by omega)]
   exact ⟨(hcn.vw gv e).1.keep hO (hd 4 _ (by decide) (by decide) (hcn.vw gv e).2),(hcn.vw gv e).2⟩)
 rwa [hy] at hr
end
end
end Go.Proofs.YtdpagmcickkbmaaGreatDoor
