/- PEvm PScw PScr PFw -/
import Derived.Maps.AppendAt
import Derived.ArgAppend
import Derived.Lib.SmallJoins
import Derived.Deep.DeepCutAuto
import Derived.Deep.RegionHeld
import Derived.IntWalk
import Derived.Test.YtdiolacpngbalaaGreatDoorZd01
import Derived.Test.YtdiolacpngbalaaGreatDoorZd05
import Derived.Test.YtdiolacpngbalaaGreatDoorZd09
import Derived.Test.YtdiolacpngbalaaGreatDoorZd18
import Derived.Test.YtdiolacpngbalaaGreatDoorZd22

section
namespace Go.Proofs.YtdiolacpngbalaaGreatDoor
open Go.ChangeShapes Go.WideShapes Go.ChangeAt Go.RowKit Go.Deep
open Sc (Ev evs evb rtE)
def evc (e : Ev) : List Value:=[.int .i64 e.k,.int .i64 e.i,.int .i64 e.n,.string (str e.t)]
def evv (e : Ev) : Value:=.agg #[.int .i64 e.k,.int .i64 e.i,.int .i64 e.n,.string (str e.t)]
def ecells (L : List Ev) : List Value:=L.flatMap evc
structure EvIn (w : World) (B : Nat) (a : Option Addr) (L : List Ev) : Prop where
  outer : 0 < L.length→∃ b off,a = some ⟨b,off,none⟩∧b < B∧∀ r e,L[r]? = some e→w.cell? ⟨b,off + r * 4,none⟩ = some (.int .i64 e.k)∧w.cell? ⟨b,off + r * 4 + 1,none⟩ = some (.int .i64 e.i)∧w.cell? ⟨b,off + r * 4 + 2,none⟩ = some (.int .i64 e.n)∧w.cell? ⟨b,off + r * 4 + 3,none⟩ = some (.string (str e.t))
  inner : ∀ e∈L,e.t.length≤maxLen
section
variable {w w' : World} {B : Nat} {a : Option Addr} {L : List Ev}
theorem EvIn.keep (h : EvIn w B a L) (hb : ∀ p : Addr,p.block < B→w'.cell? p = w.cell? p) : EvIn w' B a L:=
  ⟨fun hn=>by
    obtain ⟨b,off,e,hlt,hc⟩:=h.outer hn
    exact ⟨b,off,e,hlt,fun r m hr=>⟨(hb ⟨b,off + r * 4,none⟩ hlt).trans (hc r m hr).1,(hb ⟨b,off + r * 4 + 1,none⟩ hlt).trans (hc r m hr).2.1,(hb ⟨b,off + r * 4 + 2,none⟩ hlt).trans (hc r m hr).2.2.1,(hb ⟨b,off + r * 4 + 3,none⟩ hlt).trans (hc r m hr).2.2.2⟩⟩,
   h.inner⟩
theorem EvIn.below (h : EvIn w B a L) (hb : Below B w w') : EvIn w' B a L:=h.keep fun _ hp=>hb.cell hp
theorem EvIn.more {B' : Nat} (h : EvIn w B a L) (hB : B≤B') : EvIn w B' a L:=
  ⟨fun hn=>by
    obtain ⟨b,off,e,hlt,hc⟩:=h.outer hn
    exact ⟨b,off,e,by omega,hc⟩,h.inner⟩
theorem EvIn.take (h : EvIn w B a L) (k : Nat) : EvIn w B a (L.take k):=by
  refine ⟨fun hn=>?_,fun m hm=>h.inner m (List.mem_of_mem_take hm)⟩
  obtain ⟨b,off,e,hlt,hc⟩:=h.outer (by simp at hn; omega)
  refine ⟨b,off,e,hlt,fun r m hr=>hc r m ?_⟩
  rw [List.getElem?_take] at hr
  split at hr
  · exact hr
  · simp at hr
theorem EvIn.nil (w : World) (B : Nat) (a : Option Addr) : EvIn w B a []:=⟨fun h=>absurd h (by simp),fun r hr=>absurd hr (by simp)⟩
end
structure EvRow (base : Nat) (w : World) (a : Option Addr) (n c : Nat) (L : List Ev) : Prop where
  row : w.ownsRow base 39 4 (.slice a n c) n (ecells L)
  cap : n≤c
  inner : ∀ e∈L,e.t.length≤maxLen
section
variable {base n c : Nat} {w w' : World} {a : Option Addr} {L : List Ev}
end
section
variable {H : Type} {enc : TypeId×Value→H} {W : World} {held : Bool}
set_option maxRecDepth 100000 in
theorem open_events {fuel : Nat} {a : Option Addr} {n cap : Nat} {x : DataW H×List MemPlace} (h : DataW.trod enc Tryz.prog W 0 (fun _=>true) held fuel 24 [.slice a n cap] = some x) :
    ∃ T : List Ev,EvIn W W.heap.size a T∧T.length = n∧n≤cap∧cap≤maxLen:=by
  have hce : Tryz.prog.cellsOf 39 = 4:=by kernel_rfl
  rcases open_slice Tryz.underlying24 h with ⟨hcs,rfl⟩ | ⟨ad,len,cp,m,k,D,Pl,hcs,_,hl,hm,hmm,rfl,hi⟩
  · simp at hcs
    obtain ⟨rfl,rfl,rfl⟩:=hcs
    exact ⟨[],EvIn.nil _ _ _,rfl,Nat.le_refl _,Nat.zero_le _⟩
  · simp at hcs
    obtain ⟨rfl,rfl,rfl⟩:=hcs
    simp only [if_true] at hmm
    subst hmm
    have each : ∀ r,r < n→∃ y : Ev,W.cell? (ad.add (r * 4)) = some (.int .i64 y.k)∧W.cell? (ad.add (r * 4 + 1)) = some (.int .i64 y.i)∧W.cell? (ad.add (r * 4 + 2)) = some (.int .i64 y.n)∧W.cell? (ad.add (r * 4 + 3)) = some (.string (str y.t))∧y.t.length≤maxLen:=by
      intro r hr
      obtain ⟨cs,hc,ht⟩:=hi r (by omega)
      rw [hce] at hc
      have hcl:=(World.cells?_some hc).2.1
      obtain ⟨n0,l0,y0,e0,g0,t0⟩:=part_of Tryz.underlying39 ht hcl 0 _ rfl rfl (by kernel_rfl)
      have c0:=cell_of_part hc 0 (by omega)
      rw [add_add] at c0
      obtain ⟨n1,l1,y1,e1,g1,t1⟩:=part_of Tryz.underlying39 ht hcl 1 _ rfl rfl (by kernel_rfl)
      have c1:=cell_of_part hc 1 (by omega)
      rw [add_add] at c1
      obtain ⟨n2,l2,y2,e2,g2,t2⟩:=part_of Tryz.underlying39 ht hcl 2 _ rfl rfl (by kernel_rfl)
      have c2:=cell_of_part hc 2 (by omega)
      rw [add_add] at c2
      obtain ⟨n3,l3,y3,e3,g3,t3⟩:=part_of Tryz.underlying39 ht hcl 3 _ rfl rfl (by kernel_rfl)
      have c3:=cell_of_part hc 3 (by omega)
      rw [add_add] at c3
      rw [Nat.add_zero] at c0
      obtain ⟨k0,hv0,_,hw0⟩:=DataW.trod_int Tryz.underlying37 t0
      obtain ⟨k1,hv1,_,hw1⟩:=DataW.trod_int Tryz.underlying3 t1
      obtain ⟨k2,hv2,_,hw2⟩:=DataW.trod_int Tryz.underlying3 t2
      obtain ⟨k3,hv3,_,hw3⟩:=DataW.trod_string Tryz.underlying9 t3
      simp only [List.cons.injEq,and_true] at hv0 hv1 hv2 hv3
      obtain ⟨t,rfl,ht⟩:=as_str k3 hw3
      exact ⟨⟨k0,k1,k2,t⟩,by rw [c0,hv0],by rw [c1,hv1],by rw [c2,hv2],by rw [c3,hv3],ht⟩
    haveI : Inhabited Ev:=⟨⟨0,0,0,[]⟩⟩
    obtain ⟨y,hy⟩:=choose_lt each
    have hget : ∀ r x,((List.range n).map y)[r]? = some x→r < n∧x = y r:=by
      intro r x hx
      rw [List.getElem?_map] at hx
      rcases Nat.lt_or_ge r n with h' | h'
      · rw [List.getElem?_range h'] at hx
        exact ⟨h',(Option.some.inj hx).symm⟩
      · rw [List.getElem?_eq_none (by simpa using h')] at hx
        cases hx
    refine ⟨(List.range n).map y,⟨fun hn=>?_,fun m hm=>?_⟩,by simp,hl,hm⟩
    · have hn0 : 0 < n:=by simpa using hn
      obtain ⟨b,off,rfl,hlt⟩:=spot_of (v:=_) (by simpa using (hy 0 hn0).1)
      refine ⟨b,off,rfl,hlt,fun r m hr=>?_⟩
      obtain ⟨hrn,rfl⟩:=hget r m hr
      rw [show off + r * 4 + 1 = off + (r * 4 + 1) by omega,show off + r * 4 + 2 = off + (r * 4 + 2) by omega,show off + r * 4 + 3 = off + (r * 4 + 3) by omega,← add_none,← add_none,← add_none,← add_none]
      exact ⟨(hy r hrn).1,(hy r hrn).2.1,(hy r hrn).2.2.1,(hy r hrn).2.2.2.1⟩
    · simp only [List.mem_map,List.mem_range] at hm
      obtain ⟨r,hr,rfl⟩:=hm
      exact (hy r hr).2.2.2.2
end
end Go.Proofs.YtdiolacpngbalaaGreatDoor
end

section
namespace Go.Proofs.YtdiolacpngbalaaGreatDoor
open Go.RowKit
open Sc
structure Grew (w w' : World) (A A' : Option Addr) : Prop where
  only : Only (In A) w w'
  place : ∀ p,A' = some p→In A p.block∨w.heap.size≤p.block
theorem three_allocs (w : World) (o1 o3 : Obj) (vs : Array Value) (t : TypeId) : Bx (w.heap.size + 1) (((w.alloc o1).alloc (.cells vs t)).alloc o3) vs∧Below w.heap.size w (((w.alloc o1).alloc (.cells vs t)).alloc o3):=
  ⟨(Bx.new (w.alloc o1) (w.heap.size + 1) (by simp) vs t).go ((Below.refl _ _).alloc (Nat.le_refl _) _) (by simp),(((Below.refl _ _).alloc (Nat.le_refl _) _).alloc (by simp) _).alloc (by simp; omega) _⟩
theorem drew_pair {g B : Nat} {w W : World} {vs : Array Value} (h : Bx g W vs∧Below B w W) : Bx g W.drew vs∧Below B w W.drew:=⟨⟨h.1.head⟩,below_drew h.2⟩
theorem Bx.ev {g : Nat} {w : World} {a b c d : Value} (h : Bx g w #[a,b,c,d]) : w.cell? ⟨g,0,none⟩ = some a∧w.cell? ⟨g,1,none⟩ = some b∧w.cell? ⟨g,2,none⟩ = some c∧w.cell? ⟨g,3,none⟩ = some d:=
  ⟨h.cell 0 _ rfl,h.cell 1 _ rfl,h.cell 2 _ rfl,h.cell 3 _ rfl⟩
theorem own_any (e : Ev) (h0 : 0≤e.k) (h7 : e.k≤7) (w : World) :
    Calls Tryz.prog 30 #[evv e] w fun r w'=>r = .returned (evv (ownE e))∧Below w.heap.size w w':=by
  obtain ⟨k,i,n,t⟩:=e
  simp only at h0 h7
  unfold evv
  simp only
  rcases (show k = 0∨k = 1∨k = 2∨k = 3∨k = 4∨k = 5∨k = 6∨k = 7 by omega) with rfl | rfl | rfl | rfl | rfl | rfl | rfl | rfl
  · clear h0 h7
    have H3:=Lib.hid (three_allocs w (.cells #[.int .i64 0,.int .i64 i,.int .i64 n,.string (str t)] 39) (.cells #[.int .i64 0,.int .i64 i,.int .i64 0,.string (⟨#[]⟩)] 39) #[.int .i64 0,.int .i64 i,.int .i64 0,.string (⟨#[]⟩)] 39)
    go_enter Tryz.func30,Tryz.ntmps30
    go_wp2
    have hx:=H3.out
    clear H3
    generalize ((World.alloc _ _).alloc _).alloc _ = W at hx ⊢
    obtain ⟨c0,c1,c2,c3⟩:=hx.1.ev
    exact bodyPost_ret (by simp [results,go_sem,c0,c1,c2,c3]; exact ⟨rfl,rfl,rfl,rfl⟩) rfl ⟨rfl,hx.2⟩
  · clear h0 h7
    have H3:=Lib.hid (three_allocs w (.cells #[.int .i64 1,.int .i64 i,.int .i64 n,.string (str t)] 39) (.cells #[.int .i64 1,.int .i64 i,.int .i64 0,.string (str t)] 39) #[.int .i64 1,.int .i64 i,.int .i64 0,.string (str t)] 39)
    go_enter Tryz.func30,Tryz.ntmps30
    go_wp2
    go_region
    all_goals go_wp2
    have hx:=H3.out
    clear H3
    have hx:=drew_pair hx
    generalize World.drew _ = W at hx ⊢
    obtain ⟨c0,c1,c2,c3⟩:=hx.1.ev
    exact bodyPost_ret (by simp [results,go_sem,c0,c1,c2,c3]; exact ⟨rfl,rfl,rfl,rfl⟩) rfl ⟨rfl,hx.2⟩
  · clear h0 h7
    have H3:=Lib.hid (three_allocs w (.cells #[.int .i64 2,.int .i64 i,.int .i64 n,.string (str t)] 39) (.cells #[.int .i64 2,.int .i64 i,.int .i64 n,.string (⟨#[]⟩)] 39) #[.int .i64 2,.int .i64 i,.int .i64 n,.string (⟨#[]⟩)] 39)
    go_enter Tryz.func30,Tryz.ntmps30
    go_wp2
    go_region
    all_goals go_wp2
    have hx:=H3.out
    clear H3
    have hx:=drew_pair hx
    generalize World.drew _ = W at hx ⊢
    obtain ⟨c0,c1,c2,c3⟩:=hx.1.ev
    exact bodyPost_ret (by simp [results,go_sem,c0,c1,c2,c3]; exact ⟨rfl,rfl,rfl,rfl⟩) rfl ⟨rfl,hx.2⟩
  · clear h0 h7
    have H3:=Lib.hid (three_allocs w (.cells #[.int .i64 3,.int .i64 i,.int .i64 n,.string (str t)] 39) (.cells #[.int .i64 3,.int .i64 0,.int .i64 0,.string (str t)] 39) #[.int .i64 3,.int .i64 0,.int .i64 0,.string (str t)] 39)
    go_enter Tryz.func30,Tryz.ntmps30
    go_wp2
    have hx:=H3.out
    clear H3
    generalize ((World.alloc _ _).alloc _).alloc _ = W at hx ⊢
    obtain ⟨c0,c1,c2,c3⟩:=hx.1.ev
    exact bodyPost_ret (by simp [results,go_sem,c0,c1,c2,c3]; exact ⟨rfl,rfl,rfl,rfl⟩) rfl ⟨rfl,hx.2⟩
  · clear h0 h7
    have H3:=Lib.hid (three_allocs w (.cells #[.int .i64 4,.int .i64 i,.int .i64 n,.string (str t)] 39) (.cells #[.int .i64 4,.int .i64 0,.int .i64 n,.string (⟨#[]⟩)] 39) #[.int .i64 4,.int .i64 0,.int .i64 n,.string (⟨#[]⟩)] 39)
    go_enter Tryz.func30,Tryz.ntmps30
    go_wp2
    have hx:=H3.out
    clear H3
    generalize ((World.alloc _ _).alloc _).alloc _ = W at hx ⊢
    obtain ⟨c0,c1,c2,c3⟩:=hx.1.ev
    exact bodyPost_ret (by simp [results,go_sem,c0,c1,c2,c3]; exact ⟨rfl,rfl,rfl,rfl⟩) rfl ⟨rfl,hx.2⟩
  · clear h0 h7
    have H3:=Lib.hid (three_allocs w (.cells #[.int .i64 5,.int .i64 i,.int .i64 n,.string (str t)] 39) (.cells #[.int .i64 5,.int .i64 0,.int .i64 0,.string (⟨#[]⟩)] 39) #[.int .i64 5,.int .i64 0,.int .i64 0,.string (⟨#[]⟩)] 39)
    go_enter Tryz.func30,Tryz.ntmps30
    go_wp2
    have hx:=H3.out
    clear H3
    generalize ((World.alloc _ _).alloc _).alloc _ = W at hx ⊢
    obtain ⟨c0,c1,c2,c3⟩:=hx.1.ev
    exact bodyPost_ret (by simp [results,go_sem,c0,c1,c2,c3]; exact ⟨rfl,rfl,rfl,rfl⟩) rfl ⟨rfl,hx.2⟩
  · clear h0 h7
    have H3:=Lib.hid (three_allocs w (.cells #[.int .i64 6,.int .i64 i,.int .i64 n,.string (str t)] 39) (.cells #[.int .i64 6,.int .i64 i,.int .i64 0,.string (⟨#[]⟩)] 39) #[.int .i64 6,.int .i64 i,.int .i64 0,.string (⟨#[]⟩)] 39)
    go_enter Tryz.func30,Tryz.ntmps30
    go_wp2
    have hx:=H3.out
    clear H3
    generalize ((World.alloc _ _).alloc _).alloc _ = W at hx ⊢
    obtain ⟨c0,c1,c2,c3⟩:=hx.1.ev
    exact bodyPost_ret (by simp [results,go_sem,c0,c1,c2,c3]; exact ⟨rfl,rfl,rfl,rfl⟩) rfl ⟨rfl,hx.2⟩
  · clear h0 h7
    have H3:=Lib.hid (three_allocs w (.cells #[.int .i64 7,.int .i64 i,.int .i64 n,.string (str t)] 39) (.cells #[.int .i64 7,.int .i64 0,.int .i64 n,.string (⟨#[]⟩)] 39) #[.int .i64 7,.int .i64 0,.int .i64 n,.string (⟨#[]⟩)] 39)
    go_enter Tryz.func30,Tryz.ntmps30
    go_wp2
    have hx:=H3.out
    clear H3
    generalize ((World.alloc _ _).alloc _).alloc _ = W at hx ⊢
    obtain ⟨c0,c1,c2,c3⟩:=hx.1.ev
    exact bodyPost_ret (by simp [results,go_sem,c0,c1,c2,c3]; exact ⟨rfl,rfl,rfl,rfl⟩) rfl ⟨rfl,hx.2⟩
end Go.Proofs.YtdiolacpngbalaaGreatDoor
end

section
namespace Go.Proofs.YtdiolacpngbalaaGreatDoor
open Go.RowKit
open Sc
theorem rtE_own {e : Ev} (h : inB e = true) : rtE e = (decide (e.i = (ownE e).i) && (decide (e.n = (ownE e).n) && decide (e.t = (ownE e).t))):=by
  unfold rtE ownB ownE
  rw [h]
  cases hasI e.k <;> cases hasN e.k <;> cases hasD e.k <;> simp
theorem rtE_no {e : Ev} (h : inB e = false) : rtE e = false:=by
  unfold rtE
  rw [h]
  rfl
set_option maxHeartbeats 2000000 in
theorem right16_any (e : Ev) (w : World) :
    Calls Tryz.prog 12 #[evv e] w fun r w'=>r = .returned (.bool (rtE e))∧Below w.heap.size w w':=by
  have HN:=Lib.hid (fun (h : inB e = false)=>rtE_no h)
  have HY:=Lib.hid (fun (h : inB e = true)=>rtE_own h)
  have HI:=Lib.hid (show inB e = (decide (0≤e.k) && (decide (e.k≤7) && (decide (0≤e.i) && (decide (e.i≤255) && (decide (0≤e.n) && (decide (e.n≤65536) && decide (e.t.length≤4000))))))) from rfl)
  have HO:=Lib.hid (fun (a : 0≤e.k) (b : e.k≤7)=>own_any e a b)
  have HS:=Lib.hid (str_size e.t)
  unfold evv at HO ⊢
  generalize hq : ownE e = q at *
  have hk : q.k = e.k:=by rw [← hq]; rfl
  generalize rtE e = R at *
  generalize inB e = I at *
  clear hq
  obtain ⟨k,i,n,t⟩:=e
  obtain ⟨k2,i2,n2,t2⟩:=q
  simp only at hk HI HO HS HY ⊢
  subst hk
  have HX:=Lib.hid (Bx.new w w.heap.size rfl #[.int .i64 k2,.int .i64 i,.int .i64 n,.string (str t)] 39)
  have HB:=Lib.hid ((Below.refl w.heap.size w).alloc (Nat.le_refl _) (.cells #[.int .i64 k2,.int .i64 i,.int .i64 n,.string (str t)] 39))
  go_enter Tryz.func12,Tryz.ntmps12
  go_upto_region 1 with fail
  generalize w.alloc _ = w1 at *
  have c0:=HX.out.cell 0 _ rfl
  have c1:=HX.out.cell 1 _ rfl
  have c2:=HX.out.cell 2 _ rfl
  have c3:=HX.out.cell 3 _ rfl
  simp at c0 c1 c2 c3
  have hgw:=HX.out.room
  by_cases h0 : 0≤k2
  case neg =>
    have d0 : decide (0≤k2) = false:=by simpa using h0
    have hf:=HN.out (by rw [HI.out]; simp; omega)
    subst hf
    clear h0
    go_quiet (fail)
    go_wp2
    go_ret
    exact ⟨rfl,below_drewN HB.out _⟩
  have d0 : decide (0≤k2) = true:=by simpa using h0
  by_cases h1 : k2≤7
  case neg =>
    have d1 : decide (k2≤7) = false:=by simpa using h1
    have hf:=HN.out (by rw [HI.out]; simp; omega)
    subst hf
    clear h1
    go_quiet (fail)
    go_wp2
    go_ret
    exact ⟨rfl,below_drewN HB.out _⟩
  have d1 : decide (k2≤7) = true:=by simpa using h1
  by_cases h2 : 0≤i
  case neg =>
    have d2 : decide (0≤i) = false:=by simpa using h2
    have hf:=HN.out (by rw [HI.out]; simp; omega)
    subst hf
    clear h2
    go_quiet (fail)
    go_wp2
    go_ret
    exact ⟨rfl,below_drewN HB.out _⟩
  have d2 : decide (0≤i) = true:=by simpa using h2
  by_cases h3 : i≤255
  case neg =>
    have d3 : decide (i≤255) = false:=by simpa using h3
    have hf:=HN.out (by rw [HI.out]; simp; omega)
    subst hf
    clear h3
    go_quiet (fail)
    go_wp2
    go_ret
    exact ⟨rfl,below_drewN HB.out _⟩
  have d3 : decide (i≤255) = true:=by simpa using h3
  by_cases h4 : 0≤n
  case neg =>
    have d4 : decide (0≤n) = false:=by simpa using h4
    have hf:=HN.out (by rw [HI.out]; simp; omega)
    subst hf
    clear h4
    go_quiet (fail)
    go_wp2
    go_ret
    exact ⟨rfl,below_drewN HB.out _⟩
  have d4 : decide (0≤n) = true:=by simpa using h4
  by_cases h5 : n≤65536
  case neg =>
    have d5 : decide (n≤65536) = false:=by simpa using h5
    have hf:=HN.out (by rw [HI.out]; simp; omega)
    subst hf
    clear h5
    go_quiet (fail)
    go_wp2
    go_ret
    exact ⟨rfl,below_drewN HB.out _⟩
  have d5 : decide (n≤65536) = true:=by simpa using h5
  by_cases h6 : ((str t).size : Int)≤4000
  case neg =>
    have d6 : decide (((str t).size : Int)≤4000) = false:=by simpa using h6
    have hf:=HN.out (by rw [HI.out,← HS.out]; simp; omega)
    subst hf
    clear h6
    go_quiet (fail)
    go_wp2
    go_ret
    exact ⟨rfl,below_drewN HB.out _⟩
  have d6 : decide (((str t).size : Int)≤4000) = true:=by simpa using h6
  have hy:=HY.out (by rw [HI.out,← HS.out]; simp; omega)
  have HO1:=Lib.hid (HO.out h0 h1)
  clear HN HY HI HO h0 h1 h2 h3 h4 h5 h6 c0 c1 c2 c3
  have HR:=Lib.hid hy
  clear hy
  obtain ⟨g,hg⟩ : ∃ g,w.heap.size = g:=⟨_,rfl⟩
  rw [hg] at HX HB hgw
  simp only [hg]
  have HG:=Lib.hid hg
  clear hg
  have hmix : Tryz.prog.follows .mixedOrders = true:=by kernel_rfl
  have HC:=Lib.hid (fun (W : World) (h : Bx g W #[.int .i64 k2,.int .i64 i,.int .i64 n,.string (str t)])=>h.ev)
  refine wp_region_held (S:=fun W=>Bx g W #[.int .i64 k2,.int .i64 i,.int .i64 n,.string (str t)]) hmix ?_
  change wpAnyH _ _ _ _ _ _ _ _ (World.drew _)
  have hS0 : Bx g w1.drew #[.int .i64 k2,.int .i64 i,.int .i64 n,.string (str t)]:=⟨HX.out.head⟩
  refine wpAnyH_take (i:=0) (v:=.pointer (some ⟨g,0,none⟩)) rfl (by kernel_rfl) (by kernel_rfl) (by kernel_rfl) (fun _ _ _ h=>h) (.inl ⟨by kernel_rfl,fun W hW=>?_⟩) hS0 ?_
  · go_simp
  refine wpAnyH_take (i:=1) (v:=.int .i64 k2) rfl (by kernel_rfl) (by kernel_rfl) (by kernel_rfl) (fun _ _ _ h=>h) (.inl ⟨by kernel_rfl,fun W hW=>?_⟩) hS0 ?_
  · obtain ⟨e0,e1,e2,e3⟩:=HC.out W hW; go_simp
  refine wpAnyH_take (i:=2) (v:=.bool true) rfl (by kernel_rfl) (by kernel_rfl) (by kernel_rfl) (fun _ _ _ h=>h) (.inl ⟨by kernel_rfl,fun W hW=>?_⟩) hS0 ?_
  · go_simp
  refine wpAnyH_take (i:=3) (v:=.bool true) rfl (by kernel_rfl) (by kernel_rfl) (by kernel_rfl) (fun _ _ _ h=>h) (.inl ⟨by kernel_rfl,fun W hW=>?_⟩) hS0 ?_
  · go_simp
  refine wpAnyH_take (i:=4) (v:=.pointer (some ⟨g,0,none⟩)) rfl (by kernel_rfl) (by kernel_rfl) (by kernel_rfl) (fun _ _ _ h=>h) (.inl ⟨by kernel_rfl,fun W hW=>?_⟩) hS0 ?_
  · go_simp
  refine wpAnyH_take (i:=5) (v:=.int .i64 k2) rfl (by kernel_rfl) (by kernel_rfl) (by kernel_rfl) (fun _ _ _ h=>h) (.inl ⟨by kernel_rfl,fun W hW=>?_⟩) hS0 ?_
  · obtain ⟨e0,e1,e2,e3⟩:=HC.out W hW; go_simp
  refine wpAnyH_take (i:=6) (v:=.bool true) rfl (by kernel_rfl) (by kernel_rfl) (by kernel_rfl) (fun _ _ _ h=>h) (.inl ⟨by kernel_rfl,fun W hW=>?_⟩) hS0 ?_
  · go_simp
  refine wpAnyH_take (i:=7) (v:=.bool true) rfl (by kernel_rfl) (by kernel_rfl) (by kernel_rfl) (fun _ _ _ h=>h) (.inl ⟨by kernel_rfl,fun W hW=>?_⟩) hS0 ?_
  · go_simp
  refine wpAnyH_take (i:=8) (v:=.bool true) rfl (by kernel_rfl) (by kernel_rfl) (by kernel_rfl) (fun _ _ _ h=>h) (.inl ⟨by kernel_rfl,fun W hW=>?_⟩) hS0 ?_
  · go_simp
  refine wpAnyH_take (i:=9) (v:=.pointer (some ⟨g,1,none⟩)) rfl (by kernel_rfl) (by kernel_rfl) (by kernel_rfl) (fun _ _ _ h=>h) (.inl ⟨by kernel_rfl,fun W hW=>?_⟩) hS0 ?_
  · go_simp
  refine wpAnyH_take (i:=10) (v:=.int .i64 i) rfl (by kernel_rfl) (by kernel_rfl) (by kernel_rfl) (fun _ _ _ h=>h) (.inl ⟨by kernel_rfl,fun W hW=>?_⟩) hS0 ?_
  · obtain ⟨e0,e1,e2,e3⟩:=HC.out W hW; go_simp
  refine wpAnyH_take (i:=11) (v:=.bool true) rfl (by kernel_rfl) (by kernel_rfl) (by kernel_rfl) (fun _ _ _ h=>h) (.inl ⟨by kernel_rfl,fun W hW=>?_⟩) hS0 ?_
  · go_simp
  refine wpAnyH_take (i:=12) (v:=.bool true) rfl (by kernel_rfl) (by kernel_rfl) (by kernel_rfl) (fun _ _ _ h=>h) (.inl ⟨by kernel_rfl,fun W hW=>?_⟩) hS0 ?_
  · go_simp
  refine wpAnyH_take (i:=13) (v:=.bool true) rfl (by kernel_rfl) (by kernel_rfl) (by kernel_rfl) (fun _ _ _ h=>h) (.inl ⟨by kernel_rfl,fun W hW=>?_⟩) hS0 ?_
  · go_simp
  refine wpAnyH_take (i:=14) (v:=.pointer (some ⟨g,1,none⟩)) rfl (by kernel_rfl) (by kernel_rfl) (by kernel_rfl) (fun _ _ _ h=>h) (.inl ⟨by kernel_rfl,fun W hW=>?_⟩) hS0 ?_
  · go_simp
  refine wpAnyH_take (i:=15) (v:=.int .i64 i) rfl (by kernel_rfl) (by kernel_rfl) (by kernel_rfl) (fun _ _ _ h=>h) (.inl ⟨by kernel_rfl,fun W hW=>?_⟩) hS0 ?_
  · obtain ⟨e0,e1,e2,e3⟩:=HC.out W hW; go_simp
  refine wpAnyH_take (i:=16) (v:=.bool true) rfl (by kernel_rfl) (by kernel_rfl) (by kernel_rfl) (fun _ _ _ h=>h) (.inl ⟨by kernel_rfl,fun W hW=>?_⟩) hS0 ?_
  · go_simp
  refine wpAnyH_take (i:=17) (v:=.bool true) rfl (by kernel_rfl) (by kernel_rfl) (by kernel_rfl) (fun _ _ _ h=>h) (.inl ⟨by kernel_rfl,fun W hW=>?_⟩) hS0 ?_
  · go_simp
  refine wpAnyH_take (i:=18) (v:=.bool true) rfl (by kernel_rfl) (by kernel_rfl) (by kernel_rfl) (fun _ _ _ h=>h) (.inl ⟨by kernel_rfl,fun W hW=>?_⟩) hS0 ?_
  · go_simp
  refine wpAnyH_take (i:=19) (v:=.pointer (some ⟨g,2,none⟩)) rfl (by kernel_rfl) (by kernel_rfl) (by kernel_rfl) (fun _ _ _ h=>h) (.inl ⟨by kernel_rfl,fun W hW=>?_⟩) hS0 ?_
  · go_simp
  refine wpAnyH_take (i:=20) (v:=.int .i64 n) rfl (by kernel_rfl) (by kernel_rfl) (by kernel_rfl) (fun _ _ _ h=>h) (.inl ⟨by kernel_rfl,fun W hW=>?_⟩) hS0 ?_
  · obtain ⟨e0,e1,e2,e3⟩:=HC.out W hW; go_simp
  refine wpAnyH_take (i:=21) (v:=.bool true) rfl (by kernel_rfl) (by kernel_rfl) (by kernel_rfl) (fun _ _ _ h=>h) (.inl ⟨by kernel_rfl,fun W hW=>?_⟩) hS0 ?_
  · go_simp
  refine wpAnyH_take (i:=22) (v:=.bool true) rfl (by kernel_rfl) (by kernel_rfl) (by kernel_rfl) (fun _ _ _ h=>h) (.inl ⟨by kernel_rfl,fun W hW=>?_⟩) hS0 ?_
  · go_simp
  refine wpAnyH_take (i:=23) (v:=.bool true) rfl (by kernel_rfl) (by kernel_rfl) (by kernel_rfl) (fun _ _ _ h=>h) (.inl ⟨by kernel_rfl,fun W hW=>?_⟩) hS0 ?_
  · go_simp
  refine wpAnyH_take (i:=24) (v:=.pointer (some ⟨g,2,none⟩)) rfl (by kernel_rfl) (by kernel_rfl) (by kernel_rfl) (fun _ _ _ h=>h) (.inl ⟨by kernel_rfl,fun W hW=>?_⟩) hS0 ?_
  · go_simp
  refine wpAnyH_take (i:=25) (v:=.int .i64 n) rfl (by kernel_rfl) (by kernel_rfl) (by kernel_rfl) (fun _ _ _ h=>h) (.inl ⟨by kernel_rfl,fun W hW=>?_⟩) hS0 ?_
  · obtain ⟨e0,e1,e2,e3⟩:=HC.out W hW; go_simp
  refine wpAnyH_take (i:=26) (v:=.bool true) rfl (by kernel_rfl) (by kernel_rfl) (by kernel_rfl) (fun _ _ _ h=>h) (.inl ⟨by kernel_rfl,fun W hW=>?_⟩) hS0 ?_
  · go_simp
  refine wpAnyH_take (i:=27) (v:=.bool true) rfl (by kernel_rfl) (by kernel_rfl) (by kernel_rfl) (fun _ _ _ h=>h) (.inl ⟨by kernel_rfl,fun W hW=>?_⟩) hS0 ?_
  · go_simp
  refine wpAnyH_take (i:=28) (v:=.bool true) rfl (by kernel_rfl) (by kernel_rfl) (by kernel_rfl) (fun _ _ _ h=>h) (.inl ⟨by kernel_rfl,fun W hW=>?_⟩) hS0 ?_
  · go_simp
  refine wpAnyH_take (i:=29) (v:=.pointer (some ⟨g,3,none⟩)) rfl (by kernel_rfl) (by kernel_rfl) (by kernel_rfl) (fun _ _ _ h=>h) (.inl ⟨by kernel_rfl,fun W hW=>?_⟩) hS0 ?_
  · go_simp
  refine wpAnyH_take (i:=30) (v:=.string (str t)) rfl (by kernel_rfl) (by kernel_rfl) (by kernel_rfl) (fun _ _ _ h=>h) (.inl ⟨by kernel_rfl,fun W hW=>?_⟩) hS0 ?_
  · obtain ⟨e0,e1,e2,e3⟩:=HC.out W hW; go_simp
  refine wpAnyH_take (i:=31) (v:=.int .i64 (str t).size) rfl (by kernel_rfl) (by kernel_rfl) (by kernel_rfl) (fun _ _ _ h=>h) (.inl ⟨by kernel_rfl,fun W hW=>?_⟩) hS0 ?_
  · go_simp
  refine wpAnyH_take (i:=32) (v:=.bool true) rfl (by kernel_rfl) (by kernel_rfl) (by kernel_rfl) (fun _ _ _ h=>h) (.inl ⟨by kernel_rfl,fun W hW=>?_⟩) hS0 ?_
  · go_simp
  refine wpAnyH_take (i:=33) (v:=.bool true) rfl (by kernel_rfl) (by kernel_rfl) (by kernel_rfl) (fun _ _ _ h=>h) (.inl ⟨by kernel_rfl,fun W hW=>?_⟩) hS0 ?_
  · go_simp
  refine wpAnyH_take (i:=34) (v:=.bool true) rfl (by kernel_rfl) (by kernel_rfl) (by kernel_rfl) (fun _ _ _ h=>h) (.inl ⟨by kernel_rfl,fun W hW=>?_⟩) hS0 ?_
  · go_simp
  refine wpAnyH_take (i:=35) (v:=.agg #[.int .i64 k2,.int .i64 i,.int .i64 n,.string (str t)]) rfl (by kernel_rfl) (by kernel_rfl) (by kernel_rfl) (fun _ _ _ h=>h) (.inl ⟨by kernel_rfl,fun W hW=>?_⟩) hS0 ?_
  · obtain ⟨e0,e1,e2,e3⟩:=HC.out W hW; go_simp
  refine wpAnyH_take (i:=36) (v:=.agg #[.int .i64 k2,.int .i64 i,.int .i64 n,.string (str t)]) rfl (by kernel_rfl) (by kernel_rfl) (by kernel_rfl) (fun _ _ _ h=>h) (.inl ⟨by kernel_rfl,fun W hW=>?_⟩) hS0 ?_
  · obtain ⟨e0,e1,e2,e3⟩:=HC.out W hW; go_simp
  refine wpAnyH_all (rs:=[37]) (by kernel_rfl) (by simp) ?_
  intro z hz
  rw [List.mem_singleton.1 hz]
  clear hz
  unfold wpOp
  go_simp
  refine .inl ((HO1.out _).mono ?_)
  rintro e wa ⟨rfl,hba⟩
  have hba : Below w1.heap.size w1.drew wa:=hba
  have HBa:=Lib.hid (below_back hba)
  have HXa:=Lib.hid (HX.out.go HBa.out hgw)
  clear hba hS0
  go_simp
  have hS0:=HXa.out
  refine ⟨hS0,?_⟩
  have HE:=Lib.hid (Below.trans HB.out (HBa.out.mono (by omega)))
  rcases (show (i≠i2)∨(i = i2∧n≠n2)∨(i = i2∧n = n2∧t≠t2)∨(i = i2∧n = n2∧t = t2) by
    by_cases a : i = i2 <;> by_cases b : n = n2 <;> by_cases c : t = t2 <;> simp [a,b,c]) with hc | ⟨rfl,hc⟩ | ⟨rfl,rfl,hc⟩ | ⟨rfl,rfl,rfl⟩
  · have he : (i == i2) = false:=by simpa using hc
    have hv : R = false:=by rw [HR.out]; simp [hc]
    clear hc HR
    subst hv
    refine wpAnyH_take (i:=38) (v:=.bool false) rfl (by kernel_rfl) (by kernel_rfl) (by kernel_rfl) (fun _ _ _ h=>h) (.inl ⟨by kernel_rfl,fun W hW=>?_⟩) hS0 ?_
    · go_simp
    refine wpAnyH_take (i:=39) (v:=.bool false) rfl (by kernel_rfl) (by kernel_rfl) (by kernel_rfl) (fun _ _ _ h=>h) (.inl ⟨by kernel_rfl,fun W hW=>?_⟩) hS0 ?_
    · go_simp
    refine wpAnyH_take (i:=40) (v:=.bool false) rfl (by kernel_rfl) (by kernel_rfl) (by kernel_rfl) (fun _ _ _ h=>h) (.inl ⟨by kernel_rfl,fun W hW=>?_⟩) hS0 ?_
    · go_simp
    refine wpAnyH_done (by kernel_rfl) ?_ _
    go_wp2
    go_ret
    exact ⟨rfl,by rw [HG.out]; exact HE.out⟩
  · have he : (n == n2) = false:=by simpa using hc
    have hv : R = false:=by rw [HR.out]; simp [hc]
    clear hc HR
    subst hv
    refine wpAnyH_take (i:=38) (v:=.bool false) rfl (by kernel_rfl) (by kernel_rfl) (by kernel_rfl) (fun _ _ _ h=>h) (.inl ⟨by kernel_rfl,fun W hW=>?_⟩) hS0 ?_
    · go_simp
    refine wpAnyH_take (i:=39) (v:=.bool false) rfl (by kernel_rfl) (by kernel_rfl) (by kernel_rfl) (fun _ _ _ h=>h) (.inl ⟨by kernel_rfl,fun W hW=>?_⟩) hS0 ?_
    · go_simp
    refine wpAnyH_take (i:=40) (v:=.bool false) rfl (by kernel_rfl) (by kernel_rfl) (by kernel_rfl) (fun _ _ _ h=>h) (.inl ⟨by kernel_rfl,fun W hW=>?_⟩) hS0 ?_
    · go_simp
    refine wpAnyH_done (by kernel_rfl) ?_ _
    go_wp2
    go_ret
    exact ⟨rfl,by rw [HG.out]; exact HE.out⟩
  · have he : ((str t).toList == (str t2).toList) = false:=str_ne hc
    have hv : R = false:=by rw [HR.out]; simp [hc]
    clear hc HR
    subst hv
    refine wpAnyH_take (i:=38) (v:=.bool false) rfl (by kernel_rfl) (by kernel_rfl) (by kernel_rfl) (fun _ _ _ h=>h) (.inl ⟨by kernel_rfl,fun W hW=>?_⟩) hS0 ?_
    · go_simp
    refine wpAnyH_take (i:=39) (v:=.bool false) rfl (by kernel_rfl) (by kernel_rfl) (by kernel_rfl) (fun _ _ _ h=>h) (.inl ⟨by kernel_rfl,fun W hW=>?_⟩) hS0 ?_
    · go_simp
    refine wpAnyH_take (i:=40) (v:=.bool false) rfl (by kernel_rfl) (by kernel_rfl) (by kernel_rfl) (fun _ _ _ h=>h) (.inl ⟨by kernel_rfl,fun W hW=>?_⟩) hS0 ?_
    · go_simp
    refine wpAnyH_done (by kernel_rfl) ?_ _
    go_wp2
    go_ret
    exact ⟨rfl,by rw [HG.out]; exact HE.out⟩
  · have hv : R = true:=by rw [HR.out]; simp
    clear HR
    subst hv
    refine wpAnyH_take (i:=38) (v:=.bool true) rfl (by kernel_rfl) (by kernel_rfl) (by kernel_rfl) (fun _ _ _ h=>h) (.inl ⟨by kernel_rfl,fun W hW=>?_⟩) hS0 ?_
    · go_simp
    refine wpAnyH_take (i:=39) (v:=.bool true) rfl (by kernel_rfl) (by kernel_rfl) (by kernel_rfl) (fun _ _ _ h=>h) (.inl ⟨by kernel_rfl,fun W hW=>?_⟩) hS0 ?_
    · go_simp
    refine wpAnyH_take (i:=40) (v:=.bool true) rfl (by kernel_rfl) (by kernel_rfl) (by kernel_rfl) (fun _ _ _ h=>h) (.inl ⟨by kernel_rfl,fun W hW=>?_⟩) hS0 ?_
    · go_simp
    refine wpAnyH_done (by kernel_rfl) ?_ _
    go_wp2
    go_ret
    exact ⟨rfl,by rw [HG.out]; exact HE.out⟩
end Go.Proofs.YtdiolacpngbalaaGreatDoor
end

section
namespace Go.Proofs.YtdiolacpngbalaaGreatDoor
open Go.RowKit
open Sc
def tot (L : List Ev) : Nat:=(L.map fun e=>e.t.length).sum
def fewB (L : List Ev) : Bool:=decide (L.length≤120) && decide (tot L≤6000)
theorem tot_snoc (L : List Ev) (k : Nat) (e : Ev) (h : L[k]? = some e) : tot (L.take (k + 1)) = tot (L.take k) + e.t.length:=by
  rw [List.take_add_one,h]
  simp [tot]
theorem tot_le (L : List Ev) (h : ∀ e∈L,e.t.length≤4000) : tot L≤L.length * 4000:=by
  induction L with
  | nil=>simp [tot]
  | cons x L ih =>
    have h1:=ih (fun e he=>h e (by simp [he]))
    have h2:=h x (by simp)
    simp only [tot,List.map_cons,List.sum_cons,List.length_cons] at h1 ⊢
    omega
def FewGives (L : List Ev) (w : World) (r : Ending) (w' : World) : Prop:=
  ∃ b : Bool,r = .returned (.bool b)∧Below w.heap.size w w'∧(b = true→L.length≤120∧((∀ e∈L,rtE e = true)→tot L≤6000))∧((∀ e∈L,e.t.length≤4000)→b = fewB L)
theorem few_not {L : List Ev} {w w' : World} {b : Bool} (hn : b = true→L.length≤120) (ha : ¬ ((∀ e∈L,e.t.length≤4000)∧L.length≤140737488355328)) (hb : Below w.heap.size w w') : FewGives L w (.returned (.bool b)) w':=
  ⟨b,rfl,hb,fun h=>⟨hn h,fun k=>absurd ⟨fun e he=>(rtE_in (k e he)).2.2.2.2.2.2,Nat.le_trans (hn h) (by omega)⟩ ha⟩,fun h=>by
    have h2 : ¬ L.length≤120:=fun k=>ha ⟨h,by omega⟩
    have h3 : fewB L = false:=by simp [fewB,h2]
    rw [h3]
    cases b
    · rfl
    · exact absurd (hn rfl) h2⟩
theorem few_is {L : List Ev} {w w' : World} {b : Bool} (hn : b = fewB L) (hb : Below w.heap.size w w') : FewGives L w (.returned (.bool b)) w':=
  ⟨b,rfl,hb,fun h=>by
    rw [hn] at h
    simp only [fewB,Bool.and_eq_true,decide_eq_true_eq] at h
    exact ⟨h.1,fun _=>h.2⟩,fun _=>hn⟩
theorem few_any (A : Option Addr) (n cap : Nat) (L : List Ev) (w : World) (hl : EvIn w w.heap.size A L) (hn : L.length = n) (hm : n≤9223372036854775807) :
    Calls Tryz.prog 5 #[.slice A n cap] w (FewGives L w):=by
  have HL:=Lib.hid hl
  have HN:=Lib.hid hn
  have HB:=Lib.hid (Below.refl w.heap.size w)
  clear hl hn
  obtain ⟨g,hg⟩ : ∃ g,w.heap.size = g:=⟨_,rfl⟩
  rw [hg] at HL HB
  have HG:=Lib.hid hg
  clear hg
  by_cases hall : (∀ e∈L,e.t.length≤4000)∧L.length≤140737488355328
  · have HAll:=Lib.hid hall.1
    have hm:=(show n≤140737488355328 by rw [← HN.out]; exact hall.2)
    clear hall
    go_enter Tryz.func5,Tryz.ntmps5
    go_wp2_with fail
    go_loopw [3,8] (fun s i wr=>∃ (k v : Nat),k≤n∧i = .int .i64 (k : Nat)∧s = .int .i64 (v : Nat)∧Hid (v = tot (L.take k))∧Below g w wr) (fun _ i _=>n - (intOf i).toNat)
    case atStart=>exact ⟨0,0,by omega,rfl,rfl,Lib.hid rfl,HB.out⟩
    case round =>
      obtain ⟨k,v,hk,rfl,rfl,HV,hb⟩:=hrel
      have HBk:=Lib.hid hb
      have hgw:=hb.size
      rw [HG.out] at hgw
      clear hb HB
      have hv3 : v≤562949953421312000:=by
        have h1:=tot_le (L.take k) (fun e he=>HAll.out e (List.mem_of_mem_take he))
        have h2 : (L.take k).length≤140737488355328:=by simp; omega
        have:=HV.out
        omega
      by_cases hlt : k < n
      · obtain ⟨x,hx⟩ : ∃ x,L[k]? = some x:=⟨_,List.getElem?_eq_getElem (by have:=HN.out; omega)⟩
        obtain ⟨bb,off,rfl,hbB,hc⟩:=(HL.out.below HBk.out).outer (by have:=HN.out; omega)
        obtain ⟨hc0,hc1,hc2,hc3⟩:=hc k x hx
        have HT:=Lib.hid (tot_snoc L k x hx)
        have HSz:=Lib.hid (str_size x.t)
        have hs2 : (str x.t).size≤4000:=by rw [str_size]; exact HAll.out x (List.mem_of_getElem? hx)
        clear hc hx
        have HE:=Lib.hid (Bx.new wr wr.heap.size rfl #[.int .i64 x.k,.int .i64 x.i,.int .i64 x.n,.string (str x.t)] 39)
        have HBe:=Lib.hid (HBk.out.alloc (by omega) (.cells #[.int .i64 x.k,.int .i64 x.i,.int .i64 x.n,.string (str x.t)] 39))
        go_upto_region 5 with fail
        generalize wr.alloc _ = w5 at *
        clear hc0 hc1 hc2 hc3
        obtain ⟨m0,m1,m2,m3⟩:=HE.out.ev
        go_wp2_with fail
        go_roundw
        case rel=>exact ⟨k + 1,v + (str x.t).size,by omega,by go_num,by go_num,Lib.hid (by rw [HT.out,HV.out,HSz.out]),HBe.out⟩
        case measure=>simp [intOf]; omega
      · obtain rfl : k = n:=by omega
        have hv2:=HV.out
        rw [List.take_of_length_le (by rw [HN.out]; omega)] at hv2
        have HV2:=Lib.hid hv2
        clear hv2
        have HF:=Lib.hid (show fewB L = (decide (k≤120) && decide (v≤6000)) by rw [HV2.out,← HN.out]; rfl)
        by_cases h120 : k≤120
        · have hd : decide ((k : Int)≤120) = true:=by simp; omega
          by_cases h6 : v≤6000
          · have hd2 : decide ((v : Int)≤6000) = true:=by simp; omega
            go_wp2
            go_ret
            exact few_is (by rw [HF.out]; simp; omega) (by rw [HG.out]; exact HBk.out)
          · have hd2 : decide ((v : Int)≤6000) = false:=by simp; omega
            go_wp2
            go_ret
            exact few_is (by rw [HF.out]; simp; omega) (by rw [HG.out]; exact HBk.out)
        · have hd : decide ((k : Int)≤120) = false:=by simp; omega
          go_wp2
          go_ret
          exact few_is (by rw [HF.out]; simp; omega) (by rw [HG.out]; exact HBk.out)
  · have HAll:=Lib.hid hall
    clear hall
    go_enter Tryz.func5,Tryz.ntmps5
    go_wp2_with fail
    go_loopw [3,8] (fun s i wr=>∃ (k : Nat) (v : Int),k≤n∧i = .int .i64 (k : Nat)∧s = .int .i64 v∧Below g w wr) (fun _ i _=>n - (intOf i).toNat)
    case atStart=>exact ⟨0,0,by omega,rfl,rfl,HB.out⟩
    case round =>
      obtain ⟨k,v,hk,rfl,rfl,hb⟩:=hrel
      have HBk:=Lib.hid hb
      have hgw:=hb.size
      rw [HG.out] at hgw
      clear hb HB
      by_cases hlt : k < n
      · obtain ⟨x,hx⟩ : ∃ x,L[k]? = some x:=⟨_,List.getElem?_eq_getElem (by have:=HN.out; omega)⟩
        obtain ⟨bb,off,rfl,hbB,hc⟩:=(HL.out.below HBk.out).outer (by have:=HN.out; omega)
        obtain ⟨hc0,hc1,hc2,hc3⟩:=hc k x hx
        clear hc hx
        have HE:=Lib.hid (Bx.new wr wr.heap.size rfl #[.int .i64 x.k,.int .i64 x.i,.int .i64 x.n,.string (str x.t)] 39)
        have HBe:=Lib.hid (HBk.out.alloc (by omega) (.cells #[.int .i64 x.k,.int .i64 x.i,.int .i64 x.n,.string (str x.t)] 39))
        go_upto_region 5 with fail
        generalize wr.alloc _ = w5 at *
        clear hc0 hc1 hc2 hc3
        obtain ⟨m0,m1,m2,m3⟩:=HE.out.ev
        go_wp2_with fail
        go_roundw
        case rel=>exact ⟨k + 1,_,by omega,by go_num,rfl,HBe.out⟩
        case measure=>simp [intOf]; omega
      · obtain rfl : k = n:=by omega
        by_cases h120 : k≤120
        · have hd : decide ((k : Int)≤120) = true:=by simp; omega
          obtain ⟨q,hq⟩ : ∃ q,decide (v≤6000) = q:=⟨_,rfl⟩
          cases q
          all_goals
            go_wp2
            go_ret
            exact few_not (fun _=>by rw [HN.out]; exact h120) HAll.out (by rw [HG.out]; exact HBk.out)
        · have hd : decide ((k : Int)≤120) = false:=by simp; omega
          go_wp2
          go_ret
          exact few_not (fun h=>by cases h) HAll.out (by rw [HG.out]; exact HBk.out)
end Go.Proofs.YtdiolacpngbalaaGreatDoor
end
