/- PFm -/
import Derived.WalkLawsBesides
import Derived.Test.YtdpagmcickkbmaaGreatDoorZd03
namespace Go.Proofs.YtdpagmcickkbmaaGreatDoor
set_option maxRecDepth 100000
section
open Ieee
theorem fl_zero:floatOfInt .f64 0=0:=by decide
theorem fl_one:floatOfInt .f64 1=4607182418800017408:=by decide
theorem rep_zero:Rep 0 0:=by
 have h:=rep_floatOfInt 0 (by decide)
 rwa [fl_zero] at h
theorem rep_one:Rep 4607182418800017408 1:=by
 have h:=rep_floatOfInt 1 (by decide)
 rwa [fl_one] at h
theorem rep_max {P:Program} {x y:Nat} {n m:Int} (hx:Rep x n) (hy:Rep y m) :
  ∃ r,(∀ (ts:Array TypeId) (t:TypeId) (w:World),(Builtin.max_ ts t #[.float .f64 x,.float .f64 y]).run P w = .ok (.float .f64 r) w)∧Rep r (max n m):=by
 have ho:=rep_order hx hy;have ho':FloatKind.f64.format.order x y=some (compare n m):=ho
 rcases Int.lt_trichotomy n m with h | h | h
 ·rw [Int.compare_eq_lt.2 h] at ho'
  refine ⟨y,fun ts t w=>?_,?_⟩
  ·simp [Builtin.max_,Builtin.max2,ho']
  ·rw [Int.max_eq_right (by omega)]; exact hy
 ·subst h
  rw [Int.compare_eq_eq.2 rfl] at ho';rw [Int.max_self];cases hneg:(FloatKind.f64.decode x).neg
  ·exact ⟨x,fun ts t w=>by simp [Builtin.max_,Builtin.max2,ho',hneg],hx⟩
  ·exact ⟨y,fun ts t w=>by simp [Builtin.max_,Builtin.max2,ho',hneg],hy⟩
 ·rw [Int.compare_eq_gt.2 h] at ho'
  refine ⟨x,fun ts t w=>?_,?_⟩
  ·simp [Builtin.max_,Builtin.max2,ho']
  ·rw [Int.max_eq_left (by omega)]; exact hx
theorem rep_min {P:Program} {x y:Nat} {n m:Int} (hx:Rep x n) (hy:Rep y m) :
  ∃ r,(∀ (ts:Array TypeId) (t:TypeId) (w:World),(Builtin.min_ ts t #[.float .f64 x,.float .f64 y]).run P w = .ok (.float .f64 r) w)∧Rep r (min n m):=by
 have ho:=rep_order hx hy;have ho':FloatKind.f64.format.order x y=some (compare n m):=ho
 rcases Int.lt_trichotomy n m with h | h | h
 ·rw [Int.compare_eq_lt.2 h] at ho'
  refine ⟨x,fun ts t w=>?_,?_⟩
  ·simp [Builtin.min_,Builtin.min2,ho']
  ·rw [Int.min_eq_left (by omega)]; exact hx
 ·subst h
  rw [Int.compare_eq_eq.2 rfl] at ho';rw [Int.min_self];cases hneg:(FloatKind.f64.decode x).neg
  ·exact ⟨y,fun ts t w=>by simp [Builtin.min_,Builtin.min2,ho',hneg],hy⟩
  ·exact ⟨x,fun ts t w=>by simp [Builtin.min_,Builtin.min2,ho',hneg],hx⟩
 ·rw [Int.compare_eq_gt.2 h] at ho'
  refine ⟨y,fun ts t w=>?_,?_⟩
  ·simp [Builtin.min_,Builtin.min2,ho']
  ·rw [Int.min_eq_right (by omega)]; exact hy
def ox:Nat→Int
 | 0=>1
 | 2=>-1
 | _=>0
def oy:Nat→Int
 | 1=>1
 | 3=>-1
 | _=>0
theorem wayfar:∃ A B:Nat→Nat,A 0=4607182418800017408∧B 0=0∧(∀ i,i≤3→RepC (A i) (B i) (ox i) (oy i))∧∀ i,i<3→cMulBits (A i) (B i) 0 4607182418800017408=some (A (i+1),B (i+1)):=by
 have hi:RepC 0 4607182418800017408 0 1:=⟨rep_zero,rep_one⟩;have h0:RepC 4607182418800017408 0 1 0:=⟨rep_one,rep_zero⟩;obtain ⟨a1,b1,e1,h1⟩:=repC_mul h0 hi (by decide) (by decide) (by decide) (by decide) (by decide) (by decide);obtain ⟨a2,b2,e2,h2⟩:=repC_mul h1 hi (by decide) (by decide) (by decide) (by decide) (by decide) (by decide);obtain ⟨a3,b3,e3,h3⟩:=repC_mul h2 hi (by decide) (by decide) (by decide) (by decide) (by decide) (by decide);refine ⟨fun i=>if i=0 then 4607182418800017408 else if i=1 then a1 else if i=2 then a2 else a3,fun i=>if i=0 then 0 else if i=1 then b1 else if i=2 then b2 else b3,rfl,rfl,?_,?_⟩
 ·intro i hi
  rcases (show i=0∨i=1∨i=2∨i=3 by omega) with rfl | rfl | rfl | rfl
  ·exact h0
  ·exact h1
  ·exact h2
  ·exact h3
 ·intro i hi
  rcases (show i=0∨i=1∨i=2 by omega) with rfl | rfl | rfl
  ·exact e1
  ·exact e2
  ·exact e3
end
end Go.Proofs.YtdpagmcickkbmaaGreatDoor
