/- What law 13's Right answers of a conf. -/
import Derived.Deep.DeepCutAuto
import Derived.Test.YtjmdddhbdofppaaGreatDoorZi05
import Derived.Test.YtjmdddhbdofppaaGreatDoorZi09
namespace Go.Proofs.YtjmdddhbdofppaaGreatDoor
open Go.RowKit
def rowv (a b c d e f g h : Int) : Nat→Int×Int×Int
  | 0=>(a,1,65536) | 1=>(b,1,2042) | 2=>(c,220,65536) | 3=>(d,1,65536)
  | 4=>(e,0,9) | 5=>(f,1,1000) | 6=>(g,0,1000) | _=>(h,1,500)
def rowb (t : Int×Int×Int) : Bool:=bw t.2.1 t.2.2 t.1
def rests (a b c d e f g h : Int) (k : Nat) : Bool:=((List.range' k (8 - k)).map fun i=>rowb (rowv a b c d e f g h i)).all id
theorem rests_zero (a b c d e f g h : Int) : rt a b c d e f g h = rests a b c d e f g h 0:=by simp [rt,rests,rowb,rowv,List.range']
theorem rests_step (a b c d e f g h : Int) (k : Nat) (hk : k < 8) : rests a b c d e f g h k = (rowb (rowv a b c d e f g h k) && rests a b c d e f g h (k + 1)):=by
  unfold rests
  rw [show 8 - k = (8 - (k + 1)) + 1 by omega,List.range'_succ]
  simp
def tab (a b c d e f g h : Int) : Array Value:=#[.int .i64 a,.int .i64 1,.int .i64 65536,.int .i64 b,.int .i64 1,.int .i64 2042,.int .i64 c,.int .i64 220,.int .i64 65536,.int .i64 d,.int .i64 1,.int .i64 65536,.int .i64 e,.int .i64 0,.int .i64 9,.int .i64 f,.int .i64 1,.int .i64 1000,.int .i64 g,.int .i64 0,.int .i64 1000,.int .i64 h,.int .i64 1,.int .i64 500]
theorem tab_at (a b c d e f g h : Int) (k : Nat) (hk : k < 8) : (tab a b c d e f g h)[k * 3]? = some (.int .i64 (rowv a b c d e f g h k).1)∧(tab a b c d e f g h)[k * 3 + 1]? = some (.int .i64 (rowv a b c d e f g h k).2.1)∧(tab a b c d e f g h)[k * 3 + 2]? = some (.int .i64 (rowv a b c d e f g h k).2.2):=by
  rcases (show k = 0∨k = 1∨k = 2∨k = 3∨k = 4∨k = 5∨k = 6∨k = 7 by omega) with rfl | rfl | rfl | rfl | rfl | rfl | rfl | rfl <;> exact ⟨rfl,rfl,rfl⟩
theorem lright_any (a b c d e f g h : Int) (w : World) : Calls Tryz.prog 22 #[.agg (cv a b c d e f g h)] w fun r w'=>r = .returned (.bool (rt a b c d e f g h))∧Below w.heap.size w w':=by
  have HR:=Lib.hid (rests_zero a b c d e f g h)
  have HT:=Lib.hid (Bx.new (w.alloc (.cells (cv a b c d e f g h) 23)) (w.heap.size + 1) (by simp) (tab a b c d e f g h) 120)
  have hB:=fun (u : Value)=>((Below.refl w.heap.size w).alloc (Nat.le_refl _) (.cells (cv a b c d e f g h) 23)).alloc (by simp) (.cells (tab a b c d e f g h) 120)
  have HB:=Lib.hid hB
  clear hB
  unfold tab at HT HB
  unfold cv at HT HB ⊢
  go_enter Tryz.func22,Tryz.ntmps22
  go_wp2
  replace HB:=Lib.hid (HB.out (.bool true))
  have HS : Hid (w.heap.size + 2≤((w.alloc (.cells #[.int .i64 a,.int .i64 b,.int .i64 c,.int .i64 d,.int .i64 e,.int .i64 f,.int .i64 g,.int .i64 h] 23)).alloc (.cells #[.int .i64 a,.int .i64 1,.int .i64 65536,.int .i64 b,.int .i64 1,.int .i64 2042,.int .i64 c,.int .i64 220,.int .i64 65536,.int .i64 d,.int .i64 1,.int .i64 65536,.int .i64 e,.int .i64 0,.int .i64 9,.int .i64 f,.int .i64 1,.int .i64 1000,.int .i64 g,.int .i64 0,.int .i64 1000,.int .i64 h,.int .i64 1,.int .i64 500] 120)).heap.size):=Lib.hid (by simp)
  generalize ((w.alloc _).alloc _) = w1 at *
  go_loopw [33] (fun i wr=>∃ k : Nat,k≤8∧i = .int .i64 k∧Hid (Bx (w.heap.size + 1) wr (tab a b c d e f g h))∧Hid (Below w.heap.size w wr)∧Hid (w.heap.size + 2≤wr.heap.size)∧Hid (rt a b c d e f g h = rests a b c d e f g h k)) (fun i _=>8 - (intOf i).toNat)
  case atStart=>exact ⟨0,by omega,rfl,HT,HB,HS,HR⟩
  case round =>
    obtain ⟨k,hk,rfl,HTk,HBk,HSk,HRk⟩:=hrel
    clear HT HB HS HR
    by_cases hlt : k < 8
    · obtain ⟨c0,c1,c2⟩:=tab_at a b c d e f g h k hlt
      have hs:=rests_step a b c d e f g h k hlt
      have HRn : Hid (rowb (rowv a b c d e f g h k) = true→rt a b c d e f g h = rests a b c d e f g h (k + 1)):=Lib.hid fun hr=>by rw [HRk.out,hs,hr,Bool.true_and]
      have HRf : Hid (rowb (rowv a b c d e f g h k) = false→rt a b c d e f g h = false):=Lib.hid fun hr=>by rw [HRk.out,hs,hr,Bool.false_and]
      have l0:=HTk.out.cell _ _ c0
      have l1:=HTk.out.cell _ _ c1
      have l2:=HTk.out.cell _ _ c2
      clear c0 c1 c2 hs HRk
      unfold rowb bw at HRn HRf
      generalize rowv a b c d e f g h k = x at *
      obtain ⟨X,LO,HI⟩:=x
      have hd : decide ((k : Int) < 8) = true:=by simp; omega
      have HT2:=Lib.hid fun (u : Obj)=>HTk.out.go ((Below.refl _ wr).alloc (Nat.le_refl _) u) (by have:=HSk.out; omega)
      have HB2:=Lib.hid fun (u : Obj)=>HBk.out.alloc (by have:=HSk.out; omega) u
      have HS2 : Hid (∀ u : Obj,w.heap.size + 2≤(wr.alloc u).heap.size):=Lib.hid fun u=>by have:=HSk.out; simp; omega
      clear HTk HBk HSk
      by_cases h1 : X < LO
      · have g1 : decide (X < LO) = true:=by simpa using h1
        go_wp2
        go_ret
        exact ⟨by rw [HRf.out (by simp; omega)]; rfl,HB2.out _⟩
      by_cases h2 : X > HI
      · have g1 : decide (X < LO) = false:=by simpa using h1
        have g2 : decide (X > HI) = true:=by simpa using h2
        go_wp2
        go_ret
        exact ⟨by rw [HRf.out (by simp; omega)]; rfl,HB2.out _⟩
      have g1 : decide (X < LO) = false:=by simpa using h1
      have g2 : decide (X > HI) = false:=by simpa using h2
      go_wp2
      exact ⟨⟨k + 1,by omega,by simp,Lib.hid (HT2.out _),Lib.hid (HB2.out _),Lib.hid (HS2.out _),Lib.hid (HRn.out (by simp; omega))⟩,by simp [intOf]; omega⟩
    · have hd : decide ((k : Int) < 8) = false:=by simp; omega
      obtain rfl : k = 8:=by omega
      go_wp2
      go_ret
      exact ⟨by rw [HRk.out]; rfl,HBk.out⟩
end Go.Proofs.YtjmdddhbdofppaaGreatDoor
