/- PCf -/
import Derived.Test.YtecjpkjbgknnnaaGreatDoorZd08
namespace Go.Proofs.YtecjpkjbgknnnaaGreatDoor
set_option maxRecDepth 100000
open Go.Lib renaming hid → lj
section
open Go.RowKit
def bw (lo hi x:Int):Bool:=decide (lo≤x) && decide (x≤hi)
theorem within_any (x lo hi:Int) (w:World):Calls Tryz.prog 42 #[.int .i64 x,.int .i64 lo,.int .i64 hi] w fun e w'=>e = .returned (.bool (bw lo hi x))∧w'=w:=by
 unfold bw
 rcases Bool.eq_false_or_eq_true (decide (lo≤x)) with h1 | h1
 ·go_enter Tryz.func42,Tryz.ntmps42
  go_wp2;go_ret;simp [h1]
 ·go_enter Tryz.func42,Tryz.ntmps42
  go_wp2;go_ret;simp [h1]
def cv (a b c d e f g h:Int):Array Value:=#[.int .i64 a,.int .i64 b,.int .i64 c,.int .i64 d,.int .i64 e,.int .i64 f,.int .i64 g,.int .i64 h]
def rt (a b c d e f g h:Int):Bool:=bw 1 65536 a && (bw 1 2042 b && (bw 220 65536 c && (bw 1 65536 d && (bw 0 9 e && (bw 1 1000 f && (bw 0 1000 g && bw 1 500 h))))))
theorem cright_any (a b c d e f g h:Int) (w:World):Calls Tryz.prog 27 #[.agg (cv a b c d e f g h)] w fun r w'=>r = .returned (.bool (rt a b c d e f g h))∧Below w.heap.size w w':=by
 have hb:=fun (u:Value)=>(Below.refl w.heap.size w).alloc (Nat.le_refl _) (.cells (cv a b c d e f g h) 38)
 unfold cv at hb ⊢;have HB:=lj hb;clear hb
 by_cases hx:bw 1 65536 a=false
 ·have h0:=hx
  go_enter Tryz.func27,Tryz.ntmps27
  go_wp2_with fail
  refine (within_any _ _ _ _).mono ?_;rintro _ _ ⟨rfl,rfl⟩;rw [h0];go_wp2;go_ret;exact ⟨by simp [rt,h0],HB.out (.bool true)⟩
 have h0:bw 1 65536 a=true:=by simpa using hx
 clear hx
 by_cases hx:bw 1 2042 b=false
 ·have h1:=hx
  go_enter Tryz.func27,Tryz.ntmps27
  go_wp2_with fail
  refine (within_any _ _ _ _).mono ?_;rintro _ _ ⟨rfl,rfl⟩;rw [h0]
  go_wp2_with fail
  refine (within_any _ _ _ _).mono ?_;rintro _ _ ⟨rfl,rfl⟩;rw [h1];go_wp2;go_ret;exact ⟨by simp [rt,h0,h1],HB.out (.bool true)⟩
 have h1:bw 1 2042 b=true:=by simpa using hx
 clear hx
 by_cases hx:bw 220 65536 c=false
 ·have h2:=hx
  go_enter Tryz.func27,Tryz.ntmps27
  go_wp2_with fail
  refine (within_any _ _ _ _).mono ?_;rintro _ _ ⟨rfl,rfl⟩;rw [h0]
  go_wp2_with fail
  refine (within_any _ _ _ _).mono ?_;rintro _ _ ⟨rfl,rfl⟩;rw [h1]
  go_wp2_with fail
  refine (within_any _ _ _ _).mono ?_;rintro _ _ ⟨rfl,rfl⟩;rw [h2];go_wp2;go_ret;exact ⟨by simp [rt,h0,h1,h2],HB.out (.bool true)⟩
 have h2:bw 220 65536 c=true:=by simpa using hx
 clear hx
 by_cases hx:bw 1 65536 d=false
 ·have h3:=hx
  go_enter Tryz.func27,Tryz.ntmps27
  go_wp2_with fail
  refine (within_any _ _ _ _).mono ?_;rintro _ _ ⟨rfl,rfl⟩;rw [h0]
  go_wp2_with fail
  refine (within_any _ _ _ _).mono ?_;rintro _ _ ⟨rfl,rfl⟩;rw [h1]
  go_wp2_with fail
  refine (within_any _ _ _ _).mono ?_;rintro _ _ ⟨rfl,rfl⟩;rw [h2]
  go_wp2_with fail
  refine (within_any _ _ _ _).mono ?_;rintro _ _ ⟨rfl,rfl⟩;rw [h3];go_wp2;go_ret;exact ⟨by simp [rt,h0,h1,h2,h3],HB.out (.bool true)⟩
 have h3:bw 1 65536 d=true:=by simpa using hx
 clear hx
 by_cases hx:bw 0 9 e=false
 ·have h4:=hx
  go_enter Tryz.func27,Tryz.ntmps27
  go_wp2_with fail
  refine (within_any _ _ _ _).mono ?_;rintro _ _ ⟨rfl,rfl⟩;rw [h0]
  go_wp2_with fail
  refine (within_any _ _ _ _).mono ?_;rintro _ _ ⟨rfl,rfl⟩;rw [h1]
  go_wp2_with fail
  refine (within_any _ _ _ _).mono ?_;rintro _ _ ⟨rfl,rfl⟩;rw [h2]
  go_wp2_with fail
  refine (within_any _ _ _ _).mono ?_;rintro _ _ ⟨rfl,rfl⟩;rw [h3]
  go_wp2_with fail
  refine (within_any _ _ _ _).mono ?_;rintro _ _ ⟨rfl,rfl⟩;rw [h4];go_wp2;go_ret;exact ⟨by simp [rt,h0,h1,h2,h3,h4],HB.out (.bool true)⟩
 have h4:bw 0 9 e=true:=by simpa using hx
 clear hx
 by_cases hx:bw 1 1000 f=false
 ·have h5:=hx
  go_enter Tryz.func27,Tryz.ntmps27
  go_wp2_with fail
  refine (within_any _ _ _ _).mono ?_;rintro _ _ ⟨rfl,rfl⟩;rw [h0]
  go_wp2_with fail
  refine (within_any _ _ _ _).mono ?_;rintro _ _ ⟨rfl,rfl⟩;rw [h1]
  go_wp2_with fail
  refine (within_any _ _ _ _).mono ?_;rintro _ _ ⟨rfl,rfl⟩;rw [h2]
  go_wp2_with fail
  refine (within_any _ _ _ _).mono ?_;rintro _ _ ⟨rfl,rfl⟩;rw [h3]
  go_wp2_with fail
  refine (within_any _ _ _ _).mono ?_;rintro _ _ ⟨rfl,rfl⟩;rw [h4]
  go_wp2_with fail
  refine (within_any _ _ _ _).mono ?_;rintro _ _ ⟨rfl,rfl⟩;rw [h5];go_wp2;go_ret;exact ⟨by simp [rt,h0,h1,h2,h3,h4,h5],HB.out (.bool true)⟩
 have h5:bw 1 1000 f=true:=by simpa using hx
 clear hx
 by_cases hx:bw 0 1000 g=false
 ·have h6:=hx
  go_enter Tryz.func27,Tryz.ntmps27
  go_wp2_with fail
  refine (within_any _ _ _ _).mono ?_;rintro _ _ ⟨rfl,rfl⟩;rw [h0]
  go_wp2_with fail
  refine (within_any _ _ _ _).mono ?_;rintro _ _ ⟨rfl,rfl⟩;rw [h1]
  go_wp2_with fail
  refine (within_any _ _ _ _).mono ?_;rintro _ _ ⟨rfl,rfl⟩;rw [h2]
  go_wp2_with fail
  refine (within_any _ _ _ _).mono ?_;rintro _ _ ⟨rfl,rfl⟩;rw [h3]
  go_wp2_with fail
  refine (within_any _ _ _ _).mono ?_;rintro _ _ ⟨rfl,rfl⟩;rw [h4]
  go_wp2_with fail
  refine (within_any _ _ _ _).mono ?_;rintro _ _ ⟨rfl,rfl⟩;rw [h5]
  go_wp2_with fail
  refine (within_any _ _ _ _).mono ?_;rintro _ _ ⟨rfl,rfl⟩;rw [h6];go_wp2;go_ret;exact ⟨by simp [rt,h0,h1,h2,h3,h4,h5,h6],HB.out (.bool true)⟩
 have h6:bw 0 1000 g=true:=by simpa using hx
 clear hx
 by_cases hx:bw 1 500 h=false
 ·have h7:=hx
  go_enter Tryz.func27,Tryz.ntmps27
  go_wp2_with fail
  refine (within_any _ _ _ _).mono ?_;rintro _ _ ⟨rfl,rfl⟩;rw [h0]
  go_wp2_with fail
  refine (within_any _ _ _ _).mono ?_;rintro _ _ ⟨rfl,rfl⟩;rw [h1]
  go_wp2_with fail
  refine (within_any _ _ _ _).mono ?_;rintro _ _ ⟨rfl,rfl⟩;rw [h2]
  go_wp2_with fail
  refine (within_any _ _ _ _).mono ?_;rintro _ _ ⟨rfl,rfl⟩;rw [h3]
  go_wp2_with fail
  refine (within_any _ _ _ _).mono ?_;rintro _ _ ⟨rfl,rfl⟩;rw [h4]
  go_wp2_with fail
  refine (within_any _ _ _ _).mono ?_;rintro _ _ ⟨rfl,rfl⟩;rw [h5]
  go_wp2_with fail
  refine (within_any _ _ _ _).mono ?_;rintro _ _ ⟨rfl,rfl⟩;rw [h6]
  go_wp2_with fail
  refine (within_any _ _ _ _).mono ?_;rintro _ _ ⟨rfl,rfl⟩;rw [h7];go_wp2;go_ret;exact ⟨by simp [rt,h0,h1,h2,h3,h4,h5,h6,h7],HB.out (.bool true)⟩
 have h7:bw 1 500 h=true:=by simpa using hx
 clear hx
 go_enter Tryz.func27,Tryz.ntmps27
 go_wp2_with fail
 refine (within_any _ _ _ _).mono ?_;rintro _ _ ⟨rfl,rfl⟩;rw [h0]
 go_wp2_with fail
 refine (within_any _ _ _ _).mono ?_;rintro _ _ ⟨rfl,rfl⟩;rw [h1]
 go_wp2_with fail
 refine (within_any _ _ _ _).mono ?_;rintro _ _ ⟨rfl,rfl⟩;rw [h2]
 go_wp2_with fail
 refine (within_any _ _ _ _).mono ?_;rintro _ _ ⟨rfl,rfl⟩;rw [h3]
 go_wp2_with fail
 refine (within_any _ _ _ _).mono ?_;rintro _ _ ⟨rfl,rfl⟩;rw [h4]
 go_wp2_with fail
 refine (within_any _ _ _ _).mono ?_;rintro _ _ ⟨rfl,rfl⟩;rw [h5]
 go_wp2_with fail
 refine (within_any _ _ _ _).mono ?_;rintro _ _ ⟨rfl,rfl⟩;rw [h6]
 go_wp2_with fail
 refine (within_any _ _ _ _).mono ?_;rintro _ _ ⟨rfl,rfl⟩;rw [h7];go_wp2;go_ret;exact ⟨by simp [rt,h0,h1,h2,h3,h4,h5,h6,h7],HB.out (.bool true)⟩
end
end Go.Proofs.YtecjpkjbgknnnaaGreatDoor
