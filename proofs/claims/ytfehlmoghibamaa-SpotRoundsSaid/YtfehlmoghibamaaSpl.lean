/- What the law's own Byte of layer 7 does. (Written by wip/tools/mkspl.py.) -/
import Derived.Test.YtfehlmoghibamaaBase
import Derived.Test.YtfehlmoghibamaaBx
import Derived.Test.YtfehlmoghibamaaSp
import Derived.Deep.QuietTactic
import Derived.BigQuiet
import Derived.Deep.DeepCutAuto
import Derived.Deep.LoopGhost
namespace Go.Proofs.Ytfehlmoghibamaa
open Go.RowKit
open Sp

/-- a model in memory -/
def MV (s : Sp) : Array Value := #[.int .i64 s.w, .int .i64 s.c, .int .i64 s.r, .int .i64 s.q]

/-- what Byte ends with -/
def ByteGives (g : Nat) (w : World) (s : Sp) (e : Ending) (w' : World) : Prop :=
  e = .returned (.tuple #[]) ∧ Only (fun b => b = g) w w' ∧ Bx g w' (MV s)

set_option maxRecDepth 100000 in
theorem byte_1a (g : Nat) (W c r : Int) (b : Nat) (w : World) (hx : Bx g w (MV ⟨W, c, r, 1⟩)) (w0 : 1 ≤ W) (w1 : W ≤ 500) (c0 : 0 ≤ c) (c1 : c < W) (r0 : 0 ≤ r) (r1 : r ≤ 1000000000) (h8 : b < 256) (hb : b = 91) :
    Calls Try.prog 12 #[.pointer (some ⟨g, 0, none⟩), .int .u8 b] w (ByteGives g w ⟨W, c, r, 2⟩) := by
  have d0 : w.cell? ⟨g, 0, none⟩ = some (.int .i64 W) := hx.cell 0 _ rfl
  have d1 : w.cell? ⟨g, 1, none⟩ = some (.int .i64 c) := hx.cell 1 _ rfl
  have d2 : w.cell? ⟨g, 2, none⟩ = some (.int .i64 r) := hx.cell 2 _ rfl
  have d3 : w.cell? ⟨g, 3, none⟩ = some (.int .i64 1) := hx.cell 3 _ rfl
  have f0 := hx.free 0
  have f1 := hx.free 1
  have f2 := hx.free 2
  have f3 := hx.free 3
  have HX := Lib.hid hx
  have HB := Lib.hid (And.intro h8 (And.intro c0 (And.intro r0 (And.intro w1 (And.intro c1 (And.intro w0 r1))))))
  clear hx
  have Rhb := Lib.hid hb
  subst hb
  go_enter Try.func12, Try.ntmps12
  go_wp2
  exact bodyPost_ret (v := .tuple #[]) (by simp [results, Try.results12, go_sem]) rfl ⟨rfl, ((Only.refl (fun b => b = g) w).setCell (p := ⟨g, 3, none⟩) rfl _).setCell (p := ⟨g, 3, none⟩) rfl _, ((HX.out).set 3 _).set 3 _⟩

set_option maxRecDepth 100000 in
theorem byte_1b (g : Nat) (W c r : Int) (b : Nat) (w : World) (hx : Bx g w (MV ⟨W, c, r, 1⟩)) (w0 : 1 ≤ W) (w1 : W ≤ 500) (c0 : 0 ≤ c) (c1 : c < W) (r0 : 0 ≤ r) (r1 : r ≤ 1000000000) (h8 : b < 256) (hb : b ≠ 91) :
    Calls Try.prog 12 #[.pointer (some ⟨g, 0, none⟩), .int .u8 b] w (ByteGives g w ⟨W, c, r, 0⟩) := by
  have d0 : w.cell? ⟨g, 0, none⟩ = some (.int .i64 W) := hx.cell 0 _ rfl
  have d1 : w.cell? ⟨g, 1, none⟩ = some (.int .i64 c) := hx.cell 1 _ rfl
  have d2 : w.cell? ⟨g, 2, none⟩ = some (.int .i64 r) := hx.cell 2 _ rfl
  have d3 : w.cell? ⟨g, 3, none⟩ = some (.int .i64 1) := hx.cell 3 _ rfl
  have f0 := hx.free 0
  have f1 := hx.free 1
  have f2 := hx.free 2
  have f3 := hx.free 3
  have HX := Lib.hid hx
  have HB := Lib.hid (And.intro h8 (And.intro c0 (And.intro r0 (And.intro w1 (And.intro c1 (And.intro w0 r1))))))
  clear hx
  have Rhb := Lib.hid hb
  have n91 : ((b : Int) == 91) = false := by simp; omega
  go_enter Try.func12, Try.ntmps12
  go_wp2
  exact bodyPost_ret (v := .tuple #[]) (by simp [results, Try.results12, go_sem]) rfl ⟨rfl, (Only.refl (fun b => b = g) w).setCell (p := ⟨g, 3, none⟩) rfl _, (HX.out).set 3 _⟩

set_option maxRecDepth 100000 in
theorem byte_2a (g : Nat) (W c r : Int) (b : Nat) (w : World) (hx : Bx g w (MV ⟨W, c, r, 2⟩)) (w0 : 1 ≤ W) (w1 : W ≤ 500) (c0 : 0 ≤ c) (c1 : c < W) (r0 : 0 ≤ r) (r1 : r ≤ 1000000000) (h8 : b < 256) (hb : b = 65) (hr : 0 < r) :
    Calls Try.prog 12 #[.pointer (some ⟨g, 0, none⟩), .int .u8 b] w (ByteGives g w ⟨W, c, r - 1, 0⟩) := by
  have d0 : w.cell? ⟨g, 0, none⟩ = some (.int .i64 W) := hx.cell 0 _ rfl
  have d1 : w.cell? ⟨g, 1, none⟩ = some (.int .i64 c) := hx.cell 1 _ rfl
  have d2 : w.cell? ⟨g, 2, none⟩ = some (.int .i64 r) := hx.cell 2 _ rfl
  have d3 : w.cell? ⟨g, 3, none⟩ = some (.int .i64 2) := hx.cell 3 _ rfl
  have f0 := hx.free 0
  have f1 := hx.free 1
  have f2 := hx.free 2
  have f3 := hx.free 3
  have HX := Lib.hid hx
  have HB := Lib.hid (And.intro h8 (And.intro c0 (And.intro r0 (And.intro w1 (And.intro c1 (And.intro w0 r1))))))
  clear hx
  have Rhb := Lib.hid hb
  have Rhr := Lib.hid hr
  subst hb
  go_enter Try.func12, Try.ntmps12
  go_wp2
  exact bodyPost_ret (v := .tuple #[]) (by simp [results, Try.results12, go_sem]) rfl ⟨rfl, ((Only.refl (fun b => b = g) w).setCell (p := ⟨g, 3, none⟩) rfl _).setCell (p := ⟨g, 2, none⟩) rfl _, ((HX.out).set 3 _).set 2 _⟩

set_option maxRecDepth 100000 in
theorem byte_2a0 (g : Nat) (W c r : Int) (b : Nat) (w : World) (hx : Bx g w (MV ⟨W, c, r, 2⟩)) (w0 : 1 ≤ W) (w1 : W ≤ 500) (c0 : 0 ≤ c) (c1 : c < W) (r0 : 0 ≤ r) (r1 : r ≤ 1000000000) (h8 : b < 256) (hb : b = 65) (hr : r = 0) :
    Calls Try.prog 12 #[.pointer (some ⟨g, 0, none⟩), .int .u8 b] w (ByteGives g w ⟨W, c, 0, 0⟩) := by
  have d0 : w.cell? ⟨g, 0, none⟩ = some (.int .i64 W) := hx.cell 0 _ rfl
  have d1 : w.cell? ⟨g, 1, none⟩ = some (.int .i64 c) := hx.cell 1 _ rfl
  have d2 : w.cell? ⟨g, 2, none⟩ = some (.int .i64 r) := hx.cell 2 _ rfl
  have d3 : w.cell? ⟨g, 3, none⟩ = some (.int .i64 2) := hx.cell 3 _ rfl
  have f0 := hx.free 0
  have f1 := hx.free 1
  have f2 := hx.free 2
  have f3 := hx.free 3
  have HX := Lib.hid hx
  have HB := Lib.hid (And.intro h8 (And.intro c0 (And.intro r0 (And.intro w1 (And.intro c1 (And.intro w0 r1))))))
  clear hx
  have Rhb := Lib.hid hb
  have Rhr := Lib.hid hr
  subst hb hr
  go_enter Try.func12, Try.ntmps12
  go_wp2
  go_quiet (fail)
  go_wp2
  exact bodyPost_ret (v := .tuple #[]) (by simp [results, Try.results12, go_sem]) rfl ⟨rfl, ((Only.refl (fun b => b = g) w).setCell (p := ⟨g, 3, none⟩) rfl _).drewN _, ((HX.out).set 3 _).drewN _⟩

set_option maxRecDepth 100000 in
theorem byte_2b (g : Nat) (W c r : Int) (b : Nat) (w : World) (hx : Bx g w (MV ⟨W, c, r, 2⟩)) (w0 : 1 ≤ W) (w1 : W ≤ 500) (c0 : 0 ≤ c) (c1 : c < W) (r0 : 0 ≤ r) (r1 : r ≤ 1000000000) (h8 : b < 256) (hb : b = 66) :
    Calls Try.prog 12 #[.pointer (some ⟨g, 0, none⟩), .int .u8 b] w (ByteGives g w ⟨W, c, r + 1, 0⟩) := by
  have d0 : w.cell? ⟨g, 0, none⟩ = some (.int .i64 W) := hx.cell 0 _ rfl
  have d1 : w.cell? ⟨g, 1, none⟩ = some (.int .i64 c) := hx.cell 1 _ rfl
  have d2 : w.cell? ⟨g, 2, none⟩ = some (.int .i64 r) := hx.cell 2 _ rfl
  have d3 : w.cell? ⟨g, 3, none⟩ = some (.int .i64 2) := hx.cell 3 _ rfl
  have f0 := hx.free 0
  have f1 := hx.free 1
  have f2 := hx.free 2
  have f3 := hx.free 3
  have HX := Lib.hid hx
  have HB := Lib.hid (And.intro h8 (And.intro c0 (And.intro r0 (And.intro w1 (And.intro c1 (And.intro w0 r1))))))
  clear hx
  have Rhb := Lib.hid hb
  subst hb
  go_enter Try.func12, Try.ntmps12
  go_wp2
  exact bodyPost_ret (v := .tuple #[]) (by simp [results, Try.results12, go_sem]) rfl ⟨rfl, ((Only.refl (fun b => b = g) w).setCell (p := ⟨g, 3, none⟩) rfl _).setCell (p := ⟨g, 2, none⟩) rfl _, ((HX.out).set 3 _).set 2 _⟩

set_option maxRecDepth 100000 in
theorem byte_2c (g : Nat) (W c r : Int) (b : Nat) (w : World) (hx : Bx g w (MV ⟨W, c, r, 2⟩)) (w0 : 1 ≤ W) (w1 : W ≤ 500) (c0 : 0 ≤ c) (c1 : c < W) (r0 : 0 ≤ r) (r1 : r ≤ 1000000000) (h8 : b < 256) (hb : b = 67) (hr : c < W - 1) :
    Calls Try.prog 12 #[.pointer (some ⟨g, 0, none⟩), .int .u8 b] w (ByteGives g w ⟨W, c + 1, r, 0⟩) := by
  have d0 : w.cell? ⟨g, 0, none⟩ = some (.int .i64 W) := hx.cell 0 _ rfl
  have d1 : w.cell? ⟨g, 1, none⟩ = some (.int .i64 c) := hx.cell 1 _ rfl
  have d2 : w.cell? ⟨g, 2, none⟩ = some (.int .i64 r) := hx.cell 2 _ rfl
  have d3 : w.cell? ⟨g, 3, none⟩ = some (.int .i64 2) := hx.cell 3 _ rfl
  have f0 := hx.free 0
  have f1 := hx.free 1
  have f2 := hx.free 2
  have f3 := hx.free 3
  have HX := Lib.hid hx
  have HB := Lib.hid (And.intro h8 (And.intro c0 (And.intro r0 (And.intro w1 (And.intro c1 (And.intro w0 r1))))))
  clear hx
  have Rhb := Lib.hid hb
  have Rhr := Lib.hid hr
  subst hb
  go_enter Try.func12, Try.ntmps12
  go_wp2
  go_quiet (fail)
  go_wp2
  exact bodyPost_ret (v := .tuple #[]) (by simp [results, Try.results12, go_sem]) rfl ⟨rfl, (((Only.refl (fun b => b = g) w).setCell (p := ⟨g, 3, none⟩) rfl _).drewN _).setCell (p := ⟨g, 1, none⟩) rfl _, (((HX.out).set 3 _).drewN _).set 1 _⟩

set_option maxRecDepth 100000 in
theorem byte_2c0 (g : Nat) (W c r : Int) (b : Nat) (w : World) (hx : Bx g w (MV ⟨W, c, r, 2⟩)) (w0 : 1 ≤ W) (w1 : W ≤ 500) (c0 : 0 ≤ c) (c1 : c < W) (r0 : 0 ≤ r) (r1 : r ≤ 1000000000) (h8 : b < 256) (hb : b = 67) (hr : ¬ c < W - 1) :
    Calls Try.prog 12 #[.pointer (some ⟨g, 0, none⟩), .int .u8 b] w (ByteGives g w ⟨W, c, r, 0⟩) := by
  have d0 : w.cell? ⟨g, 0, none⟩ = some (.int .i64 W) := hx.cell 0 _ rfl
  have d1 : w.cell? ⟨g, 1, none⟩ = some (.int .i64 c) := hx.cell 1 _ rfl
  have d2 : w.cell? ⟨g, 2, none⟩ = some (.int .i64 r) := hx.cell 2 _ rfl
  have d3 : w.cell? ⟨g, 3, none⟩ = some (.int .i64 2) := hx.cell 3 _ rfl
  have f0 := hx.free 0
  have f1 := hx.free 1
  have f2 := hx.free 2
  have f3 := hx.free 3
  have HX := Lib.hid hx
  have HB := Lib.hid (And.intro h8 (And.intro c0 (And.intro r0 (And.intro w1 (And.intro c1 (And.intro w0 r1))))))
  clear hx
  have Rhb := Lib.hid hb
  have Rhr := Lib.hid hr
  subst hb
  go_enter Try.func12, Try.ntmps12
  go_wp2
  go_quiet (fail)
  go_wp2
  exact bodyPost_ret (v := .tuple #[]) (by simp [results, Try.results12, go_sem]) rfl ⟨rfl, ((Only.refl (fun b => b = g) w).setCell (p := ⟨g, 3, none⟩) rfl _).drewN _, ((HX.out).set 3 _).drewN _⟩

set_option maxRecDepth 100000 in
theorem byte_2d (g : Nat) (W c r : Int) (b : Nat) (w : World) (hx : Bx g w (MV ⟨W, c, r, 2⟩)) (w0 : 1 ≤ W) (w1 : W ≤ 500) (c0 : 0 ≤ c) (c1 : c < W) (r0 : 0 ≤ r) (r1 : r ≤ 1000000000) (h8 : b < 256) (hb : b = 68) (hr : 0 < c) :
    Calls Try.prog 12 #[.pointer (some ⟨g, 0, none⟩), .int .u8 b] w (ByteGives g w ⟨W, c - 1, r, 0⟩) := by
  have d0 : w.cell? ⟨g, 0, none⟩ = some (.int .i64 W) := hx.cell 0 _ rfl
  have d1 : w.cell? ⟨g, 1, none⟩ = some (.int .i64 c) := hx.cell 1 _ rfl
  have d2 : w.cell? ⟨g, 2, none⟩ = some (.int .i64 r) := hx.cell 2 _ rfl
  have d3 : w.cell? ⟨g, 3, none⟩ = some (.int .i64 2) := hx.cell 3 _ rfl
  have f0 := hx.free 0
  have f1 := hx.free 1
  have f2 := hx.free 2
  have f3 := hx.free 3
  have HX := Lib.hid hx
  have HB := Lib.hid (And.intro h8 (And.intro c0 (And.intro r0 (And.intro w1 (And.intro c1 (And.intro w0 r1))))))
  clear hx
  have Rhb := Lib.hid hb
  have Rhr := Lib.hid hr
  subst hb
  go_enter Try.func12, Try.ntmps12
  go_wp2
  go_quiet (fail)
  go_wp2
  exact bodyPost_ret (v := .tuple #[]) (by simp [results, Try.results12, go_sem]) rfl ⟨rfl, (((Only.refl (fun b => b = g) w).setCell (p := ⟨g, 3, none⟩) rfl _).drewN _).setCell (p := ⟨g, 1, none⟩) rfl _, (((HX.out).set 3 _).drewN _).set 1 _⟩

set_option maxRecDepth 100000 in
theorem byte_2d0 (g : Nat) (W c r : Int) (b : Nat) (w : World) (hx : Bx g w (MV ⟨W, c, r, 2⟩)) (w0 : 1 ≤ W) (w1 : W ≤ 500) (c0 : 0 ≤ c) (c1 : c < W) (r0 : 0 ≤ r) (r1 : r ≤ 1000000000) (h8 : b < 256) (hb : b = 68) (hr : c = 0) :
    Calls Try.prog 12 #[.pointer (some ⟨g, 0, none⟩), .int .u8 b] w (ByteGives g w ⟨W, 0, r, 0⟩) := by
  have d0 : w.cell? ⟨g, 0, none⟩ = some (.int .i64 W) := hx.cell 0 _ rfl
  have d1 : w.cell? ⟨g, 1, none⟩ = some (.int .i64 c) := hx.cell 1 _ rfl
  have d2 : w.cell? ⟨g, 2, none⟩ = some (.int .i64 r) := hx.cell 2 _ rfl
  have d3 : w.cell? ⟨g, 3, none⟩ = some (.int .i64 2) := hx.cell 3 _ rfl
  have f0 := hx.free 0
  have f1 := hx.free 1
  have f2 := hx.free 2
  have f3 := hx.free 3
  have HX := Lib.hid hx
  have HB := Lib.hid (And.intro h8 (And.intro c0 (And.intro r0 (And.intro w1 (And.intro c1 (And.intro w0 r1))))))
  clear hx
  have Rhb := Lib.hid hb
  have Rhr := Lib.hid hr
  subst hb hr
  go_enter Try.func12, Try.ntmps12
  go_wp2
  go_quiet (fail)
  go_wp2
  exact bodyPost_ret (v := .tuple #[]) (by simp [results, Try.results12, go_sem]) rfl ⟨rfl, ((Only.refl (fun b => b = g) w).setCell (p := ⟨g, 3, none⟩) rfl _).drewN _, ((HX.out).set 3 _).drewN _⟩

set_option maxRecDepth 100000 in
theorem byte_2e (g : Nat) (W c r : Int) (b : Nat) (w : World) (hx : Bx g w (MV ⟨W, c, r, 2⟩)) (w0 : 1 ≤ W) (w1 : W ≤ 500) (c0 : 0 ≤ c) (c1 : c < W) (r0 : 0 ≤ r) (r1 : r ≤ 1000000000) (h8 : b < 256) (h1 : b ≠ 65) (h2 : b ≠ 66) (h3 : b ≠ 67) (h4 : b ≠ 68) :
    Calls Try.prog 12 #[.pointer (some ⟨g, 0, none⟩), .int .u8 b] w (ByteGives g w ⟨W, c, r, 0⟩) := by
  have d0 : w.cell? ⟨g, 0, none⟩ = some (.int .i64 W) := hx.cell 0 _ rfl
  have d1 : w.cell? ⟨g, 1, none⟩ = some (.int .i64 c) := hx.cell 1 _ rfl
  have d2 : w.cell? ⟨g, 2, none⟩ = some (.int .i64 r) := hx.cell 2 _ rfl
  have d3 : w.cell? ⟨g, 3, none⟩ = some (.int .i64 2) := hx.cell 3 _ rfl
  have f0 := hx.free 0
  have f1 := hx.free 1
  have f2 := hx.free 2
  have f3 := hx.free 3
  have HX := Lib.hid hx
  have HB := Lib.hid (And.intro h8 (And.intro c0 (And.intro r0 (And.intro w1 (And.intro c1 (And.intro w0 r1))))))
  clear hx
  have Rh1 := Lib.hid h1
  have Rh2 := Lib.hid h2
  have Rh3 := Lib.hid h3
  have Rh4 := Lib.hid h4
  have n65 : ((b : Int) == 65) = false := by simp; omega
  have n66 : ((b : Int) == 66) = false := by simp; omega
  have n67 : ((b : Int) == 67) = false := by simp; omega
  have n68 : ((b : Int) == 68) = false := by simp; omega
  go_enter Try.func12, Try.ntmps12
  go_wp2
  go_quiet (fail)
  go_wp2
  exact bodyPost_ret (v := .tuple #[]) (by simp [results, Try.results12, go_sem]) rfl ⟨rfl, ((Only.refl (fun b => b = g) w).setCell (p := ⟨g, 3, none⟩) rfl _).drewN _, ((HX.out).set 3 _).drewN _⟩

set_option maxRecDepth 100000 in
theorem byte_27 (g : Nat) (W c r : Int) (b : Nat) (w : World) (hx : Bx g w (MV ⟨W, c, r, 0⟩)) (w0 : 1 ≤ W) (w1 : W ≤ 500) (c0 : 0 ≤ c) (c1 : c < W) (r0 : 0 ≤ r) (r1 : r ≤ 1000000000) (h8 : b < 256) (hb : b = 27) :
    Calls Try.prog 12 #[.pointer (some ⟨g, 0, none⟩), .int .u8 b] w (ByteGives g w ⟨W, c, r, 1⟩) := by
  have d0 : w.cell? ⟨g, 0, none⟩ = some (.int .i64 W) := hx.cell 0 _ rfl
  have d1 : w.cell? ⟨g, 1, none⟩ = some (.int .i64 c) := hx.cell 1 _ rfl
  have d2 : w.cell? ⟨g, 2, none⟩ = some (.int .i64 r) := hx.cell 2 _ rfl
  have d3 : w.cell? ⟨g, 3, none⟩ = some (.int .i64 0) := hx.cell 3 _ rfl
  have f0 := hx.free 0
  have f1 := hx.free 1
  have f2 := hx.free 2
  have f3 := hx.free 3
  have HX := Lib.hid hx
  have HB := Lib.hid (And.intro h8 (And.intro c0 (And.intro r0 (And.intro w1 (And.intro c1 (And.intro w0 r1))))))
  clear hx
  have Rhb := Lib.hid hb
  subst hb
  go_enter Try.func12, Try.ntmps12
  go_wp2
  exact bodyPost_ret (v := .tuple #[]) (by simp [results, Try.results12, go_sem]) rfl ⟨rfl, (Only.refl (fun b => b = g) w).setCell (p := ⟨g, 3, none⟩) rfl _, (HX.out).set 3 _⟩

set_option maxRecDepth 100000 in
theorem byte_13 (g : Nat) (W c r : Int) (b : Nat) (w : World) (hx : Bx g w (MV ⟨W, c, r, 0⟩)) (w0 : 1 ≤ W) (w1 : W ≤ 500) (c0 : 0 ≤ c) (c1 : c < W) (r0 : 0 ≤ r) (r1 : r ≤ 1000000000) (h8 : b < 256) (hb : b = 13) :
    Calls Try.prog 12 #[.pointer (some ⟨g, 0, none⟩), .int .u8 b] w (ByteGives g w ⟨W, 0, r, 0⟩) := by
  have d0 : w.cell? ⟨g, 0, none⟩ = some (.int .i64 W) := hx.cell 0 _ rfl
  have d1 : w.cell? ⟨g, 1, none⟩ = some (.int .i64 c) := hx.cell 1 _ rfl
  have d2 : w.cell? ⟨g, 2, none⟩ = some (.int .i64 r) := hx.cell 2 _ rfl
  have d3 : w.cell? ⟨g, 3, none⟩ = some (.int .i64 0) := hx.cell 3 _ rfl
  have f0 := hx.free 0
  have f1 := hx.free 1
  have f2 := hx.free 2
  have f3 := hx.free 3
  have HX := Lib.hid hx
  have HB := Lib.hid (And.intro h8 (And.intro c0 (And.intro r0 (And.intro w1 (And.intro c1 (And.intro w0 r1))))))
  clear hx
  have Rhb := Lib.hid hb
  subst hb
  go_enter Try.func12, Try.ntmps12
  go_wp2
  exact bodyPost_ret (v := .tuple #[]) (by simp [results, Try.results12, go_sem]) rfl ⟨rfl, (Only.refl (fun b => b = g) w).setCell (p := ⟨g, 1, none⟩) rfl _, (HX.out).set 1 _⟩

set_option maxRecDepth 100000 in
theorem byte_10 (g : Nat) (W c r : Int) (b : Nat) (w : World) (hx : Bx g w (MV ⟨W, c, r, 0⟩)) (w0 : 1 ≤ W) (w1 : W ≤ 500) (c0 : 0 ≤ c) (c1 : c < W) (r0 : 0 ≤ r) (r1 : r ≤ 1000000000) (h8 : b < 256) (hb : b = 10) :
    Calls Try.prog 12 #[.pointer (some ⟨g, 0, none⟩), .int .u8 b] w (ByteGives g w ⟨W, c, r + 1, 0⟩) := by
  have d0 : w.cell? ⟨g, 0, none⟩ = some (.int .i64 W) := hx.cell 0 _ rfl
  have d1 : w.cell? ⟨g, 1, none⟩ = some (.int .i64 c) := hx.cell 1 _ rfl
  have d2 : w.cell? ⟨g, 2, none⟩ = some (.int .i64 r) := hx.cell 2 _ rfl
  have d3 : w.cell? ⟨g, 3, none⟩ = some (.int .i64 0) := hx.cell 3 _ rfl
  have f0 := hx.free 0
  have f1 := hx.free 1
  have f2 := hx.free 2
  have f3 := hx.free 3
  have HX := Lib.hid hx
  have HB := Lib.hid (And.intro h8 (And.intro c0 (And.intro r0 (And.intro w1 (And.intro c1 (And.intro w0 r1))))))
  clear hx
  have Rhb := Lib.hid hb
  subst hb
  go_enter Try.func12, Try.ntmps12
  go_wp2
  exact bodyPost_ret (v := .tuple #[]) (by simp [results, Try.results12, go_sem]) rfl ⟨rfl, (Only.refl (fun b => b = g) w).setCell (p := ⟨g, 2, none⟩) rfl _, (HX.out).set 2 _⟩

set_option maxRecDepth 100000 in
theorem byte_8 (g : Nat) (W c r : Int) (b : Nat) (w : World) (hx : Bx g w (MV ⟨W, c, r, 0⟩)) (w0 : 1 ≤ W) (w1 : W ≤ 500) (c0 : 0 ≤ c) (c1 : c < W) (r0 : 0 ≤ r) (r1 : r ≤ 1000000000) (h8 : b < 256) (hb : b = 8) (hr : 0 < c) :
    Calls Try.prog 12 #[.pointer (some ⟨g, 0, none⟩), .int .u8 b] w (ByteGives g w ⟨W, c - 1, r, 0⟩) := by
  have d0 : w.cell? ⟨g, 0, none⟩ = some (.int .i64 W) := hx.cell 0 _ rfl
  have d1 : w.cell? ⟨g, 1, none⟩ = some (.int .i64 c) := hx.cell 1 _ rfl
  have d2 : w.cell? ⟨g, 2, none⟩ = some (.int .i64 r) := hx.cell 2 _ rfl
  have d3 : w.cell? ⟨g, 3, none⟩ = some (.int .i64 0) := hx.cell 3 _ rfl
  have f0 := hx.free 0
  have f1 := hx.free 1
  have f2 := hx.free 2
  have f3 := hx.free 3
  have HX := Lib.hid hx
  have HB := Lib.hid (And.intro h8 (And.intro c0 (And.intro r0 (And.intro w1 (And.intro c1 (And.intro w0 r1))))))
  clear hx
  have Rhb := Lib.hid hb
  have Rhr := Lib.hid hr
  subst hb
  go_enter Try.func12, Try.ntmps12
  go_wp2
  exact bodyPost_ret (v := .tuple #[]) (by simp [results, Try.results12, go_sem]) rfl ⟨rfl, (Only.refl (fun b => b = g) w).setCell (p := ⟨g, 1, none⟩) rfl _, (HX.out).set 1 _⟩

set_option maxRecDepth 100000 in
theorem byte_80 (g : Nat) (W c r : Int) (b : Nat) (w : World) (hx : Bx g w (MV ⟨W, c, r, 0⟩)) (w0 : 1 ≤ W) (w1 : W ≤ 500) (c0 : 0 ≤ c) (c1 : c < W) (r0 : 0 ≤ r) (r1 : r ≤ 1000000000) (h8 : b < 256) (hb : b = 8) (hr : c = 0) :
    Calls Try.prog 12 #[.pointer (some ⟨g, 0, none⟩), .int .u8 b] w (ByteGives g w ⟨W, 0, r, 0⟩) := by
  have d0 : w.cell? ⟨g, 0, none⟩ = some (.int .i64 W) := hx.cell 0 _ rfl
  have d1 : w.cell? ⟨g, 1, none⟩ = some (.int .i64 c) := hx.cell 1 _ rfl
  have d2 : w.cell? ⟨g, 2, none⟩ = some (.int .i64 r) := hx.cell 2 _ rfl
  have d3 : w.cell? ⟨g, 3, none⟩ = some (.int .i64 0) := hx.cell 3 _ rfl
  have f0 := hx.free 0
  have f1 := hx.free 1
  have f2 := hx.free 2
  have f3 := hx.free 3
  have HX := Lib.hid hx
  have HB := Lib.hid (And.intro h8 (And.intro c0 (And.intro r0 (And.intro w1 (And.intro c1 (And.intro w0 r1))))))
  clear hx
  have Rhb := Lib.hid hb
  have Rhr := Lib.hid hr
  subst hb hr
  go_enter Try.func12, Try.ntmps12
  go_wp2
  exact bodyPost_ret (v := .tuple #[]) (by simp [results, Try.results12, go_sem]) rfl ⟨rfl, Only.refl (fun b => b = g) w, HX.out⟩

set_option maxRecDepth 100000 in
theorem byte_lo (g : Nat) (W c r : Int) (b : Nat) (w : World) (hx : Bx g w (MV ⟨W, c, r, 0⟩)) (w0 : 1 ≤ W) (w1 : W ≤ 500) (c0 : 0 ≤ c) (c1 : c < W) (r0 : 0 ≤ r) (r1 : r ≤ 1000000000) (h8 : b < 256) (h1 : b ≠ 27) (h2 : b ≠ 13) (h3 : b ≠ 10) (h4 : b ≠ 8) (h5 : b ≠ 9) (hb : b < 32) :
    Calls Try.prog 12 #[.pointer (some ⟨g, 0, none⟩), .int .u8 b] w (ByteGives g w ⟨W, c, r, 0⟩) := by
  have d0 : w.cell? ⟨g, 0, none⟩ = some (.int .i64 W) := hx.cell 0 _ rfl
  have d1 : w.cell? ⟨g, 1, none⟩ = some (.int .i64 c) := hx.cell 1 _ rfl
  have d2 : w.cell? ⟨g, 2, none⟩ = some (.int .i64 r) := hx.cell 2 _ rfl
  have d3 : w.cell? ⟨g, 3, none⟩ = some (.int .i64 0) := hx.cell 3 _ rfl
  have f0 := hx.free 0
  have f1 := hx.free 1
  have f2 := hx.free 2
  have f3 := hx.free 3
  have HX := Lib.hid hx
  have HB := Lib.hid (And.intro h8 (And.intro c0 (And.intro r0 (And.intro w1 (And.intro c1 (And.intro w0 r1))))))
  clear hx
  have Rh1 := Lib.hid h1
  have Rh2 := Lib.hid h2
  have Rh3 := Lib.hid h3
  have Rh4 := Lib.hid h4
  have Rh5 := Lib.hid h5
  have Rhb := Lib.hid hb
  have n27 : ((b : Int) == 27) = false := by simp; omega
  have n13 : ((b : Int) == 13) = false := by simp; omega
  have n10 : ((b : Int) == 10) = false := by simp; omega
  have n8 : ((b : Int) == 8) = false := by simp; omega
  have n9 : ((b : Int) == 9) = false := by simp; omega
  go_enter Try.func12, Try.ntmps12
  go_wp2
  exact bodyPost_ret (v := .tuple #[]) (by simp [results, Try.results12, go_sem]) rfl ⟨rfl, Only.refl (fun b => b = g) w, HX.out⟩

set_option maxRecDepth 100000 in
theorem byte_del (g : Nat) (W c r : Int) (b : Nat) (w : World) (hx : Bx g w (MV ⟨W, c, r, 0⟩)) (w0 : 1 ≤ W) (w1 : W ≤ 500) (c0 : 0 ≤ c) (c1 : c < W) (r0 : 0 ≤ r) (r1 : r ≤ 1000000000) (h8 : b < 256) (hb : b = 127) :
    Calls Try.prog 12 #[.pointer (some ⟨g, 0, none⟩), .int .u8 b] w (ByteGives g w ⟨W, c, r, 0⟩) := by
  have d0 : w.cell? ⟨g, 0, none⟩ = some (.int .i64 W) := hx.cell 0 _ rfl
  have d1 : w.cell? ⟨g, 1, none⟩ = some (.int .i64 c) := hx.cell 1 _ rfl
  have d2 : w.cell? ⟨g, 2, none⟩ = some (.int .i64 r) := hx.cell 2 _ rfl
  have d3 : w.cell? ⟨g, 3, none⟩ = some (.int .i64 0) := hx.cell 3 _ rfl
  have f0 := hx.free 0
  have f1 := hx.free 1
  have f2 := hx.free 2
  have f3 := hx.free 3
  have HX := Lib.hid hx
  have HB := Lib.hid (And.intro h8 (And.intro c0 (And.intro r0 (And.intro w1 (And.intro c1 (And.intro w0 r1))))))
  clear hx
  have Rhb := Lib.hid hb
  subst hb
  go_enter Try.func12, Try.ntmps12
  go_wp2
  exact bodyPost_ret (v := .tuple #[]) (by simp [results, Try.results12, go_sem]) rfl ⟨rfl, Only.refl (fun b => b = g) w, HX.out⟩

set_option maxRecDepth 100000 in
theorem byte_s (g : Nat) (W c r : Int) (b : Nat) (w : World) (hx : Bx g w (MV ⟨W, c, r, 0⟩)) (w0 : 1 ≤ W) (w1 : W ≤ 500) (c0 : 0 ≤ c) (c1 : c < W) (r0 : 0 ≤ r) (r1 : r ≤ 1000000000) (h8 : b < 256) (h1 : b ≠ 27) (h2 : b ≠ 13) (h3 : b ≠ 10) (h4 : b ≠ 8) (h5 : b ≠ 9) (hb : ¬ b < 32) (hb2 : b ≠ 127) (hr : c + 1 < W) :
    Calls Try.prog 12 #[.pointer (some ⟨g, 0, none⟩), .int .u8 b] w (ByteGives g w ⟨W, c + 1, r, 0⟩) := by
  have d0 : w.cell? ⟨g, 0, none⟩ = some (.int .i64 W) := hx.cell 0 _ rfl
  have d1 : w.cell? ⟨g, 1, none⟩ = some (.int .i64 c) := hx.cell 1 _ rfl
  have d2 : w.cell? ⟨g, 2, none⟩ = some (.int .i64 r) := hx.cell 2 _ rfl
  have d3 : w.cell? ⟨g, 3, none⟩ = some (.int .i64 0) := hx.cell 3 _ rfl
  have f0 := hx.free 0
  have f1 := hx.free 1
  have f2 := hx.free 2
  have f3 := hx.free 3
  have HX := Lib.hid hx
  have HB := Lib.hid (And.intro h8 (And.intro c0 (And.intro r0 (And.intro w1 (And.intro c1 (And.intro w0 r1))))))
  clear hx
  have Rh1 := Lib.hid h1
  have Rh2 := Lib.hid h2
  have Rh3 := Lib.hid h3
  have Rh4 := Lib.hid h4
  have Rh5 := Lib.hid h5
  have Rhb := Lib.hid hb
  have Rhb2 := Lib.hid hb2
  have Rhr := Lib.hid hr
  have n27 : ((b : Int) == 27) = false := by simp; omega
  have n13 : ((b : Int) == 13) = false := by simp; omega
  have n10 : ((b : Int) == 10) = false := by simp; omega
  have n8 : ((b : Int) == 8) = false := by simp; omega
  have n9 : ((b : Int) == 9) = false := by simp; omega
  have n127 : ((b : Int) == 127) = false := by simp; omega
  go_enter Try.func12, Try.ntmps12
  go_wp2
  go_quiet (fail)
  go_wp2
  exact bodyPost_ret (v := .tuple #[]) (by simp [results, Try.results12, go_sem]) rfl ⟨rfl, ((Only.refl (fun b => b = g) w).setCell (p := ⟨g, 1, none⟩) rfl _).drewN _, ((HX.out).set 1 _).drewN _⟩

set_option maxRecDepth 100000 in
theorem byte_s0 (g : Nat) (W c r : Int) (b : Nat) (w : World) (hx : Bx g w (MV ⟨W, c, r, 0⟩)) (w0 : 1 ≤ W) (w1 : W ≤ 500) (c0 : 0 ≤ c) (c1 : c < W) (r0 : 0 ≤ r) (r1 : r ≤ 1000000000) (h8 : b < 256) (h1 : b ≠ 27) (h2 : b ≠ 13) (h3 : b ≠ 10) (h4 : b ≠ 8) (h5 : b ≠ 9) (hb : ¬ b < 32) (hb2 : b ≠ 127) (hr : ¬ c + 1 < W) :
    Calls Try.prog 12 #[.pointer (some ⟨g, 0, none⟩), .int .u8 b] w (ByteGives g w ⟨W, 0, r + 1, 0⟩) := by
  have d0 : w.cell? ⟨g, 0, none⟩ = some (.int .i64 W) := hx.cell 0 _ rfl
  have d1 : w.cell? ⟨g, 1, none⟩ = some (.int .i64 c) := hx.cell 1 _ rfl
  have d2 : w.cell? ⟨g, 2, none⟩ = some (.int .i64 r) := hx.cell 2 _ rfl
  have d3 : w.cell? ⟨g, 3, none⟩ = some (.int .i64 0) := hx.cell 3 _ rfl
  have f0 := hx.free 0
  have f1 := hx.free 1
  have f2 := hx.free 2
  have f3 := hx.free 3
  have HX := Lib.hid hx
  have HB := Lib.hid (And.intro h8 (And.intro c0 (And.intro r0 (And.intro w1 (And.intro c1 (And.intro w0 r1))))))
  clear hx
  have Rh1 := Lib.hid h1
  have Rh2 := Lib.hid h2
  have Rh3 := Lib.hid h3
  have Rh4 := Lib.hid h4
  have Rh5 := Lib.hid h5
  have Rhb := Lib.hid hb
  have Rhb2 := Lib.hid hb2
  have Rhr := Lib.hid hr
  have n27 : ((b : Int) == 27) = false := by simp; omega
  have n13 : ((b : Int) == 13) = false := by simp; omega
  have n10 : ((b : Int) == 10) = false := by simp; omega
  have n8 : ((b : Int) == 8) = false := by simp; omega
  have n9 : ((b : Int) == 9) = false := by simp; omega
  have n127 : ((b : Int) == 127) = false := by simp; omega
  go_enter Try.func12, Try.ntmps12
  go_wp2
  go_quiet (fail)
  go_wp2
  exact bodyPost_ret (v := .tuple #[]) (by simp [results, Try.results12, go_sem]) rfl ⟨rfl, ((((Only.refl (fun b => b = g) w).setCell (p := ⟨g, 1, none⟩) rfl _).drewN _).setCell (p := ⟨g, 1, none⟩) rfl _).setCell (p := ⟨g, 2, none⟩) rfl _, ((((HX.out).set 1 _).drewN _).set 1 _).set 2 _⟩

set_option maxRecDepth 100000 in
theorem byte_9 (g : Nat) (W c r : Int) (b : Nat) (w : World) (hx : Bx g w (MV ⟨W, c, r, 0⟩)) (w0 : 1 ≤ W) (w1 : W ≤ 500) (c0 : 0 ≤ c) (c1 : c < W) (r0 : 0 ≤ r) (r1 : r ≤ 1000000000) (h8 : b < 256) (hb : b = 9) (hr : c / 8 * 8 + 8 ≤ W - 1) :
    Calls Try.prog 12 #[.pointer (some ⟨g, 0, none⟩), .int .u8 b] w (ByteGives g w ⟨W, c / 8 * 8 + 8, r, 0⟩) := by
  have d0 : w.cell? ⟨g, 0, none⟩ = some (.int .i64 W) := hx.cell 0 _ rfl
  have d1 : w.cell? ⟨g, 1, none⟩ = some (.int .i64 c) := hx.cell 1 _ rfl
  have d2 : w.cell? ⟨g, 2, none⟩ = some (.int .i64 r) := hx.cell 2 _ rfl
  have d3 : w.cell? ⟨g, 3, none⟩ = some (.int .i64 0) := hx.cell 3 _ rfl
  have f0 := hx.free 0
  have f1 := hx.free 1
  have f2 := hx.free 2
  have f3 := hx.free 3
  have HX := Lib.hid hx
  have HB := Lib.hid (And.intro h8 (And.intro c0 (And.intro r0 (And.intro w1 (And.intro c1 (And.intro w0 r1))))))
  clear hx
  subst hb
  go_enter Try.func12, Try.ntmps12
  go_wp2
  have hx1 := HX.out.set 1 (.int .i64 (c + 1))
  have ho1 := Bx.only g w 1 (.int .i64 (c + 1))
  have HX1 := Lib.hid hx1
  have HO1 := Lib.hid ho1
  clear hx1 ho1 d0 d1 d2 d3 f0 f1 f2 f3
  generalize w.setCell ⟨g, 1, none⟩ (.int .i64 (c + 1)) = w2 at *
  go_loopg [] 8 (fun k wr => ∃ x : Int, c + 1 ≤ x ∧ x ≤ c / 8 * 8 + 8 ∧ (c / 8 * 8 + 8 - x).toNat ≤ k ∧ Bx g wr (MV ⟨W, x, r, 0⟩) ∧ Only (fun b => b = g) w wr)
  case atStart => exact ⟨c + 1, by omega, by omega, by omega, HX1.out, HO1.out⟩
  case round =>
    obtain ⟨x, hx1, hx2, hk, hx, ho⟩ := hrel
    have HX2 := Lib.hid hx
    have HO2 := Lib.hid ho
    have HK := Lib.hid hk
    clear hx ho hk
    have d1 : wr.cell? ⟨g, 1, none⟩ = some (.int .i64 x) := HX2.out.cell 1 _ rfl
    have f1 := HX2.out.free 1
    by_cases hlt : x < c / 8 * 8 + 8
    · have hm : (x % 8 == 0) = false := by simp; omega
      have hm2 : (x % 8 != 0) = true := by simp; omega
      go_wp2
      go_roundg (c / 8 * 8 + 8 - (x + 1)).toNat
      case measure => have := HK.out; omega
      case rel => exact ⟨x + 1, by omega, by omega, by omega, HX2.out.set 1 _, HO2.out.setCell (p := ⟨g, 1, none⟩) rfl _⟩
    · obtain rfl : x = c / 8 * 8 + 8 := by omega
      have hm : ((c / 8 * 8 + 8) % 8 == 0) = true := by simp
      have hm2 : ((c / 8 * 8 + 8) % 8 != 0) = false := by simp
      have d0 : wr.cell? ⟨g, 0, none⟩ = some (.int .i64 W) := HX2.out.cell 0 _ rfl
      generalize c / 8 * 8 + 8 = y at *
      go_wp2
      go_quiet (fail)
      go_wp2
      exact bodyPost_ret (v := .tuple #[]) (by simp [results, Try.results12, go_sem]) rfl ⟨rfl, HO2.out.drewN _, HX2.out.drewN _⟩

set_option maxRecDepth 100000 in
theorem byte_90 (g : Nat) (W c r : Int) (b : Nat) (w : World) (hx : Bx g w (MV ⟨W, c, r, 0⟩)) (w0 : 1 ≤ W) (w1 : W ≤ 500) (c0 : 0 ≤ c) (c1 : c < W) (r0 : 0 ≤ r) (r1 : r ≤ 1000000000) (h8 : b < 256) (hb : b = 9) (hr : ¬ c / 8 * 8 + 8 ≤ W - 1) :
    Calls Try.prog 12 #[.pointer (some ⟨g, 0, none⟩), .int .u8 b] w (ByteGives g w ⟨W, W - 1, r, 0⟩) := by
  have d0 : w.cell? ⟨g, 0, none⟩ = some (.int .i64 W) := hx.cell 0 _ rfl
  have d1 : w.cell? ⟨g, 1, none⟩ = some (.int .i64 c) := hx.cell 1 _ rfl
  have d2 : w.cell? ⟨g, 2, none⟩ = some (.int .i64 r) := hx.cell 2 _ rfl
  have d3 : w.cell? ⟨g, 3, none⟩ = some (.int .i64 0) := hx.cell 3 _ rfl
  have f0 := hx.free 0
  have f1 := hx.free 1
  have f2 := hx.free 2
  have f3 := hx.free 3
  have HX := Lib.hid hx
  have HB := Lib.hid (And.intro h8 (And.intro c0 (And.intro r0 (And.intro w1 (And.intro c1 (And.intro w0 r1))))))
  clear hx
  subst hb
  go_enter Try.func12, Try.ntmps12
  go_wp2
  have hx1 := HX.out.set 1 (.int .i64 (c + 1))
  have ho1 := Bx.only g w 1 (.int .i64 (c + 1))
  have HX1 := Lib.hid hx1
  have HO1 := Lib.hid ho1
  clear hx1 ho1 d0 d1 d2 d3 f0 f1 f2 f3
  generalize w.setCell ⟨g, 1, none⟩ (.int .i64 (c + 1)) = w2 at *
  go_loopg [] 8 (fun k wr => ∃ x : Int, c + 1 ≤ x ∧ x ≤ c / 8 * 8 + 8 ∧ (c / 8 * 8 + 8 - x).toNat ≤ k ∧ Bx g wr (MV ⟨W, x, r, 0⟩) ∧ Only (fun b => b = g) w wr)
  case atStart => exact ⟨c + 1, by omega, by omega, by omega, HX1.out, HO1.out⟩
  case round =>
    obtain ⟨x, hx1, hx2, hk, hx, ho⟩ := hrel
    have HX2 := Lib.hid hx
    have HO2 := Lib.hid ho
    have HK := Lib.hid hk
    clear hx ho hk
    have d1 : wr.cell? ⟨g, 1, none⟩ = some (.int .i64 x) := HX2.out.cell 1 _ rfl
    have f1 := HX2.out.free 1
    by_cases hlt : x < c / 8 * 8 + 8
    · have hm : (x % 8 == 0) = false := by simp; omega
      have hm2 : (x % 8 != 0) = true := by simp; omega
      go_wp2
      go_roundg (c / 8 * 8 + 8 - (x + 1)).toNat
      case measure => have := HK.out; omega
      case rel => exact ⟨x + 1, by omega, by omega, by omega, HX2.out.set 1 _, HO2.out.setCell (p := ⟨g, 1, none⟩) rfl _⟩
    · obtain rfl : x = c / 8 * 8 + 8 := by omega
      have hm : ((c / 8 * 8 + 8) % 8 == 0) = true := by simp
      have hm2 : ((c / 8 * 8 + 8) % 8 != 0) = false := by simp
      have d0 : wr.cell? ⟨g, 0, none⟩ = some (.int .i64 W) := HX2.out.cell 0 _ rfl
      generalize c / 8 * 8 + 8 = y at *
      go_wp2
      go_quiet (fail)
      go_wp2
      exact bodyPost_ret (v := .tuple #[]) (by simp [results, Try.results12, go_sem]) rfl ⟨rfl, (HO2.out.drewN _).setCell (p := ⟨g, 1, none⟩) rfl _, (HX2.out.drewN _).set 1 _⟩

end Go.Proofs.Ytfehlmoghibamaa
