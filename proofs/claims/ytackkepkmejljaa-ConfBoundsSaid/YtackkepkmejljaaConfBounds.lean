/- ConfBounds: for every input the law answers true, and its arguments read as before. Conditions: none. -/
import Derived.Test.YtackkepkmejljaaInv
import Derived.Deep.RegionHeld
import Derived.Deep.CutBlock
import Derived.Deep.DeepCutAuto
namespace Go.Proofs.Ytackkepkmejljaa.confBounds
open Go.ChangeShapes Go.WideShapes Go.ChangeAt Go.RowKit
def btab : Array Value := #[.int .i64 1, .int .i64 65536, .int .i64 1, .int .i64 2042, .int .i64 220, .int .i64 65536, .int .i64 1, .int .i64 65536, .int .i64 0, .int .i64 9, .int .i64 1, .int .i64 1000, .int .i64 0, .int .i64 1000, .int .i64 1, .int .i64 500]

def lo : Nat → Int
  | 2 => 220 | 4 => 0 | 6 => 0 | _ => 1
def hi : Nat → Int
  | 0 => 65536 | 1 => 2042 | 2 => 65536 | 3 => 65536 | 4 => 9 | 5 => 1000 | 6 => 1000 | _ => 500

theorem btab_at (p : Nat) (hp : p < 8) : btab[p * 2]? = some (.int .i64 (lo p)) ∧ btab[p * 2 + 1]? = some (.int .i64 (hi p)) := by
  rcases (show p = 0 ∨ p = 1 ∨ p = 2 ∨ p = 3 ∨ p = 4 ∨ p = 5 ∨ p = 6 ∨ p = 7 by omega) with rfl | rfl | rfl | rfl | rfl | rfl | rfl | rfl <;> exact ⟨rfl, rfl⟩


theorem near (p : Nat) (hp : p < 8) : wrap64 (lo p - 1) = lo p - 1 ∧ wrap64 (hi p + 1) = hi p + 1 := by
  rcases (show p = 0 ∨ p = 1 ∨ p = 2 ∨ p = 3 ∨ p = 4 ∨ p = 5 ∨ p = 6 ∨ p = 7 by omega) with rfl | rfl | rfl | rfl | rfl | rfl | rfl | rfl <;> exact ⟨IntWalk.wrap64_in _ (by simp [lo]), IntWalk.wrap64_in _ (by simp [hi])⟩

/-- the number at a bound, or beyond -/
def pick (a b : Int) : Bool → Bool → Int
  | true, true => a
  | true, false => a - 1
  | false, true => b
  | false, false => b + 1

set_option maxRecDepth 100000 in
set_option maxHeartbeats 1000000 in
theorem walk (a0 : Int) (a1 : Int) (w : World) (w0 : (Lit.int .i64 a0).wf = true) (w1 : (Lit.int .i64 a1).wf = true) :
    Calls Try.prog 4 #[.int .i64 a0, .int .i64 a1] w fun e w' => e = .returned (.bool true) ∧ Below w.heap.size w w' := by
  obtain ⟨p, hp, ep⟩ := rest_any a0 8 (by decide) (by decide)
  have hp8 : p < 8 := by omega
  have HA0 := Lib.hid w0
  have HA1 := Lib.hid w1
  clear HA0 HA1 w0 w1
  go_enter Try.func4, Try.ntmps4
  go_wp2_with fail
  refine (lhead_any w).mono ?_
  rintro _ w2 ⟨rfl, hb2⟩
  have HB2 := Lib.hid hb2
  clear hb2
  go_wp2_with fail
  refine (default_any _).mono ?_
  rintro _ w3 ⟨rfl, hb3⟩
  have HB3 := Lib.hid (Below.trans HB2.out (hb3.mono HB2.out.size))
  clear hb3 HB2
  unfold cv
  go_upto_region 4 with fail
  have HX := Lib.hid (Bx.new w3 w3.heap.size rfl #[.int .i64 4096, .int .i64 512, .int .i64 2048, .int .i64 256, .int .i64 3, .int .i64 100, .int .i64 0, .int .i64 80] 23)
  have HG : Hid (w.heap.size ≤ w3.heap.size) := Lib.hid HB3.out.size
  have HB4 : Hid (Below w.heap.size w (w3.alloc (.cells #[.int .i64 4096, .int .i64 512, .int .i64 2048, .int .i64 256, .int .i64 3, .int .i64 100, .int .i64 0, .int .i64 80] 23))) := Lib.hid (HB3.out.alloc HB3.out.size _)
  have HS4 : Hid ((w3.alloc (.cells #[.int .i64 4096, .int .i64 512, .int .i64 2048, .int .i64 256, .int .i64 3, .int .i64 100, .int .i64 0, .int .i64 80] 23)).heap.size = w3.heap.size + 1) := Lib.hid (by simp)
  clear HB3
  generalize w3.alloc _ = w4 at *
  generalize w3.heap.size = g at *
  have HT := Lib.hid (Bx.new w4 w4.heap.size rfl btab 27)
  have HX5 : Hid (∀ u : Obj, Bx g (w4.alloc u) #[.int .i64 4096, .int .i64 512, .int .i64 2048, .int .i64 256, .int .i64 3, .int .i64 100, .int .i64 0, .int .i64 80]) := Lib.hid fun u => HX.out.go ((Below.refl _ w4).alloc (Nat.le_refl _) u) (by have := HS4.out; omega)
  have HB5 : Hid (∀ u : Obj, Below w.heap.size w (w4.alloc u)) := Lib.hid fun u => HB4.out.alloc (by have := HS4.out; have := HG.out; omega) u
  unfold btab at HT
  go_upto_region 8 with fail
  generalize (bits BinOp.and IntKind.i64 a1 1 == 0) = ok at *
  generalize (bits BinOp.and IntKind.i64 a1 2 == 0) = low at *
  replace HX5 := Lib.hid (HX5.out (.cells btab 27))
  replace HB5 := Lib.hid (HB5.out (.cells btab 27))
  unfold btab at HX5 HB5
  clear HX HB4 HS4
  generalize w4.alloc _ = w5 at *
  generalize w4.heap.size = gt at *
  obtain ⟨c0, c1⟩ := btab_at p hp8
  unfold btab at c0 c1
  have l0 := HT.out.cell _ _ c0
  have l1 := HT.out.cell _ _ c1
  clear c0 c1
  obtain ⟨e1, e2⟩ := near p hp8
  generalize hlo : lo p = LO at *
  generalize hhi : hi p = HI at *
  go_upto_block 0 with fail
  rw [ep]
  clear ep
  go_cut [6] (fun s wx => s = .int .i64 (pick LO HI low ok) ∧ wx = w5)
  case first =>
    cases low <;> cases ok
    · go_wp2
      go_meet
      exact ⟨by simp [pick, e2], rfl⟩
    · go_wp2
      go_meet
      exact ⟨by simp [pick], rfl⟩
    · go_wp2
      go_meet
      exact ⟨by simp [pick, e1], rfl⟩
    · go_wp2
      go_meet
      exact ⟨by simp [pick], rfl⟩
  case rest =>
    obtain ⟨rfl, rfl⟩ := hcut
    clear l0 l1 e1 e2 HT
    have HN := Lib.hid (show pick (lo p) (hi p) low ok = pick LO HI low ok by rw [hlo, hhi])
    clear hlo hhi
    generalize pick LO HI low ok = N at *
    rcases (show p = 0 ∨ p = 1 ∨ p = 2 ∨ p = 3 ∨ p = 4 ∨ p = 5 ∨ p = 6 ∨ p = 7 by omega) with rfl | rfl | rfl | rfl | rfl | rfl | rfl | rfl
    · as_aux_lemma =>
      have kf := HX5.out.free 0
      have kc := HX5.out.cell 0 _ rfl
      simp at kc
      go_upto_region 32 with fail
      have HX6 := Lib.hid (HX5.out.set 0 (.int .i64 N))
      have HB6 := Lib.hid (HB5.out.setCell (p := ⟨g, 0, none⟩) HG.out (.int .i64 N))
      have hz : Hid (w.heap.size ≤ (World.setCell wc ⟨g, 0, none⟩ (.int .i64 N)).heap.size) := Lib.hid HB6.out.size
      clear HX5 HB5 kf kc
      generalize World.setCell wc ⟨g, 0, none⟩ (.int .i64 N) = w6 at *
      simp at HX6
      have k0 := HX6.out.cell 0 _ rfl
      have k1 := HX6.out.cell 1 _ rfl
      have k2 := HX6.out.cell 2 _ rfl
      have k3 := HX6.out.cell 3 _ rfl
      have k4 := HX6.out.cell 4 _ rfl
      have k5 := HX6.out.cell 5 _ rfl
      have k6 := HX6.out.cell 6 _ rfl
      have k7 := HX6.out.cell 7 _ rfl
      simp at k0 k1 k2 k3 k4 k5 k6 k7
      go_wp2_with fail
      refine (right_any N 512 2048 256 3 100 0 80 _).mono ?_
      rintro _ w7 ⟨rfl, hb7⟩
      have hr : Hid (rt N 512 2048 256 3 100 0 80 = ok) := Lib.hid (by rw [← HN.out]; cases low <;> cases ok <;> decide)
      rw [hr.out]
      go_wp2
      go_ret
      exact ⟨by cases ok <;> rfl, Below.trans HB6.out (hb7.mono hz.out)⟩
    · as_aux_lemma =>
      have kf := HX5.out.free 1
      have kc := HX5.out.cell 1 _ rfl
      simp at kc
      go_upto_region 32 with fail
      have HX6 := Lib.hid (HX5.out.set 1 (.int .i64 N))
      have HB6 := Lib.hid (HB5.out.setCell (p := ⟨g, 1, none⟩) HG.out (.int .i64 N))
      have hz : Hid (w.heap.size ≤ (World.setCell wc ⟨g, 1, none⟩ (.int .i64 N)).heap.size) := Lib.hid HB6.out.size
      clear HX5 HB5 kf kc
      generalize World.setCell wc ⟨g, 1, none⟩ (.int .i64 N) = w6 at *
      simp at HX6
      have k0 := HX6.out.cell 0 _ rfl
      have k1 := HX6.out.cell 1 _ rfl
      have k2 := HX6.out.cell 2 _ rfl
      have k3 := HX6.out.cell 3 _ rfl
      have k4 := HX6.out.cell 4 _ rfl
      have k5 := HX6.out.cell 5 _ rfl
      have k6 := HX6.out.cell 6 _ rfl
      have k7 := HX6.out.cell 7 _ rfl
      simp at k0 k1 k2 k3 k4 k5 k6 k7
      go_wp2_with fail
      refine (right_any 4096 N 2048 256 3 100 0 80 _).mono ?_
      rintro _ w7 ⟨rfl, hb7⟩
      have hr : Hid (rt 4096 N 2048 256 3 100 0 80 = ok) := Lib.hid (by rw [← HN.out]; cases low <;> cases ok <;> decide)
      rw [hr.out]
      go_wp2
      go_ret
      exact ⟨by cases ok <;> rfl, Below.trans HB6.out (hb7.mono hz.out)⟩
    · as_aux_lemma =>
      have kf := HX5.out.free 2
      have kc := HX5.out.cell 2 _ rfl
      simp at kc
      go_upto_region 32 with fail
      have HX6 := Lib.hid (HX5.out.set 2 (.int .i64 N))
      have HB6 := Lib.hid (HB5.out.setCell (p := ⟨g, 2, none⟩) HG.out (.int .i64 N))
      have hz : Hid (w.heap.size ≤ (World.setCell wc ⟨g, 2, none⟩ (.int .i64 N)).heap.size) := Lib.hid HB6.out.size
      clear HX5 HB5 kf kc
      generalize World.setCell wc ⟨g, 2, none⟩ (.int .i64 N) = w6 at *
      simp at HX6
      have k0 := HX6.out.cell 0 _ rfl
      have k1 := HX6.out.cell 1 _ rfl
      have k2 := HX6.out.cell 2 _ rfl
      have k3 := HX6.out.cell 3 _ rfl
      have k4 := HX6.out.cell 4 _ rfl
      have k5 := HX6.out.cell 5 _ rfl
      have k6 := HX6.out.cell 6 _ rfl
      have k7 := HX6.out.cell 7 _ rfl
      simp at k0 k1 k2 k3 k4 k5 k6 k7
      go_wp2_with fail
      refine (right_any 4096 512 N 256 3 100 0 80 _).mono ?_
      rintro _ w7 ⟨rfl, hb7⟩
      have hr : Hid (rt 4096 512 N 256 3 100 0 80 = ok) := Lib.hid (by rw [← HN.out]; cases low <;> cases ok <;> decide)
      rw [hr.out]
      go_wp2
      go_ret
      exact ⟨by cases ok <;> rfl, Below.trans HB6.out (hb7.mono hz.out)⟩
    · as_aux_lemma =>
      have kf := HX5.out.free 3
      have kc := HX5.out.cell 3 _ rfl
      simp at kc
      go_upto_region 32 with fail
      have HX6 := Lib.hid (HX5.out.set 3 (.int .i64 N))
      have HB6 := Lib.hid (HB5.out.setCell (p := ⟨g, 3, none⟩) HG.out (.int .i64 N))
      have hz : Hid (w.heap.size ≤ (World.setCell wc ⟨g, 3, none⟩ (.int .i64 N)).heap.size) := Lib.hid HB6.out.size
      clear HX5 HB5 kf kc
      generalize World.setCell wc ⟨g, 3, none⟩ (.int .i64 N) = w6 at *
      simp at HX6
      have k0 := HX6.out.cell 0 _ rfl
      have k1 := HX6.out.cell 1 _ rfl
      have k2 := HX6.out.cell 2 _ rfl
      have k3 := HX6.out.cell 3 _ rfl
      have k4 := HX6.out.cell 4 _ rfl
      have k5 := HX6.out.cell 5 _ rfl
      have k6 := HX6.out.cell 6 _ rfl
      have k7 := HX6.out.cell 7 _ rfl
      simp at k0 k1 k2 k3 k4 k5 k6 k7
      go_wp2_with fail
      refine (right_any 4096 512 2048 N 3 100 0 80 _).mono ?_
      rintro _ w7 ⟨rfl, hb7⟩
      have hr : Hid (rt 4096 512 2048 N 3 100 0 80 = ok) := Lib.hid (by rw [← HN.out]; cases low <;> cases ok <;> decide)
      rw [hr.out]
      go_wp2
      go_ret
      exact ⟨by cases ok <;> rfl, Below.trans HB6.out (hb7.mono hz.out)⟩
    · as_aux_lemma =>
      have kf := HX5.out.free 4
      have kc := HX5.out.cell 4 _ rfl
      simp at kc
      go_upto_region 32 with fail
      have HX6 := Lib.hid (HX5.out.set 4 (.int .i64 N))
      have HB6 := Lib.hid (HB5.out.setCell (p := ⟨g, 4, none⟩) HG.out (.int .i64 N))
      have hz : Hid (w.heap.size ≤ (World.setCell wc ⟨g, 4, none⟩ (.int .i64 N)).heap.size) := Lib.hid HB6.out.size
      clear HX5 HB5 kf kc
      generalize World.setCell wc ⟨g, 4, none⟩ (.int .i64 N) = w6 at *
      simp at HX6
      have k0 := HX6.out.cell 0 _ rfl
      have k1 := HX6.out.cell 1 _ rfl
      have k2 := HX6.out.cell 2 _ rfl
      have k3 := HX6.out.cell 3 _ rfl
      have k4 := HX6.out.cell 4 _ rfl
      have k5 := HX6.out.cell 5 _ rfl
      have k6 := HX6.out.cell 6 _ rfl
      have k7 := HX6.out.cell 7 _ rfl
      simp at k0 k1 k2 k3 k4 k5 k6 k7
      go_wp2_with fail
      refine (right_any 4096 512 2048 256 N 100 0 80 _).mono ?_
      rintro _ w7 ⟨rfl, hb7⟩
      have hr : Hid (rt 4096 512 2048 256 N 100 0 80 = ok) := Lib.hid (by rw [← HN.out]; cases low <;> cases ok <;> decide)
      rw [hr.out]
      go_wp2
      go_ret
      exact ⟨by cases ok <;> rfl, Below.trans HB6.out (hb7.mono hz.out)⟩
    · as_aux_lemma =>
      have kf := HX5.out.free 5
      have kc := HX5.out.cell 5 _ rfl
      simp at kc
      go_upto_region 32 with fail
      have HX6 := Lib.hid (HX5.out.set 5 (.int .i64 N))
      have HB6 := Lib.hid (HB5.out.setCell (p := ⟨g, 5, none⟩) HG.out (.int .i64 N))
      have hz : Hid (w.heap.size ≤ (World.setCell wc ⟨g, 5, none⟩ (.int .i64 N)).heap.size) := Lib.hid HB6.out.size
      clear HX5 HB5 kf kc
      generalize World.setCell wc ⟨g, 5, none⟩ (.int .i64 N) = w6 at *
      simp at HX6
      have k0 := HX6.out.cell 0 _ rfl
      have k1 := HX6.out.cell 1 _ rfl
      have k2 := HX6.out.cell 2 _ rfl
      have k3 := HX6.out.cell 3 _ rfl
      have k4 := HX6.out.cell 4 _ rfl
      have k5 := HX6.out.cell 5 _ rfl
      have k6 := HX6.out.cell 6 _ rfl
      have k7 := HX6.out.cell 7 _ rfl
      simp at k0 k1 k2 k3 k4 k5 k6 k7
      go_wp2_with fail
      refine (right_any 4096 512 2048 256 3 N 0 80 _).mono ?_
      rintro _ w7 ⟨rfl, hb7⟩
      have hr : Hid (rt 4096 512 2048 256 3 N 0 80 = ok) := Lib.hid (by rw [← HN.out]; cases low <;> cases ok <;> decide)
      rw [hr.out]
      go_wp2
      go_ret
      exact ⟨by cases ok <;> rfl, Below.trans HB6.out (hb7.mono hz.out)⟩
    · as_aux_lemma =>
      have kf := HX5.out.free 6
      have kc := HX5.out.cell 6 _ rfl
      simp at kc
      go_upto_region 32 with fail
      have HX6 := Lib.hid (HX5.out.set 6 (.int .i64 N))
      have HB6 := Lib.hid (HB5.out.setCell (p := ⟨g, 6, none⟩) HG.out (.int .i64 N))
      have hz : Hid (w.heap.size ≤ (World.setCell wc ⟨g, 6, none⟩ (.int .i64 N)).heap.size) := Lib.hid HB6.out.size
      clear HX5 HB5 kf kc
      generalize World.setCell wc ⟨g, 6, none⟩ (.int .i64 N) = w6 at *
      simp at HX6
      have k0 := HX6.out.cell 0 _ rfl
      have k1 := HX6.out.cell 1 _ rfl
      have k2 := HX6.out.cell 2 _ rfl
      have k3 := HX6.out.cell 3 _ rfl
      have k4 := HX6.out.cell 4 _ rfl
      have k5 := HX6.out.cell 5 _ rfl
      have k6 := HX6.out.cell 6 _ rfl
      have k7 := HX6.out.cell 7 _ rfl
      simp at k0 k1 k2 k3 k4 k5 k6 k7
      go_wp2_with fail
      refine (right_any 4096 512 2048 256 3 100 N 80 _).mono ?_
      rintro _ w7 ⟨rfl, hb7⟩
      have hr : Hid (rt 4096 512 2048 256 3 100 N 80 = ok) := Lib.hid (by rw [← HN.out]; cases low <;> cases ok <;> decide)
      rw [hr.out]
      go_wp2
      go_ret
      exact ⟨by cases ok <;> rfl, Below.trans HB6.out (hb7.mono hz.out)⟩
    · as_aux_lemma =>
      have kf := HX5.out.free 7
      have kc := HX5.out.cell 7 _ rfl
      simp at kc
      go_upto_region 32 with fail
      have HX6 := Lib.hid (HX5.out.set 7 (.int .i64 N))
      have HB6 := Lib.hid (HB5.out.setCell (p := ⟨g, 7, none⟩) HG.out (.int .i64 N))
      have hz : Hid (w.heap.size ≤ (World.setCell wc ⟨g, 7, none⟩ (.int .i64 N)).heap.size) := Lib.hid HB6.out.size
      clear HX5 HB5 kf kc
      generalize World.setCell wc ⟨g, 7, none⟩ (.int .i64 N) = w6 at *
      simp at HX6
      have k0 := HX6.out.cell 0 _ rfl
      have k1 := HX6.out.cell 1 _ rfl
      have k2 := HX6.out.cell 2 _ rfl
      have k3 := HX6.out.cell 3 _ rfl
      have k4 := HX6.out.cell 4 _ rfl
      have k5 := HX6.out.cell 5 _ rfl
      have k6 := HX6.out.cell 6 _ rfl
      have k7 := HX6.out.cell 7 _ rfl
      simp at k0 k1 k2 k3 k4 k5 k6 k7
      go_wp2_with fail
      refine (right_any 4096 512 2048 256 3 100 0 N _).mono ?_
      rintro _ w7 ⟨rfl, hb7⟩
      have hr : Hid (rt 4096 512 2048 256 3 100 0 N = ok) := Lib.hid (by rw [← HN.out]; cases low <;> cases ok <;> decide)
      rw [hr.out]
      go_wp2
      go_ret
      exact ⟨by cases ok <;> rfl, Below.trans HB6.out (hb7.mono hz.out)⟩

set_option maxRecDepth 100000 in
theorem lifted (os : Os) (started : os.Started) (H : Type) (enc : TypeId × Value → H) :
    ReturnsInHanded {} Try.checked os 4 .any (Rows.confBoundsSpec.pre6 enc Try.prog Try.f4 Rows.confBoundsRow.domain false) (Rows.confBoundsSpec.post enc Try.prog Try.f4 false true false false) := by
  refine returnsInHanded_of_change_sized (C := Try.checked) own started (by kernel_rfl) Try.func4
    (ChangeSpec.witness6 (enc := enc) (C := Try.checked) false ⟨#[], #[.int .i64 0, .int .i64 0], []⟩ 8 (by kernel_rfl) (by kernel_rfl) (by kernel_rfl) (by kernel_rfl)) ?_
  intro W base args ds gs before hval0 hW hcnd hsz0 _
  have hval : ∀ (j : Nat) t v, Try.f4.params[j]? = some t → args[j]? = some v → Value.okWide Try.prog W .any base t v := hval0
  have hW' := hW
  obtain ⟨p, q, hA0, hV, rfl, hfz, hnd⟩ := hW
  have hsz : (DataW.weightsEach Try.prog (Try.f4.params.toList ++ Rows.confBoundsSpec.plain.varTypes Try.prog) (ds ++ gs)).all (· ≤ reachBytes) = true := hsz0
  have hA : DataW.TrodAll enc Try.prog W 0 (fun _ => true) true Try.f4.params.toList args.toList ds p := hA0
  rw [Try.params4] at hA hval hsz
  obtain ⟨v0, vs0, d0, ds0, p0, q0, hargs, rfl, rfl, h0, r0⟩ := trodAll_cons hA
  obtain ⟨v1, vs1, d1, ds1, p1, q1, rfl, rfl, rfl, h1, r1⟩ := trodAll_cons r0
  obtain ⟨rfl, rfl, rfl⟩ := trodAll_nil r1
  obtain rfl : args = #[v0, v1] := by cases args; simp_all
  obtain ⟨rfl, rfl⟩ := trodVars_none hV
  obtain ⟨a0, rfl, rfl, rfl, w0⟩ := open_int Try.underlying3 (hval 0 3 v0 rfl rfl) h0
  obtain ⟨a1, rfl, rfl, rfl, w1⟩ := open_int Try.underlying3 (hval 1 3 v1 rfl rfl) h1
  clear hA0 hval0 hsz hsz0
  refine (walk a0 a1 W w0 w1).mono fun e W' ⟨he, bel⟩ => ?_
  subst he
  exact ⟨_, rfl, _, _, _, [], _, [], hW', trodAll_mk1 (shut_bool Try.underlying4 _), (trodAll_cons_mk (shut_int Try.underlying3 w0) (trodAll_cons_mk (shut_int Try.underlying3 w1) trodAll_mk0)), rfl, bel.frame _, fun h => by cases h⟩

theorem over : Rows.confBoundsRow.holds Try.pinned (OpenSpec.ofChange Rows.confBoundsSpec) :=
  OpenClaim.holds_of_wide 4 Try.f4 rfl rfl rfl rfl rfl rfl rfl ⟨rfl, rfl, rfl, rfl, rfl⟩ rfl rfl rfl rfl rfl (by kernel_rfl) Try.func4 (by kernel_rfl)
    (of_decide_eq_true (by kernel_rfl)) (by unfold Func.isWrapper; first | (rw [if_pos (by decide +kernel)]; kernel_rfl) | (rw [if_neg (by decide +kernel)]; exact ⟨rfl, rfl⟩))
    (fun os started H enc _ => lifted os started H enc)

end Go.Proofs.Ytackkepkmejljaa.confBounds
namespace Go.Proofs.Ytackkepkmejljaa
theorem confBounds_holds : Rows.ConfBoundsSaid := confBounds.over
#print axioms confBounds_holds
end Go.Proofs.Ytackkepkmejljaa
