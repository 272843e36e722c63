/- FrameGets: for every input the law answers true, and its arguments read as before. Conditions: none. -/
import Derived.Test.YtdeinmbhnedgkaaRows
import Derived.WalkKit
import Derived.ProofKit
import Derived.OpenShut
import Derived.ShutString
import Derived.ChangeOld
import Derived.Below
import Derived.Test.YtdeinmbhnedgkaaFlaw
namespace Go.Proofs.Ytdeinmbhnedgkaa.frameGets
open Go.ChangeShapes Go.WideShapes Go.ChangeAt Go.RowKit
open Go.ChangeMaps (open_string shut_string)
set_option linter.unusedVariables false

theorem own : ownKnob Try.prog.godebug = none := by kernel_rfl
theorem laidOut : laidOutB Try.prog = true := by kernel_rfl

open Fr

theorem walk (a0 : Option Addr) (len0 cap0 : Nat) (z0 : List Int) (w : World) (w0 : IsRow .u8 w a0 len0 cap0 z0) :
    Calls Try.prog 4 #[.slice a0 len0 cap0] w fun e w' => e = .returned (.bool true) ∧ Below w.heap.size w w' := by
  obtain ⟨l, hl, hn⟩ := IsRow.bytes w0
  obtain ⟨hcap, hmax⟩ := IsRow.cap w0
  have HL := Lib.hid hl
  have HW0 := Lib.hid w0
  clear hl w0
  by_cases hlen : 600 < len0
  · go_enter Try.func4, Try.ntmps4
    go_wp2_with fail
    refine (head_any w).mono ?_
    rintro e w1 ⟨rfl, hb1⟩
    go_wp2
    go_ret
    exact ⟨rfl, hb1⟩
  · go_enter Try.func4, Try.ntmps4
    go_wp2_with fail
    refine (head_any w).mono ?_
    rintro e w1 ⟨rfl, hb1⟩
    have HB1 := Lib.hid hb1
    have HL1 := Lib.hid (HL.out.below hb1)
    clear hb1
    go_wp2_with fail
    refine (get_any a0 len0 cap0 w.heap.size l w1 HL1.out HB1.out.size hcap (by omega)).mono ?_
    rintro e w2 ⟨A2, c2, rfl, hby, hb2⟩
    have HB2 := Lib.hid (Below.trans HB1.out (hb2.mono HB1.out.size))
    have HL2 := Lib.hid (HL1.out.below (hb2.mono HB1.out.size))
    have HBy := Lib.hid hby
    clear hby hb2
    generalize hg : get l = g at *
    have HG := Lib.hid hg
    clear hg
    go_wp2_with fail
    have hx := Box.new w2 g.k A2 g.body.length c2 _ rfl
    have hbx : Below w.heap.size w (w2.alloc (.cells #[.int .u8 g.k.toNat, .slice A2 g.body.length c2] 26)) := HB2.out.alloc HB2.out.size _
    have hLx := HL2.out.below ((Below.refl w.heap.size w2).alloc HB2.out.size (.cells #[.int .u8 g.k.toNat, .slice A2 g.body.length c2] 26))
    have hBx := HBy.out.below ((Below.refl w2.heap.size w2).alloc (Nat.le_refl _) (.cells #[.int .u8 g.k.toNat, .slice A2 g.body.length c2] 26))
    generalize w2.alloc (.cells #[.int .u8 g.k.toNat, .slice A2 g.body.length c2] 26) = W at *
    generalize hz : w2.heap.size = z at *
    have HX := Lib.hid hx
    have HBX := Lib.hid hbx
    have HLX := Lib.hid hLx
    have HBYX := Lib.hid hBx
    clear hx hbx hLx hBx HBy hz
    refine (lget_any a0 len0 cap0 w.heap.size l W HLX.out HBX.out.size hcap (by omega)).mono ?_
    rw [HG.out]
    rintro e w3 ⟨A3, c3, rfl, hby, hb3⟩
    have HB3 := Lib.hid (Below.trans HBX.out (hb3.mono HBX.out.size))
    have HX3 := Lib.hid (HX.out.go (hb3.mono HX.out.room))
    have HA := Lib.hid (HBYX.out.below (hb3.mono (Nat.le_of_lt HX.out.room)))
    have HC := Lib.hid hby
    clear hby hb3
    have c0 := HX3.out.kind
    have c1 := HX3.out.body
    have k1 := conv_str (cap := c2) HA.out
    have k2 := conv_str (cap := c3) HC.out
    go_wp2
    go_ret
    exact ⟨rfl, HB3.out⟩

set_option maxRecDepth 100000 in
theorem lifted (os : Os) (started : os.Started) (H : Type) (enc : TypeId × Value → H) :
    ReturnsInHanded {} Try.checked os 4 .any (Rows.frameGetsSpec.pre6 enc Try.prog Try.f4 Rows.frameGetsRow.domain false) (Rows.frameGetsSpec.post enc Try.prog Try.f4 false true false false) := by
  refine returnsInHanded_of_change (C := Try.checked) own started (by kernel_rfl) Try.func4
    (ChangeSpec.witness6 (enc := enc) (C := Try.checked) false ⟨#[], #[.slice none 0 0], []⟩ 8 (by kernel_rfl) (by kernel_rfl) (by kernel_rfl) (by kernel_rfl)) ?_
  intro W base args ds gs before hval0 hW hcnd _
  have hval : ∀ (j : Nat) t v, Try.f4.params[j]? = some t → args[j]? = some v → Value.okWide Try.prog W .any base t v := hval0
  have hW' := hW
  obtain ⟨p, q, hA0, hV, rfl, hfz, hnd⟩ := hW
  have hA : DataW.TrodAll enc Try.prog W 0 (fun _ => true) true Try.f4.params.toList args.toList ds p := hA0
  rw [Try.params4] at hA hval
  obtain ⟨v0, vs0, d0, ds0, p0, q0, hargs, rfl, rfl, h0, r0⟩ := trodAll_cons hA
  obtain ⟨rfl, rfl, rfl⟩ := trodAll_nil r0
  obtain rfl : args = #[v0] := by cases args; simp_all
  obtain ⟨rfl, rfl⟩ := trodVars_none hV
  obtain ⟨a0, len0, cap0, rfl⟩ := okWide_slice Try.underlying22 (hval 0 22 v0 rfl rfl)
  have k0 := h0
  have lt0 : ∀ x ∈ p0, x.block < W.heap.size := by obtain ⟨m, hm⟩ := k0; exact DataW.trod_lt m _ _ _ hm
  obtain ⟨z0, w0⟩ : ∃ zs, IsRow .u8 W a0 len0 cap0 zs := by
    obtain ⟨fuel, hf⟩ := h0
    rcases open_ints Try.underlying22 Try.underlying5 (by kernel_rfl) hf with ⟨hcs, _⟩ | ⟨x, l, c, zs, hcs, _, hl, hm, hz, _, hcell, hwz⟩
    · simp [Value.cells] at hcs
      obtain ⟨rfl, rfl, rfl⟩ := hcs
      exact ⟨[], .inl ⟨rfl, rfl, rfl, rfl⟩⟩
    · simp [Value.cells] at hcs
      obtain ⟨rfl, rfl, rfl⟩ := hcs
      exact ⟨zs, .inr ⟨_, rfl, hl, hm, by simpa using hz, hcell, hwz⟩⟩
  clear hA0 hval0
  refine (walk a0 len0 cap0 z0 W w0).mono fun e W' ⟨he, bel⟩ => ?_
  subst he
  exact ⟨_, rfl, _, _, _, [], _, [], hW', trodAll_mk1 (shut_bool Try.underlying4 _), (trodAll_cons_mk (Below.trod laidOut (by kernel_rfl) (of_decide_eq_true (by kernel_rfl)) k0 bel lt0) trodAll_mk0), rfl, bel.frame _, fun h => by cases h⟩

theorem over : Rows.frameGetsRow.holds Try.pinned (OpenSpec.ofChange Rows.frameGetsSpec) :=
  OpenClaim.holds_of_wide 4 Try.f4 rfl rfl rfl rfl rfl rfl rfl ⟨rfl, rfl, rfl, rfl, rfl⟩ rfl rfl rfl rfl rfl (by kernel_rfl) Try.func4 (by kernel_rfl)
    (of_decide_eq_true (by kernel_rfl)) (by unfold Func.isWrapper; first | (rw [if_pos (by decide +kernel)]; kernel_rfl) | (rw [if_neg (by decide +kernel)]; exact ⟨rfl, rfl⟩))
    (fun os started H enc _ => lifted os started H enc)

end Go.Proofs.Ytdeinmbhnedgkaa.frameGets
namespace Go.Proofs.Ytdeinmbhnedgkaa
theorem frameGets_holds : Rows.FrameGetsSaid := frameGets.over
#print axioms frameGets_holds
end Go.Proofs.Ytdeinmbhnedgkaa
