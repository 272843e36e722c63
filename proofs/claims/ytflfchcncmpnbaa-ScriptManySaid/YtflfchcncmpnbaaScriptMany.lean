/- ScriptMany: for every input the law answers true, and its arguments read as before. Conditions: none. -/
import Derived.Test.YtflfchcncmpnbaaScm
import Derived.Test.YtflfchcncmpnbaaSz
namespace Go.Proofs.Ytflfchcncmpnbaa.scriptMany
open Go.ChangeShapes Go.WideShapes Go.ChangeAt Go.RowKit
open Sc

theorem rest_bits (a : Int) : ∃ r : Nat, r ≤ 7 ∧ bits .and .i64 a 7 = r := bits_any a 7 (by omega)

set_option maxHeartbeats 2000000 in
theorem walk (a0 : Int) (w : World) (w0 : (Lit.int .i64 a0).wf = true) :
    Calls Try.prog 6 #[.int .i64 a0] w fun e w' => e = .returned (.bool true) ∧ Below w.heap.size w w' := by
  go_enter Try.func6, Try.ntmps6
  obtain ⟨r, hr, hrb⟩ := rest_bits a0
  have HA0 := Lib.hid w0
  clear w0 HA0
  go_wp2_with fail
  refine (lhead_any w).mono ?_
  rintro e w1 ⟨rfl, hb1⟩
  have HB1 := Lib.hid hb1
  clear hb1
  obtain ⟨g, hg⟩ : ∃ g, w.heap.size = g := ⟨_, rfl⟩
  rw [hg] at HB1
  have HG := Lib.hid hg
  clear hg
  have hgw := HB1.out.size
  rw [HG.out] at hgw
  go_upto_region 4 with fail
  obtain ⟨n, hn⟩ : ∃ n : Nat, n = 8189 + r := ⟨_, rfl⟩
  rw [show (8189 : Int) + (r : Int) = (n : Nat) by omega]
  have hn9 : n ≤ 9000 := by omega
  have hn1 : 8000 ≤ n := by omega
  clear hn hrb hr
  have hmk := make_events w1 (n : Int) n rfl (by omega)
  have HX := Lib.hid (Bx.new w1 w1.heap.size rfl (ecells (List.replicate n ev0)).toArray 30)
  have HB2 := Lib.hid (HB1.out.alloc hgw (.cells (ecells (List.replicate n ev0)).toArray 30))
  go_upto_region 5 with fail
  clear hmk HB1
  generalize w1.alloc _ = w2 at *
  obtain ⟨g2, hg2⟩ : ∃ g2, w1.heap.size = g2 := ⟨_, rfl⟩
  rw [hg2] at HX hgw
  simp only [hg2]
  clear hg2
  rw [← ticks_zero] at HX
  go_wp2_with fail
  go_loopw [20] (fun i wr => ∃ k : Nat, k ≤ n ∧ i = .int .i64 (k : Nat) ∧ Bx g2 wr (ecells (ticks n k)).toArray ∧ Below g w wr) (fun i _ => n - (intOf i).toNat)
  case atStart => exact ⟨0, by omega, rfl, HX.out, HB2.out⟩
  case round =>
    obtain ⟨k, hk, rfl, hx, hb⟩ := hrel
    have HXk := Lib.hid hx
    have HBk := Lib.hid hb
    clear hx hb HX HB2
    by_cases hlt : k < n
    · have hc := HXk.out.cell (k * 4) (.int .i64 0) (by rw [List.getElem?_toArray]; exact (ecells_get _ _ _ (ticks_at n k hlt)).1)
      have hf := HXk.out.free (k * 4)
      have HSt := Lib.hid (ticks_step n k hlt)
      go_wp2_with fail
      go_roundw
      case rel => exact ⟨k + 1, by omega, by go_num, by rw [← HSt.out]; exact HXk.out.set _ _, HBk.out.setCell (by simpa using hgw) _⟩
      case measure => simp [intOf]; omega
    · obtain rfl : k = n := by omega
      have HT0 := tick_row HXk.out
      rw [ticks_all] at HT0
      have HT := Lib.hid HT0
      have HRi := Lib.hid (ticks_right k)
      have HEl := Lib.hid (evs_ticks k)
      have hgk := HBk.out.size
      rw [HG.out] at hgk
      clear HT0 HXk
      obtain ⟨L, hL⟩ : ∃ L, List.replicate k tick = L := ⟨_, rfl⟩
      rw [hL] at HT HRi HEl
      have HLn := Lib.hid (show L.length = k by rw [← hL]; simp)
      have HLt := Lib.hid hL
      clear hL hlt
      by_cases h8 : 8192 < k
      · have hd8 : decide ((k : Int) > 8192) = true := by simp; omega
        go_wp2_with fail
        refine (default_any _).mono ?_
        rintro _ w3 ⟨rfl, hb3⟩
        have HT3 := Lib.hid ((HT.out.below hb3).more hb3.size)
        have HB3 := Lib.hid (HBk.out.trans (hb3.mono hgk))
        have hg3 := Nat.le_trans hgk hb3.size
        clear hb3
        go_wp2_with fail
        refine (encode_any 4096 512 2048 256 3 100 0 80 _ k k L w3 HT3.out HLn.out (by omega)).mono ?_
        rintro x w4 ⟨hb4, hg4⟩
        have HT4 := Lib.hid ((HT3.out.below hb4).more hb4.size)
        have HB4 := Lib.hid (HB3.out.trans (hb4.mono hg3))
        have hg4w := Nat.le_trans hg3 hb4.size
        clear hb4
        rcases hg4 with ⟨_, rfl⟩ | ⟨h1, _⟩ | ⟨h1, _⟩
        rotate_left
        · rw [HLn.out] at h1; omega
        · rw [HLn.out] at h1; omega
        go_wp2_with fail
        refine (default_any _).mono ?_
        rintro _ w5 ⟨rfl, hb5⟩
        have HT5 := Lib.hid ((HT4.out.below hb5).more hb5.size)
        have HB5 := Lib.hid (HB4.out.trans (hb5.mono hg4w))
        have hg5 := Nat.le_trans hg4w hb5.size
        clear hb5
        go_wp2_with fail
        refine (lbytes_any 4096 512 2048 256 3 100 0 80 _ k k L w5 rt_default HT5.out HLn.out hn9 HRi.out).mono ?_
        rintro x w6 ⟨A6, c6, rfl, ho6, hb6⟩
        have HO6 := Lib.hid ho6
        have HB6 := Lib.hid (HB5.out.trans (hb6.mono hg5))
        have hg6 := Nat.le_trans hg5 hb6.size
        clear ho6 hb6
        go_wp2_with fail
        refine (decode_cbs rt_default A6 _ c6 (evs L) w6 HO6.out.bytes HO6.out.cap HO6.out.capmax (by have := HEl.out; omega)).mono ?_
        rintro x w7 ⟨hb7, M, m, er, A7, n7, c7, rfl, hrow, hrd⟩
        have HB7 := Lib.hid (HB6.out.trans (hb7.mono hg6))
        have hg7 := Nat.le_trans hg6 hb7.size
        clear hb7
        obtain ⟨_, hm8, hm7, rfl⟩ := reads_many hrd HRi.out (by rw [HLn.out]; exact h8)
        have hn7 := hrow.len
        have hlen7 : (evs M).length = 57344 := by
          obtain ⟨hM, _, _, _⟩ := reads_many hrd HRi.out (by rw [HLn.out]; exact h8)
          rw [hM, ← HLt.out, List.take_replicate, evs_ticks]
          omega
        rw [hm8] at hn7
        obtain ⟨n7, rfl⟩ : ∃ q, n7 = q := ⟨_, rfl⟩
        rw [hlen7] at hm7
        have hm9 : 24 + m = 57368 := by omega
        rw [hm9]
        clear hm7 hm9
        clear hrd hrow hm8 hlen7
        have HBf := Lib.hid (HB7.out.alloc hg7 (.cells (cv 4096 512 2048 256 3 100 0 80) 23))
        unfold cv at HBf ⊢
        go_wp2
        go_ret
        exact ⟨rfl, by rw [HG.out]; exact HBf.out⟩
      · have hd8 : decide ((k : Int) > 8192) = false := by simp; omega
        go_wp2_with fail
        refine (default_any _).mono ?_
        rintro _ w3 ⟨rfl, hb3⟩
        have HT3 := Lib.hid ((HT.out.below hb3).more hb3.size)
        have HB3 := Lib.hid (HBk.out.trans (hb3.mono hgk))
        have hg3 := Nat.le_trans hgk hb3.size
        clear hb3
        go_wp2_with fail
        refine (encode_any 4096 512 2048 256 3 100 0 80 _ k k L w3 HT3.out HLn.out (by omega)).mono ?_
        rintro x w4 ⟨hb4, hg4⟩
        have HT4 := Lib.hid ((HT3.out.below hb4).more hb4.size)
        have HB4 := Lib.hid (HB3.out.trans (hb4.mono hg3))
        have hg4w := Nat.le_trans hg3 hb4.size
        clear hb4
        rcases hg4 with ⟨h1, _⟩ | ⟨_, h1, _⟩ | ⟨_, _, _, A4, c4, rfl, ho4⟩
        · rw [HLn.out] at h1; omega
        · rcases h1 with h1 | ⟨x, hx, h1⟩
          · rw [rt_default] at h1; cases h1
          · rw [HRi.out x hx] at h1; cases h1
        clear ho4
        go_wp2_with fail
        refine (default_any _).mono ?_
        rintro _ w5 ⟨rfl, hb5⟩
        have HT5 := Lib.hid ((HT4.out.below hb5).more hb5.size)
        have HB5 := Lib.hid (HB4.out.trans (hb5.mono hg4w))
        have hg5 := Nat.le_trans hg4w hb5.size
        clear hb5
        go_wp2_with fail
        refine (lbytes_any 4096 512 2048 256 3 100 0 80 _ k k L w5 rt_default HT5.out HLn.out hn9 HRi.out).mono ?_
        rintro x w6 ⟨A6, c6, rfl, ho6, hb6⟩
        have HO6 := Lib.hid ho6
        have HB6 := Lib.hid (HB5.out.trans (hb6.mono hg5))
        have hg6 := Nat.le_trans hg5 hb6.size
        clear ho6 hb6
        go_wp2_with fail
        refine (decode_cbs rt_default A6 _ c6 (evs L) w6 HO6.out.bytes HO6.out.cap HO6.out.capmax (by have := HEl.out; omega)).mono ?_
        rintro x w7 ⟨hb7, M, m, er, A7, n7, c7, rfl, hrow, hrd⟩
        have HB7 := Lib.hid (HB6.out.trans (hb7.mono hg6))
        have hg7 := Nat.le_trans hg6 hb7.size
        clear hb7
        obtain ⟨rfl, rfl, rfl⟩ := reads_all hrd HRi.out (by rw [HLn.out]; omega)
        have hn7 := hrow.len
        rw [HLn.out] at hn7
        subst hn7
        clear hrd hrow
        rw [HEl.out]
        clear HEl
        have HBf := Lib.hid (HB7.out.alloc hg7 (.cells (cv 4096 512 2048 256 3 100 0 80) 23))
        have hq : (((24 + 7 * k : Nat) : Int) == 24 + 7 * (k : Int)) = true := by simp
        unfold cv at HBf ⊢
        go_wp2
        go_ret
        exact ⟨rfl, by rw [HG.out]; exact HBf.out⟩

set_option maxRecDepth 100000 in
theorem lifted (os : Os) (started : os.Started) (H : Type) (enc : TypeId × Value → H) :
    ReturnsInHanded {} Try.checked os 6 .any (Rows.scriptManySpec.pre6 enc Try.prog Try.f6 Rows.scriptManyRow.domain false) (Rows.scriptManySpec.post enc Try.prog Try.f6 false true false false) := by
  refine returnsInHanded_of_change_sized (C := Try.checked) own started (by kernel_rfl) Try.func6
    (ChangeSpec.witness6 (enc := enc) (C := Try.checked) false ⟨#[], #[.int .i64 0], []⟩ 8 (by kernel_rfl) (by kernel_rfl) (by kernel_rfl) (by kernel_rfl)) ?_
  intro W base args ds gs before hval0 hW hcnd hsz0 _
  have hval : ∀ (j : Nat) t v, Try.f6.params[j]? = some t → args[j]? = some v → Value.okWide Try.prog W .any base t v := hval0
  have hW' := hW
  obtain ⟨p, q, hA0, hV, rfl, hfz, hnd⟩ := hW
  have hsz : (DataW.weightsEach Try.prog (Try.f6.params.toList ++ Rows.scriptManySpec.plain.varTypes Try.prog) (ds ++ gs)).all (· ≤ reachBytes) = true := hsz0
  have hA : DataW.TrodAll enc Try.prog W 0 (fun _ => true) true Try.f6.params.toList args.toList ds p := hA0
  rw [Try.params6] at hA hval hsz
  obtain ⟨v0, vs0, d0, ds0, p0, q0, hargs, rfl, rfl, h0, r0⟩ := trodAll_cons hA
  obtain ⟨rfl, rfl, rfl⟩ := trodAll_nil r0
  obtain rfl : args = #[v0] := by cases args; simp_all
  obtain ⟨rfl, rfl⟩ := trodVars_none hV
  obtain ⟨a0, rfl, rfl, rfl, w0⟩ := open_int Try.underlying3 (hval 0 3 v0 rfl rfl) h0
  clear hA0 hval0 hsz hsz0
  refine (walk a0 W w0).mono fun e W' ⟨he, bel⟩ => ?_
  subst he
  exact ⟨_, rfl, _, _, _, [], _, [], hW', trodAll_mk1 (shut_bool Try.underlying4 _), (trodAll_cons_mk (shut_int Try.underlying3 w0) trodAll_mk0), rfl, bel.frame _, fun h => by cases h⟩

theorem over : Rows.scriptManyRow.holds Try.pinned (OpenSpec.ofChange Rows.scriptManySpec) :=
  OpenClaim.holds_of_wide 6 Try.f6 rfl rfl rfl rfl rfl rfl rfl ⟨rfl, rfl, rfl, rfl, rfl⟩ rfl rfl rfl rfl rfl (by kernel_rfl) Try.func6 (by kernel_rfl)
    (of_decide_eq_true (by kernel_rfl)) (by unfold Func.isWrapper; first | (rw [if_pos (by decide +kernel)]; kernel_rfl) | (rw [if_neg (by decide +kernel)]; exact ⟨rfl, rfl⟩))
    (fun os started H enc _ => lifted os started H enc)

end Go.Proofs.Ytflfchcncmpnbaa.scriptMany
namespace Go.Proofs.Ytflfchcncmpnbaa
theorem scriptMany_holds : Rows.ScriptManySaid := scriptMany.over
#print axioms scriptMany_holds
end Go.Proofs.Ytflfchcncmpnbaa
