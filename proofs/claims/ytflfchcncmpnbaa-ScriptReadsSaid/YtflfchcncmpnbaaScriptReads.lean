/- ScriptReads: for every input the law answers true, and its arguments read as before. Conditions: none. -/
import Derived.Test.YtflfchcncmpnbaaScq
namespace Go.Proofs.Ytflfchcncmpnbaa.scriptReads
open Go.ChangeShapes Go.WideShapes Go.ChangeAt Go.RowKit
open Sc

set_option maxHeartbeats 8000000 in
set_option maxRecDepth 100000 in
theorem walk (a0 : Option Addr) (len0 cap0 : Nat) (z0 : List Int) (w : World) (w0 : IsRow .u8 w a0 len0 cap0 z0) :
    Calls Try.prog 4 #[.slice a0 len0 cap0] w fun e w' => e = .returned (.bool true) ∧ Below w.heap.size w w' := by
  have hmix : Try.prog.follows .mixedOrders = true := by kernel_rfl
  obtain ⟨l, hl, hlm⟩ := w0.bytes
  obtain ⟨hcap, hmax⟩ := w0.cap
  unfold maxLen at hmax
  replace hmax : cap0 ≤ 9223372036854775807 := hmax
  have hlen := hl.1
  have HL := Lib.hid hl
  have HN := Lib.hid hlen
  have HA0 := Lib.hid w0
  clear hl hlen w0 HA0
  obtain ⟨g, hg⟩ : ∃ g, w.heap.size = g := ⟨_, rfl⟩
  rw [hg] at HL
  have HG := Lib.hid hg
  clear hg
  go_enter Try.func4, Try.ntmps4
  go_wp2_with fail
  refine (lhead_any w).mono ?_
  rintro e w1 ⟨rfl, hb⟩
  rw [HG.out] at hb
  have HB1 := Lib.hid hb
  have hg1 := hb.size
  rw [HG.out] at hg1
  clear hb
  by_cases h800 : 800 < len0
  · have hd : decide ((len0 : Int) > 800) = true := by simp; omega
    go_wp2
    go_ret
    exact ⟨rfl, by rw [HG.out]; exact HB1.out⟩
  have hd : decide ((len0 : Int) > 800) = false := by simp; omega
  go_wp2_with fail
  refine (decode_any a0 len0 cap0 l w1 ((HL.out.below HB1.out).more hg1) hcap (by omega)).mono ?_
  rintro e w2 ⟨hb, hgv⟩
  have HB2 := Lib.hid (HB1.out.trans (hb.mono hg1))
  have hg2 := Nat.le_trans hg1 hb.size
  have hgs := hb.size
  clear hb HB1
  rw [HN.out] at hgv
  rcases hgv with ⟨h1, _⟩ | ⟨h1, rfl⟩ | ⟨h1, _, h2, rfl⟩ | ⟨h1, _, h2, L, m, er, A, n, c, rfl, hrow, hrd⟩
  · omega
  · have hd2 : decide ((len0 : Int) < 24) = true := by simp; omega
    have HX := Lib.hid (Bx.new w2 w2.heap.size rfl #[.int .i64 0, .int .i64 0, .int .i64 0, .int .i64 0, .int .i64 0, .int .i64 0, .int .i64 0, .int .i64 0] 23)
    have HB3 := Lib.hid (HB2.out.alloc hg2 (.cells #[.int .i64 0, .int .i64 0, .int .i64 0, .int .i64 0, .int .i64 0, .int .i64 0, .int .i64 0, .int .i64 0] 23))
    rw [show cf8 (fun _ => 0) = #[.int .i64 0, .int .i64 0, .int .i64 0, .int .i64 0, .int .i64 0, .int .i64 0, .int .i64 0, .int .i64 0] from rfl]
    go_upto_region 6 with fail
    generalize w2.alloc _ = w3 at *
    obtain ⟨c0, c1, c2, c3, c4, c5, c6, c7⟩ := HX.out.cells8
    go_wp2
    go_ret
    exact ⟨rfl, by rw [HG.out]; exact HB3.out⟩
  · have hd2 : decide ((len0 : Int) < 24) = false := by simp; omega
    have HX := Lib.hid (Bx.new w2 w2.heap.size rfl #[.int .i64 0, .int .i64 0, .int .i64 0, .int .i64 0, .int .i64 0, .int .i64 0, .int .i64 0, .int .i64 0] 23)
    have HB3 := Lib.hid (HB2.out.alloc hg2 (.cells #[.int .i64 0, .int .i64 0, .int .i64 0, .int .i64 0, .int .i64 0, .int .i64 0, .int .i64 0, .int .i64 0] 23))
    have HR := Lib.hid h2
    rw [show cf8 (fun _ => 0) = #[.int .i64 0, .int .i64 0, .int .i64 0, .int .i64 0, .int .i64 0, .int .i64 0, .int .i64 0, .int .i64 0] from rfl]
    clear h2
    go_upto_region 8 with fail
    generalize w2.alloc _ = w3 at *
    obtain ⟨c0, c1, c2, c3, c4, c5, c6, c7⟩ := HX.out.cells8
    have hg3 : g ≤ w3.heap.size := by have := HX.out.room; omega
    go_upto_region 12 with fail
    clear c0 c1 c2 c3 c4 c5 c6 c7 HX
    have HY := Lib.hid (show Bx w3.heap.size (w3.alloc (.cells #[.int .i64 0, .int .i64 0, .int .i64 0, .int .i64 0, .int .i64 0, .int .i64 0, .int .i64 0, .int .i64 0] 41)) (cf8 (upto l 0)) from Bx.new w3 _ rfl _ _)
    have HB4 := Lib.hid (HB3.out.alloc hg3 (.cells #[.int .i64 0, .int .i64 0, .int .i64 0, .int .i64 0, .int .i64 0, .int .i64 0, .int .i64 0, .int .i64 0] 41))
    generalize w3.alloc _ = w4 at *
    obtain ⟨gx, hgx⟩ : ∃ gx, w3.heap.size = gx := ⟨_, rfl⟩
    rw [hgx] at HY hg3
    simp only [hgx]
    clear hgx HB3
    obtain ⟨b, off, rfl, hbB, _⟩ := HL.out.2 (by omega)
    go_wp2_with fail
    go_loopw [60] (fun i wr => ∃ k : Nat, k ≤ 8 ∧ i = .int .i64 (k : Nat) ∧ Bx gx wr (cf8 (upto l k)) ∧ Below g w wr) (fun i _ => 8 - (intOf i).toNat)
    case atStart => exact ⟨0, by omega, rfl, HY.out, HB4.out⟩
    case round =>
      obtain ⟨k, hk, rfl, hy, hb⟩ := hrel
      have HYk := Lib.hid hy
      have HBk := Lib.hid hb
      clear hy hb HY HB4
      rcases (show k = 0 ∨ k = 1 ∨ k = 2 ∨ k = 3 ∨ k = 4 ∨ k = 5 ∨ k = 6 ∨ k = 7 ∨ k = 8 by omega) with rfl | rfl | rfl | rfl | rfl | rfl | rfl | rfl | rfl
      · have HC := Lib.hid (fun (W : World) (h : Below g w W) => (show W.cell? ⟨b, off, none⟩ = some (.int .u8 (l[0]?.getD 0#8).toNat) ∧ W.cell? ⟨b, off + 1, none⟩ = some (.int .u8 (l[1]?.getD 0#8).toNat) ∧ W.cell? ⟨b, off + 2, none⟩ = some (.int .u8 (l[2]?.getD 0#8).toNat) by
          obtain ⟨b', off', e, _, hc⟩ := (HL.out.below h).2 (by omega)
          injection e with e
          injection e with e1 e2 _
          subst e1 e2
          exact ⟨hc 0 (by omega), hc 1 (by omega), hc 2 (by omega)⟩))
        have HCf := Lib.hid (show cof l 0 = 65536 * (l[0]?.getD 0#8).toNat + 256 * (l[1]?.getD 0#8).toNat + (l[2]?.getD 0#8).toNat from nat3 l 0 (by rw [HN.out]; omega))
        go_upto_region 15 with fail
        generalize l[0]?.getD 0#8 = y0 at *
        generalize l[1]?.getD 0#8 = y1 at *
        generalize l[2]?.getD 0#8 = y2 at *
        obtain ⟨q0, q1, q2, q3⟩ := three_w y0 y1 y2
        have r0 := one_w y0
        have r1 := one_w y1
        have r2 := one_w y2
        have hcf : 65536 * (y0.toNat : Int) + 256 * (y1.toNat : Int) + (y2.toNat : Int) = ((cof l 0 : Nat) : Int) := by have := HCf.out; omega
        have HCe := Lib.hid hcf
        have hcb : cof l 0 < 16777216 := by have := HCf.out; omega
        have HCb := Lib.hid hcb
        clear hcf hcb
        have n0 : ¬ ((len0 : Int) ≤ 0) := by omega
        have n1 : ¬ ((len0 : Int) ≤ 1) := by omega
        have n2 : ¬ ((len0 : Int) ≤ 2) := by omega
        have hyc := HYk.out.cell 0 (.int .i64 0) rfl
        have hyf := HYk.out.free 0
        refine wp_region_held (S := fun W => Below g w W) hmix ?_
        change wpAnyH _ _ _ _ _ _ _ _ (World.drew _)
        have hS0 : Below g w wr.drew := below_drew HBk.out
        refine wpAnyH_take (i := 0) (v := .int .i64 0) rfl (by kernel_rfl) (by kernel_rfl) (by kernel_rfl) (fun _ _ _ h => h) (.inl ⟨by kernel_rfl, fun W hW => ?_⟩) hS0 ?_
        · go_simp; try (first | (exact IntWalk.i64_in _ (by omega)) | (intro hh; exfalso; omega))
        refine wpAnyH_take (i := 1) (v := .slice (some ⟨b, off, none⟩) len0 cap0) rfl (by kernel_rfl) (by kernel_rfl) (by kernel_rfl) (fun _ _ _ h => h) (.inl ⟨by kernel_rfl, fun W hW => ?_⟩) hS0 ?_
        · go_simp; try (first | (exact IntWalk.i64_in _ (by omega)) | (intro hh; exfalso; omega))
        refine wpAnyH_take (i := 2) (v := .int .i64 0) rfl (by kernel_rfl) (by kernel_rfl) (by kernel_rfl) (fun _ _ _ h => h) (.inl ⟨by kernel_rfl, fun W hW => ?_⟩) hS0 ?_
        · go_simp; try (first | (exact IntWalk.i64_in _ (by omega)) | (intro hh; exfalso; omega))
        refine wpAnyH_take (i := 3) (v := .int .i64 0) rfl (by kernel_rfl) (by kernel_rfl) (by kernel_rfl) (fun _ _ _ h => h) (.inl ⟨by kernel_rfl, fun W hW => ?_⟩) hS0 ?_
        · go_simp; try (first | (exact IntWalk.i64_in _ (by omega)) | (intro hh; exfalso; omega))
        refine wpAnyH_take (i := 4) (v := .pointer (some ⟨b, off, none⟩)) rfl (by kernel_rfl) (by kernel_rfl) (by kernel_rfl) (fun _ _ _ h => h) (.inl ⟨by kernel_rfl, fun W hW => ?_⟩) hS0 ?_
        · go_simp; try (first | (exact IntWalk.i64_in _ (by omega)) | (intro hh; exfalso; omega))
        refine wpAnyH_take (i := 5) (v := .int .u8 y0.toNat) rfl (by kernel_rfl) (by kernel_rfl) (by kernel_rfl) (fun _ _ _ h => h) (.inl ⟨by kernel_rfl, fun W hW => ?_⟩) hS0 ?_
        · obtain ⟨e0, e1, e2⟩ := HC.out W hW; go_simp; try (first | (exact IntWalk.i64_in _ (by omega)) | (intro hh; exfalso; omega))
        refine wpAnyH_take (i := 6) (v := .int .i64 y0.toNat) rfl (by kernel_rfl) (by kernel_rfl) (by kernel_rfl) (fun _ _ _ h => h) (.inl ⟨by kernel_rfl, fun W hW => ?_⟩) hS0 ?_
        · go_simp; try (first | (exact IntWalk.i64_in _ (by omega)) | (intro hh; exfalso; omega))
        refine wpAnyH_take (i := 7) (v := .int .i64 (65536 * (y0.toNat : Int))) rfl (by kernel_rfl) (by kernel_rfl) (by kernel_rfl) (fun _ _ _ h => h) (.inl ⟨by kernel_rfl, fun W hW => ?_⟩) hS0 ?_
        · go_simp; try (first | (exact IntWalk.i64_in _ (by omega)) | (intro hh; exfalso; omega))
        refine wpAnyH_take (i := 8) (v := .slice (some ⟨b, off, none⟩) len0 cap0) rfl (by kernel_rfl) (by kernel_rfl) (by kernel_rfl) (fun _ _ _ h => h) (.inl ⟨by kernel_rfl, fun W hW => ?_⟩) hS0 ?_
        · go_simp; try (first | (exact IntWalk.i64_in _ (by omega)) | (intro hh; exfalso; omega))
        refine wpAnyH_take (i := 9) (v := .int .i64 0) rfl (by kernel_rfl) (by kernel_rfl) (by kernel_rfl) (fun _ _ _ h => h) (.inl ⟨by kernel_rfl, fun W hW => ?_⟩) hS0 ?_
        · go_simp; try (first | (exact IntWalk.i64_in _ (by omega)) | (intro hh; exfalso; omega))
        refine wpAnyH_take (i := 10) (v := .int .i64 0) rfl (by kernel_rfl) (by kernel_rfl) (by kernel_rfl) (fun _ _ _ h => h) (.inl ⟨by kernel_rfl, fun W hW => ?_⟩) hS0 ?_
        · go_simp; try (first | (exact IntWalk.i64_in _ (by omega)) | (intro hh; exfalso; omega))
        refine wpAnyH_take (i := 11) (v := .int .i64 1) rfl (by kernel_rfl) (by kernel_rfl) (by kernel_rfl) (fun _ _ _ h => h) (.inl ⟨by kernel_rfl, fun W hW => ?_⟩) hS0 ?_
        · go_simp; try (first | (exact IntWalk.i64_in _ (by omega)) | (intro hh; exfalso; omega))
        refine wpAnyH_take (i := 12) (v := .pointer (some ⟨b, off + 1, none⟩)) rfl (by kernel_rfl) (by kernel_rfl) (by kernel_rfl) (fun _ _ _ h => h) (.inl ⟨by kernel_rfl, fun W hW => ?_⟩) hS0 ?_
        · go_simp; try (first | (exact IntWalk.i64_in _ (by omega)) | (intro hh; exfalso; omega))
        refine wpAnyH_take (i := 13) (v := .int .u8 y1.toNat) rfl (by kernel_rfl) (by kernel_rfl) (by kernel_rfl) (fun _ _ _ h => h) (.inl ⟨by kernel_rfl, fun W hW => ?_⟩) hS0 ?_
        · obtain ⟨e0, e1, e2⟩ := HC.out W hW; go_simp; try (first | (exact IntWalk.i64_in _ (by omega)) | (intro hh; exfalso; omega))
        refine wpAnyH_take (i := 14) (v := .int .i64 y1.toNat) rfl (by kernel_rfl) (by kernel_rfl) (by kernel_rfl) (fun _ _ _ h => h) (.inl ⟨by kernel_rfl, fun W hW => ?_⟩) hS0 ?_
        · go_simp; try (first | (exact IntWalk.i64_in _ (by omega)) | (intro hh; exfalso; omega))
        refine wpAnyH_take (i := 15) (v := .int .i64 (256 * (y1.toNat : Int))) rfl (by kernel_rfl) (by kernel_rfl) (by kernel_rfl) (fun _ _ _ h => h) (.inl ⟨by kernel_rfl, fun W hW => ?_⟩) hS0 ?_
        · go_simp; try (first | (exact IntWalk.i64_in _ (by omega)) | (intro hh; exfalso; omega))
        refine wpAnyH_take (i := 16) (v := .int .i64 (65536 * (y0.toNat : Int) + 256 * (y1.toNat : Int))) rfl (by kernel_rfl) (by kernel_rfl) (by kernel_rfl) (fun _ _ _ h => h) (.inl ⟨by kernel_rfl, fun W hW => ?_⟩) hS0 ?_
        · go_simp; try (first | (exact IntWalk.i64_in _ (by omega)) | (intro hh; exfalso; omega))
        refine wpAnyH_take (i := 17) (v := .slice (some ⟨b, off, none⟩) len0 cap0) rfl (by kernel_rfl) (by kernel_rfl) (by kernel_rfl) (fun _ _ _ h => h) (.inl ⟨by kernel_rfl, fun W hW => ?_⟩) hS0 ?_
        · go_simp; try (first | (exact IntWalk.i64_in _ (by omega)) | (intro hh; exfalso; omega))
        refine wpAnyH_take (i := 18) (v := .int .i64 0) rfl (by kernel_rfl) (by kernel_rfl) (by kernel_rfl) (fun _ _ _ h => h) (.inl ⟨by kernel_rfl, fun W hW => ?_⟩) hS0 ?_
        · go_simp; try (first | (exact IntWalk.i64_in _ (by omega)) | (intro hh; exfalso; omega))
        refine wpAnyH_take (i := 19) (v := .int .i64 0) rfl (by kernel_rfl) (by kernel_rfl) (by kernel_rfl) (fun _ _ _ h => h) (.inl ⟨by kernel_rfl, fun W hW => ?_⟩) hS0 ?_
        · go_simp; try (first | (exact IntWalk.i64_in _ (by omega)) | (intro hh; exfalso; omega))
        refine wpAnyH_take (i := 20) (v := .int .i64 2) rfl (by kernel_rfl) (by kernel_rfl) (by kernel_rfl) (fun _ _ _ h => h) (.inl ⟨by kernel_rfl, fun W hW => ?_⟩) hS0 ?_
        · go_simp; try (first | (exact IntWalk.i64_in _ (by omega)) | (intro hh; exfalso; omega))
        refine wpAnyH_take (i := 21) (v := .pointer (some ⟨b, off + 2, none⟩)) rfl (by kernel_rfl) (by kernel_rfl) (by kernel_rfl) (fun _ _ _ h => h) (.inl ⟨by kernel_rfl, fun W hW => ?_⟩) hS0 ?_
        · go_simp; try (first | (exact IntWalk.i64_in _ (by omega)) | (intro hh; exfalso; omega))
        refine wpAnyH_take (i := 22) (v := .int .u8 y2.toNat) rfl (by kernel_rfl) (by kernel_rfl) (by kernel_rfl) (fun _ _ _ h => h) (.inl ⟨by kernel_rfl, fun W hW => ?_⟩) hS0 ?_
        · obtain ⟨e0, e1, e2⟩ := HC.out W hW; go_simp; try (first | (exact IntWalk.i64_in _ (by omega)) | (intro hh; exfalso; omega))
        refine wpAnyH_take (i := 23) (v := .int .i64 y2.toNat) rfl (by kernel_rfl) (by kernel_rfl) (by kernel_rfl) (fun _ _ _ h => h) (.inl ⟨by kernel_rfl, fun W hW => ?_⟩) hS0 ?_
        · go_simp; try (first | (exact IntWalk.i64_in _ (by omega)) | (intro hh; exfalso; omega))
        refine wpAnyH_take (i := 24) (v := .int .i64 (cof l 0 : Nat)) rfl (by kernel_rfl) (by kernel_rfl) (by kernel_rfl) (fun _ _ _ h => h) (.inl ⟨by kernel_rfl, fun W hW => ?_⟩) hS0 ?_
        · have hcf := HCe.out; have hcb := HCb.out; go_simp; try exact IntWalk.i64_in _ (by omega)
        refine wpAnyH_take (i := 25) (v := .pointer (some ⟨gx, 0, none⟩)) rfl (by kernel_rfl) (by kernel_rfl) (by kernel_rfl) (fun _ _ _ h => h) (.inl ⟨by kernel_rfl, fun W hW => ?_⟩) hS0 ?_
        · go_simp
        refine wpAnyH_all (rs := [26]) (by kernel_rfl) (by simp) ?_
        intro z hz
        rw [List.mem_singleton.1 hz]
        clear hz
        unfold wpOp
        go_simp
        refine .inl ⟨below_drew (HBk.out.setCell hg3 _), ?_⟩
        refine wpAnyH_done (by kernel_rfl) ?_ _
        clear hS0 hyc hyf
        go_wp2_with fail
        go_roundw
        case rel => exact ⟨1, by omega, by go_num, ⟨(HYk.out.set 0 (.int .i64 (cof l 0 : Nat))).head⟩, below_drew (HBk.out.setCell hg3 _)⟩
        case measure => simp [intOf]
      · have HC := Lib.hid (fun (W : World) (h : Below g w W) => (show W.cell? ⟨b, off + 3, none⟩ = some (.int .u8 (l[3]?.getD 0#8).toNat) ∧ W.cell? ⟨b, off + 4, none⟩ = some (.int .u8 (l[4]?.getD 0#8).toNat) ∧ W.cell? ⟨b, off + 5, none⟩ = some (.int .u8 (l[5]?.getD 0#8).toNat) by
          obtain ⟨b', off', e, _, hc⟩ := (HL.out.below h).2 (by omega)
          injection e with e
          injection e with e1 e2 _
          subst e1 e2
          exact ⟨hc 3 (by omega), hc 4 (by omega), hc 5 (by omega)⟩))
        have HCf := Lib.hid (show cof l 1 = 65536 * (l[3]?.getD 0#8).toNat + 256 * (l[4]?.getD 0#8).toNat + (l[5]?.getD 0#8).toNat from nat3 l 3 (by rw [HN.out]; omega))
        go_upto_region 15 with fail
        generalize l[3]?.getD 0#8 = y0 at *
        generalize l[4]?.getD 0#8 = y1 at *
        generalize l[5]?.getD 0#8 = y2 at *
        obtain ⟨q0, q1, q2, q3⟩ := three_w y0 y1 y2
        have r0 := one_w y0
        have r1 := one_w y1
        have r2 := one_w y2
        have hcf : 65536 * (y0.toNat : Int) + 256 * (y1.toNat : Int) + (y2.toNat : Int) = ((cof l 1 : Nat) : Int) := by have := HCf.out; omega
        have HCe := Lib.hid hcf
        have hcb : cof l 1 < 16777216 := by have := HCf.out; omega
        have HCb := Lib.hid hcb
        clear hcf hcb
        have n0 : ¬ ((len0 : Int) ≤ 3) := by omega
        have n1 : ¬ ((len0 : Int) ≤ 4) := by omega
        have n2 : ¬ ((len0 : Int) ≤ 5) := by omega
        have hyc := HYk.out.cell 1 (.int .i64 0) rfl
        have hyf := HYk.out.free 1
        refine wp_region_held (S := fun W => Below g w W) hmix ?_
        change wpAnyH _ _ _ _ _ _ _ _ (World.drew _)
        have hS0 : Below g w wr.drew := below_drew HBk.out
        refine wpAnyH_take (i := 0) (v := .int .i64 1) rfl (by kernel_rfl) (by kernel_rfl) (by kernel_rfl) (fun _ _ _ h => h) (.inl ⟨by kernel_rfl, fun W hW => ?_⟩) hS0 ?_
        · go_simp; try (first | (exact IntWalk.i64_in _ (by omega)) | (intro hh; exfalso; omega))
        refine wpAnyH_take (i := 1) (v := .slice (some ⟨b, off, none⟩) len0 cap0) rfl (by kernel_rfl) (by kernel_rfl) (by kernel_rfl) (fun _ _ _ h => h) (.inl ⟨by kernel_rfl, fun W hW => ?_⟩) hS0 ?_
        · go_simp; try (first | (exact IntWalk.i64_in _ (by omega)) | (intro hh; exfalso; omega))
        refine wpAnyH_take (i := 2) (v := .int .i64 1) rfl (by kernel_rfl) (by kernel_rfl) (by kernel_rfl) (fun _ _ _ h => h) (.inl ⟨by kernel_rfl, fun W hW => ?_⟩) hS0 ?_
        · go_simp; try (first | (exact IntWalk.i64_in _ (by omega)) | (intro hh; exfalso; omega))
        refine wpAnyH_take (i := 3) (v := .int .i64 3) rfl (by kernel_rfl) (by kernel_rfl) (by kernel_rfl) (fun _ _ _ h => h) (.inl ⟨by kernel_rfl, fun W hW => ?_⟩) hS0 ?_
        · go_simp; try (first | (exact IntWalk.i64_in _ (by omega)) | (intro hh; exfalso; omega))
        refine wpAnyH_take (i := 4) (v := .pointer (some ⟨b, off + 3, none⟩)) rfl (by kernel_rfl) (by kernel_rfl) (by kernel_rfl) (fun _ _ _ h => h) (.inl ⟨by kernel_rfl, fun W hW => ?_⟩) hS0 ?_
        · go_simp; try (first | (exact IntWalk.i64_in _ (by omega)) | (intro hh; exfalso; omega))
        refine wpAnyH_take (i := 5) (v := .int .u8 y0.toNat) rfl (by kernel_rfl) (by kernel_rfl) (by kernel_rfl) (fun _ _ _ h => h) (.inl ⟨by kernel_rfl, fun W hW => ?_⟩) hS0 ?_
        · obtain ⟨e0, e1, e2⟩ := HC.out W hW; go_simp; try (first | (exact IntWalk.i64_in _ (by omega)) | (intro hh; exfalso; omega))
        refine wpAnyH_take (i := 6) (v := .int .i64 y0.toNat) rfl (by kernel_rfl) (by kernel_rfl) (by kernel_rfl) (fun _ _ _ h => h) (.inl ⟨by kernel_rfl, fun W hW => ?_⟩) hS0 ?_
        · go_simp; try (first | (exact IntWalk.i64_in _ (by omega)) | (intro hh; exfalso; omega))
        refine wpAnyH_take (i := 7) (v := .int .i64 (65536 * (y0.toNat : Int))) rfl (by kernel_rfl) (by kernel_rfl) (by kernel_rfl) (fun _ _ _ h => h) (.inl ⟨by kernel_rfl, fun W hW => ?_⟩) hS0 ?_
        · go_simp; try (first | (exact IntWalk.i64_in _ (by omega)) | (intro hh; exfalso; omega))
        refine wpAnyH_take (i := 8) (v := .slice (some ⟨b, off, none⟩) len0 cap0) rfl (by kernel_rfl) (by kernel_rfl) (by kernel_rfl) (fun _ _ _ h => h) (.inl ⟨by kernel_rfl, fun W hW => ?_⟩) hS0 ?_
        · go_simp; try (first | (exact IntWalk.i64_in _ (by omega)) | (intro hh; exfalso; omega))
        refine wpAnyH_take (i := 9) (v := .int .i64 1) rfl (by kernel_rfl) (by kernel_rfl) (by kernel_rfl) (fun _ _ _ h => h) (.inl ⟨by kernel_rfl, fun W hW => ?_⟩) hS0 ?_
        · go_simp; try (first | (exact IntWalk.i64_in _ (by omega)) | (intro hh; exfalso; omega))
        refine wpAnyH_take (i := 10) (v := .int .i64 3) rfl (by kernel_rfl) (by kernel_rfl) (by kernel_rfl) (fun _ _ _ h => h) (.inl ⟨by kernel_rfl, fun W hW => ?_⟩) hS0 ?_
        · go_simp; try (first | (exact IntWalk.i64_in _ (by omega)) | (intro hh; exfalso; omega))
        refine wpAnyH_take (i := 11) (v := .int .i64 4) rfl (by kernel_rfl) (by kernel_rfl) (by kernel_rfl) (fun _ _ _ h => h) (.inl ⟨by kernel_rfl, fun W hW => ?_⟩) hS0 ?_
        · go_simp; try (first | (exact IntWalk.i64_in _ (by omega)) | (intro hh; exfalso; omega))
        refine wpAnyH_take (i := 12) (v := .pointer (some ⟨b, off + 4, none⟩)) rfl (by kernel_rfl) (by kernel_rfl) (by kernel_rfl) (fun _ _ _ h => h) (.inl ⟨by kernel_rfl, fun W hW => ?_⟩) hS0 ?_
        · go_simp; try (first | (exact IntWalk.i64_in _ (by omega)) | (intro hh; exfalso; omega))
        refine wpAnyH_take (i := 13) (v := .int .u8 y1.toNat) rfl (by kernel_rfl) (by kernel_rfl) (by kernel_rfl) (fun _ _ _ h => h) (.inl ⟨by kernel_rfl, fun W hW => ?_⟩) hS0 ?_
        · obtain ⟨e0, e1, e2⟩ := HC.out W hW; go_simp; try (first | (exact IntWalk.i64_in _ (by omega)) | (intro hh; exfalso; omega))
        refine wpAnyH_take (i := 14) (v := .int .i64 y1.toNat) rfl (by kernel_rfl) (by kernel_rfl) (by kernel_rfl) (fun _ _ _ h => h) (.inl ⟨by kernel_rfl, fun W hW => ?_⟩) hS0 ?_
        · go_simp; try (first | (exact IntWalk.i64_in _ (by omega)) | (intro hh; exfalso; omega))
        refine wpAnyH_take (i := 15) (v := .int .i64 (256 * (y1.toNat : Int))) rfl (by kernel_rfl) (by kernel_rfl) (by kernel_rfl) (fun _ _ _ h => h) (.inl ⟨by kernel_rfl, fun W hW => ?_⟩) hS0 ?_
        · go_simp; try (first | (exact IntWalk.i64_in _ (by omega)) | (intro hh; exfalso; omega))
        refine wpAnyH_take (i := 16) (v := .int .i64 (65536 * (y0.toNat : Int) + 256 * (y1.toNat : Int))) rfl (by kernel_rfl) (by kernel_rfl) (by kernel_rfl) (fun _ _ _ h => h) (.inl ⟨by kernel_rfl, fun W hW => ?_⟩) hS0 ?_
        · go_simp; try (first | (exact IntWalk.i64_in _ (by omega)) | (intro hh; exfalso; omega))
        refine wpAnyH_take (i := 17) (v := .slice (some ⟨b, off, none⟩) len0 cap0) rfl (by kernel_rfl) (by kernel_rfl) (by kernel_rfl) (fun _ _ _ h => h) (.inl ⟨by kernel_rfl, fun W hW => ?_⟩) hS0 ?_
        · go_simp; try (first | (exact IntWalk.i64_in _ (by omega)) | (intro hh; exfalso; omega))
        refine wpAnyH_take (i := 18) (v := .int .i64 1) rfl (by kernel_rfl) (by kernel_rfl) (by kernel_rfl) (fun _ _ _ h => h) (.inl ⟨by kernel_rfl, fun W hW => ?_⟩) hS0 ?_
        · go_simp; try (first | (exact IntWalk.i64_in _ (by omega)) | (intro hh; exfalso; omega))
        refine wpAnyH_take (i := 19) (v := .int .i64 3) rfl (by kernel_rfl) (by kernel_rfl) (by kernel_rfl) (fun _ _ _ h => h) (.inl ⟨by kernel_rfl, fun W hW => ?_⟩) hS0 ?_
        · go_simp; try (first | (exact IntWalk.i64_in _ (by omega)) | (intro hh; exfalso; omega))
        refine wpAnyH_take (i := 20) (v := .int .i64 5) rfl (by kernel_rfl) (by kernel_rfl) (by kernel_rfl) (fun _ _ _ h => h) (.inl ⟨by kernel_rfl, fun W hW => ?_⟩) hS0 ?_
        · go_simp; try (first | (exact IntWalk.i64_in _ (by omega)) | (intro hh; exfalso; omega))
        refine wpAnyH_take (i := 21) (v := .pointer (some ⟨b, off + 5, none⟩)) rfl (by kernel_rfl) (by kernel_rfl) (by kernel_rfl) (fun _ _ _ h => h) (.inl ⟨by kernel_rfl, fun W hW => ?_⟩) hS0 ?_
        · go_simp; try (first | (exact IntWalk.i64_in _ (by omega)) | (intro hh; exfalso; omega))
        refine wpAnyH_take (i := 22) (v := .int .u8 y2.toNat) rfl (by kernel_rfl) (by kernel_rfl) (by kernel_rfl) (fun _ _ _ h => h) (.inl ⟨by kernel_rfl, fun W hW => ?_⟩) hS0 ?_
        · obtain ⟨e0, e1, e2⟩ := HC.out W hW; go_simp; try (first | (exact IntWalk.i64_in _ (by omega)) | (intro hh; exfalso; omega))
        refine wpAnyH_take (i := 23) (v := .int .i64 y2.toNat) rfl (by kernel_rfl) (by kernel_rfl) (by kernel_rfl) (fun _ _ _ h => h) (.inl ⟨by kernel_rfl, fun W hW => ?_⟩) hS0 ?_
        · go_simp; try (first | (exact IntWalk.i64_in _ (by omega)) | (intro hh; exfalso; omega))
        refine wpAnyH_take (i := 24) (v := .int .i64 (cof l 1 : Nat)) rfl (by kernel_rfl) (by kernel_rfl) (by kernel_rfl) (fun _ _ _ h => h) (.inl ⟨by kernel_rfl, fun W hW => ?_⟩) hS0 ?_
        · have hcf := HCe.out; have hcb := HCb.out; go_simp; try exact IntWalk.i64_in _ (by omega)
        refine wpAnyH_take (i := 25) (v := .pointer (some ⟨gx, 1, none⟩)) rfl (by kernel_rfl) (by kernel_rfl) (by kernel_rfl) (fun _ _ _ h => h) (.inl ⟨by kernel_rfl, fun W hW => ?_⟩) hS0 ?_
        · go_simp
        refine wpAnyH_all (rs := [26]) (by kernel_rfl) (by simp) ?_
        intro z hz
        rw [List.mem_singleton.1 hz]
        clear hz
        unfold wpOp
        go_simp
        refine .inl ⟨below_drew (HBk.out.setCell hg3 _), ?_⟩
        refine wpAnyH_done (by kernel_rfl) ?_ _
        clear hS0 hyc hyf
        go_wp2_with fail
        go_roundw
        case rel => exact ⟨2, by omega, by go_num, ⟨(HYk.out.set 1 (.int .i64 (cof l 1 : Nat))).head⟩, below_drew (HBk.out.setCell hg3 _)⟩
        case measure => simp [intOf]
      · have HC := Lib.hid (fun (W : World) (h : Below g w W) => (show W.cell? ⟨b, off + 6, none⟩ = some (.int .u8 (l[6]?.getD 0#8).toNat) ∧ W.cell? ⟨b, off + 7, none⟩ = some (.int .u8 (l[7]?.getD 0#8).toNat) ∧ W.cell? ⟨b, off + 8, none⟩ = some (.int .u8 (l[8]?.getD 0#8).toNat) by
          obtain ⟨b', off', e, _, hc⟩ := (HL.out.below h).2 (by omega)
          injection e with e
          injection e with e1 e2 _
          subst e1 e2
          exact ⟨hc 6 (by omega), hc 7 (by omega), hc 8 (by omega)⟩))
        have HCf := Lib.hid (show cof l 2 = 65536 * (l[6]?.getD 0#8).toNat + 256 * (l[7]?.getD 0#8).toNat + (l[8]?.getD 0#8).toNat from nat3 l 6 (by rw [HN.out]; omega))
        go_upto_region 15 with fail
        generalize l[6]?.getD 0#8 = y0 at *
        generalize l[7]?.getD 0#8 = y1 at *
        generalize l[8]?.getD 0#8 = y2 at *
        obtain ⟨q0, q1, q2, q3⟩ := three_w y0 y1 y2
        have r0 := one_w y0
        have r1 := one_w y1
        have r2 := one_w y2
        have hcf : 65536 * (y0.toNat : Int) + 256 * (y1.toNat : Int) + (y2.toNat : Int) = ((cof l 2 : Nat) : Int) := by have := HCf.out; omega
        have HCe := Lib.hid hcf
        have hcb : cof l 2 < 16777216 := by have := HCf.out; omega
        have HCb := Lib.hid hcb
        clear hcf hcb
        have n0 : ¬ ((len0 : Int) ≤ 6) := by omega
        have n1 : ¬ ((len0 : Int) ≤ 7) := by omega
        have n2 : ¬ ((len0 : Int) ≤ 8) := by omega
        have hyc := HYk.out.cell 2 (.int .i64 0) rfl
        have hyf := HYk.out.free 2
        refine wp_region_held (S := fun W => Below g w W) hmix ?_
        change wpAnyH _ _ _ _ _ _ _ _ (World.drew _)
        have hS0 : Below g w wr.drew := below_drew HBk.out
        refine wpAnyH_take (i := 0) (v := .int .i64 2) rfl (by kernel_rfl) (by kernel_rfl) (by kernel_rfl) (fun _ _ _ h => h) (.inl ⟨by kernel_rfl, fun W hW => ?_⟩) hS0 ?_
        · go_simp; try (first | (exact IntWalk.i64_in _ (by omega)) | (intro hh; exfalso; omega))
        refine wpAnyH_take (i := 1) (v := .slice (some ⟨b, off, none⟩) len0 cap0) rfl (by kernel_rfl) (by kernel_rfl) (by kernel_rfl) (fun _ _ _ h => h) (.inl ⟨by kernel_rfl, fun W hW => ?_⟩) hS0 ?_
        · go_simp; try (first | (exact IntWalk.i64_in _ (by omega)) | (intro hh; exfalso; omega))
        refine wpAnyH_take (i := 2) (v := .int .i64 2) rfl (by kernel_rfl) (by kernel_rfl) (by kernel_rfl) (fun _ _ _ h => h) (.inl ⟨by kernel_rfl, fun W hW => ?_⟩) hS0 ?_
        · go_simp; try (first | (exact IntWalk.i64_in _ (by omega)) | (intro hh; exfalso; omega))
        refine wpAnyH_take (i := 3) (v := .int .i64 6) rfl (by kernel_rfl) (by kernel_rfl) (by kernel_rfl) (fun _ _ _ h => h) (.inl ⟨by kernel_rfl, fun W hW => ?_⟩) hS0 ?_
        · go_simp; try (first | (exact IntWalk.i64_in _ (by omega)) | (intro hh; exfalso; omega))
        refine wpAnyH_take (i := 4) (v := .pointer (some ⟨b, off + 6, none⟩)) rfl (by kernel_rfl) (by kernel_rfl) (by kernel_rfl) (fun _ _ _ h => h) (.inl ⟨by kernel_rfl, fun W hW => ?_⟩) hS0 ?_
        · go_simp; try (first | (exact IntWalk.i64_in _ (by omega)) | (intro hh; exfalso; omega))
        refine wpAnyH_take (i := 5) (v := .int .u8 y0.toNat) rfl (by kernel_rfl) (by kernel_rfl) (by kernel_rfl) (fun _ _ _ h => h) (.inl ⟨by kernel_rfl, fun W hW => ?_⟩) hS0 ?_
        · obtain ⟨e0, e1, e2⟩ := HC.out W hW; go_simp; try (first | (exact IntWalk.i64_in _ (by omega)) | (intro hh; exfalso; omega))
        refine wpAnyH_take (i := 6) (v := .int .i64 y0.toNat) rfl (by kernel_rfl) (by kernel_rfl) (by kernel_rfl) (fun _ _ _ h => h) (.inl ⟨by kernel_rfl, fun W hW => ?_⟩) hS0 ?_
        · go_simp; try (first | (exact IntWalk.i64_in _ (by omega)) | (intro hh; exfalso; omega))
        refine wpAnyH_take (i := 7) (v := .int .i64 (65536 * (y0.toNat : Int))) rfl (by kernel_rfl) (by kernel_rfl) (by kernel_rfl) (fun _ _ _ h => h) (.inl ⟨by kernel_rfl, fun W hW => ?_⟩) hS0 ?_
        · go_simp; try (first | (exact IntWalk.i64_in _ (by omega)) | (intro hh; exfalso; omega))
        refine wpAnyH_take (i := 8) (v := .slice (some ⟨b, off, none⟩) len0 cap0) rfl (by kernel_rfl) (by kernel_rfl) (by kernel_rfl) (fun _ _ _ h => h) (.inl ⟨by kernel_rfl, fun W hW => ?_⟩) hS0 ?_
        · go_simp; try (first | (exact IntWalk.i64_in _ (by omega)) | (intro hh; exfalso; omega))
        refine wpAnyH_take (i := 9) (v := .int .i64 2) rfl (by kernel_rfl) (by kernel_rfl) (by kernel_rfl) (fun _ _ _ h => h) (.inl ⟨by kernel_rfl, fun W hW => ?_⟩) hS0 ?_
        · go_simp; try (first | (exact IntWalk.i64_in _ (by omega)) | (intro hh; exfalso; omega))
        refine wpAnyH_take (i := 10) (v := .int .i64 6) rfl (by kernel_rfl) (by kernel_rfl) (by kernel_rfl) (fun _ _ _ h => h) (.inl ⟨by kernel_rfl, fun W hW => ?_⟩) hS0 ?_
        · go_simp; try (first | (exact IntWalk.i64_in _ (by omega)) | (intro hh; exfalso; omega))
        refine wpAnyH_take (i := 11) (v := .int .i64 7) rfl (by kernel_rfl) (by kernel_rfl) (by kernel_rfl) (fun _ _ _ h => h) (.inl ⟨by kernel_rfl, fun W hW => ?_⟩) hS0 ?_
        · go_simp; try (first | (exact IntWalk.i64_in _ (by omega)) | (intro hh; exfalso; omega))
        refine wpAnyH_take (i := 12) (v := .pointer (some ⟨b, off + 7, none⟩)) rfl (by kernel_rfl) (by kernel_rfl) (by kernel_rfl) (fun _ _ _ h => h) (.inl ⟨by kernel_rfl, fun W hW => ?_⟩) hS0 ?_
        · go_simp; try (first | (exact IntWalk.i64_in _ (by omega)) | (intro hh; exfalso; omega))
        refine wpAnyH_take (i := 13) (v := .int .u8 y1.toNat) rfl (by kernel_rfl) (by kernel_rfl) (by kernel_rfl) (fun _ _ _ h => h) (.inl ⟨by kernel_rfl, fun W hW => ?_⟩) hS0 ?_
        · obtain ⟨e0, e1, e2⟩ := HC.out W hW; go_simp; try (first | (exact IntWalk.i64_in _ (by omega)) | (intro hh; exfalso; omega))
        refine wpAnyH_take (i := 14) (v := .int .i64 y1.toNat) rfl (by kernel_rfl) (by kernel_rfl) (by kernel_rfl) (fun _ _ _ h => h) (.inl ⟨by kernel_rfl, fun W hW => ?_⟩) hS0 ?_
        · go_simp; try (first | (exact IntWalk.i64_in _ (by omega)) | (intro hh; exfalso; omega))
        refine wpAnyH_take (i := 15) (v := .int .i64 (256 * (y1.toNat : Int))) rfl (by kernel_rfl) (by kernel_rfl) (by kernel_rfl) (fun _ _ _ h => h) (.inl ⟨by kernel_rfl, fun W hW => ?_⟩) hS0 ?_
        · go_simp; try (first | (exact IntWalk.i64_in _ (by omega)) | (intro hh; exfalso; omega))
        refine wpAnyH_take (i := 16) (v := .int .i64 (65536 * (y0.toNat : Int) + 256 * (y1.toNat : Int))) rfl (by kernel_rfl) (by kernel_rfl) (by kernel_rfl) (fun _ _ _ h => h) (.inl ⟨by kernel_rfl, fun W hW => ?_⟩) hS0 ?_
        · go_simp; try (first | (exact IntWalk.i64_in _ (by omega)) | (intro hh; exfalso; omega))
        refine wpAnyH_take (i := 17) (v := .slice (some ⟨b, off, none⟩) len0 cap0) rfl (by kernel_rfl) (by kernel_rfl) (by kernel_rfl) (fun _ _ _ h => h) (.inl ⟨by kernel_rfl, fun W hW => ?_⟩) hS0 ?_
        · go_simp; try (first | (exact IntWalk.i64_in _ (by omega)) | (intro hh; exfalso; omega))
        refine wpAnyH_take (i := 18) (v := .int .i64 2) rfl (by kernel_rfl) (by kernel_rfl) (by kernel_rfl) (fun _ _ _ h => h) (.inl ⟨by kernel_rfl, fun W hW => ?_⟩) hS0 ?_
        · go_simp; try (first | (exact IntWalk.i64_in _ (by omega)) | (intro hh; exfalso; omega))
        refine wpAnyH_take (i := 19) (v := .int .i64 6) rfl (by kernel_rfl) (by kernel_rfl) (by kernel_rfl) (fun _ _ _ h => h) (.inl ⟨by kernel_rfl, fun W hW => ?_⟩) hS0 ?_
        · go_simp; try (first | (exact IntWalk.i64_in _ (by omega)) | (intro hh; exfalso; omega))
        refine wpAnyH_take (i := 20) (v := .int .i64 8) rfl (by kernel_rfl) (by kernel_rfl) (by kernel_rfl) (fun _ _ _ h => h) (.inl ⟨by kernel_rfl, fun W hW => ?_⟩) hS0 ?_
        · go_simp; try (first | (exact IntWalk.i64_in _ (by omega)) | (intro hh; exfalso; omega))
        refine wpAnyH_take (i := 21) (v := .pointer (some ⟨b, off + 8, none⟩)) rfl (by kernel_rfl) (by kernel_rfl) (by kernel_rfl) (fun _ _ _ h => h) (.inl ⟨by kernel_rfl, fun W hW => ?_⟩) hS0 ?_
        · go_simp; try (first | (exact IntWalk.i64_in _ (by omega)) | (intro hh; exfalso; omega))
        refine wpAnyH_take (i := 22) (v := .int .u8 y2.toNat) rfl (by kernel_rfl) (by kernel_rfl) (by kernel_rfl) (fun _ _ _ h => h) (.inl ⟨by kernel_rfl, fun W hW => ?_⟩) hS0 ?_
        · obtain ⟨e0, e1, e2⟩ := HC.out W hW; go_simp; try (first | (exact IntWalk.i64_in _ (by omega)) | (intro hh; exfalso; omega))
        refine wpAnyH_take (i := 23) (v := .int .i64 y2.toNat) rfl (by kernel_rfl) (by kernel_rfl) (by kernel_rfl) (fun _ _ _ h => h) (.inl ⟨by kernel_rfl, fun W hW => ?_⟩) hS0 ?_
        · go_simp; try (first | (exact IntWalk.i64_in _ (by omega)) | (intro hh; exfalso; omega))
        refine wpAnyH_take (i := 24) (v := .int .i64 (cof l 2 : Nat)) rfl (by kernel_rfl) (by kernel_rfl) (by kernel_rfl) (fun _ _ _ h => h) (.inl ⟨by kernel_rfl, fun W hW => ?_⟩) hS0 ?_
        · have hcf := HCe.out; have hcb := HCb.out; go_simp; try exact IntWalk.i64_in _ (by omega)
        refine wpAnyH_take (i := 25) (v := .pointer (some ⟨gx, 2, none⟩)) rfl (by kernel_rfl) (by kernel_rfl) (by kernel_rfl) (fun _ _ _ h => h) (.inl ⟨by kernel_rfl, fun W hW => ?_⟩) hS0 ?_
        · go_simp
        refine wpAnyH_all (rs := [26]) (by kernel_rfl) (by simp) ?_
        intro z hz
        rw [List.mem_singleton.1 hz]
        clear hz
        unfold wpOp
        go_simp
        refine .inl ⟨below_drew (HBk.out.setCell hg3 _), ?_⟩
        refine wpAnyH_done (by kernel_rfl) ?_ _
        clear hS0 hyc hyf
        go_wp2_with fail
        go_roundw
        case rel => exact ⟨3, by omega, by go_num, ⟨(HYk.out.set 2 (.int .i64 (cof l 2 : Nat))).head⟩, below_drew (HBk.out.setCell hg3 _)⟩
        case measure => simp [intOf]
      · have HC := Lib.hid (fun (W : World) (h : Below g w W) => (show W.cell? ⟨b, off + 9, none⟩ = some (.int .u8 (l[9]?.getD 0#8).toNat) ∧ W.cell? ⟨b, off + 10, none⟩ = some (.int .u8 (l[10]?.getD 0#8).toNat) ∧ W.cell? ⟨b, off + 11, none⟩ = some (.int .u8 (l[11]?.getD 0#8).toNat) by
          obtain ⟨b', off', e, _, hc⟩ := (HL.out.below h).2 (by omega)
          injection e with e
          injection e with e1 e2 _
          subst e1 e2
          exact ⟨hc 9 (by omega), hc 10 (by omega), hc 11 (by omega)⟩))
        have HCf := Lib.hid (show cof l 3 = 65536 * (l[9]?.getD 0#8).toNat + 256 * (l[10]?.getD 0#8).toNat + (l[11]?.getD 0#8).toNat from nat3 l 9 (by rw [HN.out]; omega))
        go_upto_region 15 with fail
        generalize l[9]?.getD 0#8 = y0 at *
        generalize l[10]?.getD 0#8 = y1 at *
        generalize l[11]?.getD 0#8 = y2 at *
        obtain ⟨q0, q1, q2, q3⟩ := three_w y0 y1 y2
        have r0 := one_w y0
        have r1 := one_w y1
        have r2 := one_w y2
        have hcf : 65536 * (y0.toNat : Int) + 256 * (y1.toNat : Int) + (y2.toNat : Int) = ((cof l 3 : Nat) : Int) := by have := HCf.out; omega
        have HCe := Lib.hid hcf
        have hcb : cof l 3 < 16777216 := by have := HCf.out; omega
        have HCb := Lib.hid hcb
        clear hcf hcb
        have n0 : ¬ ((len0 : Int) ≤ 9) := by omega
        have n1 : ¬ ((len0 : Int) ≤ 10) := by omega
        have n2 : ¬ ((len0 : Int) ≤ 11) := by omega
        have hyc := HYk.out.cell 3 (.int .i64 0) rfl
        have hyf := HYk.out.free 3
        refine wp_region_held (S := fun W => Below g w W) hmix ?_
        change wpAnyH _ _ _ _ _ _ _ _ (World.drew _)
        have hS0 : Below g w wr.drew := below_drew HBk.out
        refine wpAnyH_take (i := 0) (v := .int .i64 3) rfl (by kernel_rfl) (by kernel_rfl) (by kernel_rfl) (fun _ _ _ h => h) (.inl ⟨by kernel_rfl, fun W hW => ?_⟩) hS0 ?_
        · go_simp; try (first | (exact IntWalk.i64_in _ (by omega)) | (intro hh; exfalso; omega))
        refine wpAnyH_take (i := 1) (v := .slice (some ⟨b, off, none⟩) len0 cap0) rfl (by kernel_rfl) (by kernel_rfl) (by kernel_rfl) (fun _ _ _ h => h) (.inl ⟨by kernel_rfl, fun W hW => ?_⟩) hS0 ?_
        · go_simp; try (first | (exact IntWalk.i64_in _ (by omega)) | (intro hh; exfalso; omega))
        refine wpAnyH_take (i := 2) (v := .int .i64 3) rfl (by kernel_rfl) (by kernel_rfl) (by kernel_rfl) (fun _ _ _ h => h) (.inl ⟨by kernel_rfl, fun W hW => ?_⟩) hS0 ?_
        · go_simp; try (first | (exact IntWalk.i64_in _ (by omega)) | (intro hh; exfalso; omega))
        refine wpAnyH_take (i := 3) (v := .int .i64 9) rfl (by kernel_rfl) (by kernel_rfl) (by kernel_rfl) (fun _ _ _ h => h) (.inl ⟨by kernel_rfl, fun W hW => ?_⟩) hS0 ?_
        · go_simp; try (first | (exact IntWalk.i64_in _ (by omega)) | (intro hh; exfalso; omega))
        refine wpAnyH_take (i := 4) (v := .pointer (some ⟨b, off + 9, none⟩)) rfl (by kernel_rfl) (by kernel_rfl) (by kernel_rfl) (fun _ _ _ h => h) (.inl ⟨by kernel_rfl, fun W hW => ?_⟩) hS0 ?_
        · go_simp; try (first | (exact IntWalk.i64_in _ (by omega)) | (intro hh; exfalso; omega))
        refine wpAnyH_take (i := 5) (v := .int .u8 y0.toNat) rfl (by kernel_rfl) (by kernel_rfl) (by kernel_rfl) (fun _ _ _ h => h) (.inl ⟨by kernel_rfl, fun W hW => ?_⟩) hS0 ?_
        · obtain ⟨e0, e1, e2⟩ := HC.out W hW; go_simp; try (first | (exact IntWalk.i64_in _ (by omega)) | (intro hh; exfalso; omega))
        refine wpAnyH_take (i := 6) (v := .int .i64 y0.toNat) rfl (by kernel_rfl) (by kernel_rfl) (by kernel_rfl) (fun _ _ _ h => h) (.inl ⟨by kernel_rfl, fun W hW => ?_⟩) hS0 ?_
        · go_simp; try (first | (exact IntWalk.i64_in _ (by omega)) | (intro hh; exfalso; omega))
        refine wpAnyH_take (i := 7) (v := .int .i64 (65536 * (y0.toNat : Int))) rfl (by kernel_rfl) (by kernel_rfl) (by kernel_rfl) (fun _ _ _ h => h) (.inl ⟨by kernel_rfl, fun W hW => ?_⟩) hS0 ?_
        · go_simp; try (first | (exact IntWalk.i64_in _ (by omega)) | (intro hh; exfalso; omega))
        refine wpAnyH_take (i := 8) (v := .slice (some ⟨b, off, none⟩) len0 cap0) rfl (by kernel_rfl) (by kernel_rfl) (by kernel_rfl) (fun _ _ _ h => h) (.inl ⟨by kernel_rfl, fun W hW => ?_⟩) hS0 ?_
        · go_simp; try (first | (exact IntWalk.i64_in _ (by omega)) | (intro hh; exfalso; omega))
        refine wpAnyH_take (i := 9) (v := .int .i64 3) rfl (by kernel_rfl) (by kernel_rfl) (by kernel_rfl) (fun _ _ _ h => h) (.inl ⟨by kernel_rfl, fun W hW => ?_⟩) hS0 ?_
        · go_simp; try (first | (exact IntWalk.i64_in _ (by omega)) | (intro hh; exfalso; omega))
        refine wpAnyH_take (i := 10) (v := .int .i64 9) rfl (by kernel_rfl) (by kernel_rfl) (by kernel_rfl) (fun _ _ _ h => h) (.inl ⟨by kernel_rfl, fun W hW => ?_⟩) hS0 ?_
        · go_simp; try (first | (exact IntWalk.i64_in _ (by omega)) | (intro hh; exfalso; omega))
        refine wpAnyH_take (i := 11) (v := .int .i64 10) rfl (by kernel_rfl) (by kernel_rfl) (by kernel_rfl) (fun _ _ _ h => h) (.inl ⟨by kernel_rfl, fun W hW => ?_⟩) hS0 ?_
        · go_simp; try (first | (exact IntWalk.i64_in _ (by omega)) | (intro hh; exfalso; omega))
        refine wpAnyH_take (i := 12) (v := .pointer (some ⟨b, off + 10, none⟩)) rfl (by kernel_rfl) (by kernel_rfl) (by kernel_rfl) (fun _ _ _ h => h) (.inl ⟨by kernel_rfl, fun W hW => ?_⟩) hS0 ?_
        · go_simp; try (first | (exact IntWalk.i64_in _ (by omega)) | (intro hh; exfalso; omega))
        refine wpAnyH_take (i := 13) (v := .int .u8 y1.toNat) rfl (by kernel_rfl) (by kernel_rfl) (by kernel_rfl) (fun _ _ _ h => h) (.inl ⟨by kernel_rfl, fun W hW => ?_⟩) hS0 ?_
        · obtain ⟨e0, e1, e2⟩ := HC.out W hW; go_simp; try (first | (exact IntWalk.i64_in _ (by omega)) | (intro hh; exfalso; omega))
        refine wpAnyH_take (i := 14) (v := .int .i64 y1.toNat) rfl (by kernel_rfl) (by kernel_rfl) (by kernel_rfl) (fun _ _ _ h => h) (.inl ⟨by kernel_rfl, fun W hW => ?_⟩) hS0 ?_
        · go_simp; try (first | (exact IntWalk.i64_in _ (by omega)) | (intro hh; exfalso; omega))
        refine wpAnyH_take (i := 15) (v := .int .i64 (256 * (y1.toNat : Int))) rfl (by kernel_rfl) (by kernel_rfl) (by kernel_rfl) (fun _ _ _ h => h) (.inl ⟨by kernel_rfl, fun W hW => ?_⟩) hS0 ?_
        · go_simp; try (first | (exact IntWalk.i64_in _ (by omega)) | (intro hh; exfalso; omega))
        refine wpAnyH_take (i := 16) (v := .int .i64 (65536 * (y0.toNat : Int) + 256 * (y1.toNat : Int))) rfl (by kernel_rfl) (by kernel_rfl) (by kernel_rfl) (fun _ _ _ h => h) (.inl ⟨by kernel_rfl, fun W hW => ?_⟩) hS0 ?_
        · go_simp; try (first | (exact IntWalk.i64_in _ (by omega)) | (intro hh; exfalso; omega))
        refine wpAnyH_take (i := 17) (v := .slice (some ⟨b, off, none⟩) len0 cap0) rfl (by kernel_rfl) (by kernel_rfl) (by kernel_rfl) (fun _ _ _ h => h) (.inl ⟨by kernel_rfl, fun W hW => ?_⟩) hS0 ?_
        · go_simp; try (first | (exact IntWalk.i64_in _ (by omega)) | (intro hh; exfalso; omega))
        refine wpAnyH_take (i := 18) (v := .int .i64 3) rfl (by kernel_rfl) (by kernel_rfl) (by kernel_rfl) (fun _ _ _ h => h) (.inl ⟨by kernel_rfl, fun W hW => ?_⟩) hS0 ?_
        · go_simp; try (first | (exact IntWalk.i64_in _ (by omega)) | (intro hh; exfalso; omega))
        refine wpAnyH_take (i := 19) (v := .int .i64 9) rfl (by kernel_rfl) (by kernel_rfl) (by kernel_rfl) (fun _ _ _ h => h) (.inl ⟨by kernel_rfl, fun W hW => ?_⟩) hS0 ?_
        · go_simp; try (first | (exact IntWalk.i64_in _ (by omega)) | (intro hh; exfalso; omega))
        refine wpAnyH_take (i := 20) (v := .int .i64 11) rfl (by kernel_rfl) (by kernel_rfl) (by kernel_rfl) (fun _ _ _ h => h) (.inl ⟨by kernel_rfl, fun W hW => ?_⟩) hS0 ?_
        · go_simp; try (first | (exact IntWalk.i64_in _ (by omega)) | (intro hh; exfalso; omega))
        refine wpAnyH_take (i := 21) (v := .pointer (some ⟨b, off + 11, none⟩)) rfl (by kernel_rfl) (by kernel_rfl) (by kernel_rfl) (fun _ _ _ h => h) (.inl ⟨by kernel_rfl, fun W hW => ?_⟩) hS0 ?_
        · go_simp; try (first | (exact IntWalk.i64_in _ (by omega)) | (intro hh; exfalso; omega))
        refine wpAnyH_take (i := 22) (v := .int .u8 y2.toNat) rfl (by kernel_rfl) (by kernel_rfl) (by kernel_rfl) (fun _ _ _ h => h) (.inl ⟨by kernel_rfl, fun W hW => ?_⟩) hS0 ?_
        · obtain ⟨e0, e1, e2⟩ := HC.out W hW; go_simp; try (first | (exact IntWalk.i64_in _ (by omega)) | (intro hh; exfalso; omega))
        refine wpAnyH_take (i := 23) (v := .int .i64 y2.toNat) rfl (by kernel_rfl) (by kernel_rfl) (by kernel_rfl) (fun _ _ _ h => h) (.inl ⟨by kernel_rfl, fun W hW => ?_⟩) hS0 ?_
        · go_simp; try (first | (exact IntWalk.i64_in _ (by omega)) | (intro hh; exfalso; omega))
        refine wpAnyH_take (i := 24) (v := .int .i64 (cof l 3 : Nat)) rfl (by kernel_rfl) (by kernel_rfl) (by kernel_rfl) (fun _ _ _ h => h) (.inl ⟨by kernel_rfl, fun W hW => ?_⟩) hS0 ?_
        · have hcf := HCe.out; have hcb := HCb.out; go_simp; try exact IntWalk.i64_in _ (by omega)
        refine wpAnyH_take (i := 25) (v := .pointer (some ⟨gx, 3, none⟩)) rfl (by kernel_rfl) (by kernel_rfl) (by kernel_rfl) (fun _ _ _ h => h) (.inl ⟨by kernel_rfl, fun W hW => ?_⟩) hS0 ?_
        · go_simp
        refine wpAnyH_all (rs := [26]) (by kernel_rfl) (by simp) ?_
        intro z hz
        rw [List.mem_singleton.1 hz]
        clear hz
        unfold wpOp
        go_simp
        refine .inl ⟨below_drew (HBk.out.setCell hg3 _), ?_⟩
        refine wpAnyH_done (by kernel_rfl) ?_ _
        clear hS0 hyc hyf
        go_wp2_with fail
        go_roundw
        case rel => exact ⟨4, by omega, by go_num, ⟨(HYk.out.set 3 (.int .i64 (cof l 3 : Nat))).head⟩, below_drew (HBk.out.setCell hg3 _)⟩
        case measure => simp [intOf]
      · have HC := Lib.hid (fun (W : World) (h : Below g w W) => (show W.cell? ⟨b, off + 12, none⟩ = some (.int .u8 (l[12]?.getD 0#8).toNat) ∧ W.cell? ⟨b, off + 13, none⟩ = some (.int .u8 (l[13]?.getD 0#8).toNat) ∧ W.cell? ⟨b, off + 14, none⟩ = some (.int .u8 (l[14]?.getD 0#8).toNat) by
          obtain ⟨b', off', e, _, hc⟩ := (HL.out.below h).2 (by omega)
          injection e with e
          injection e with e1 e2 _
          subst e1 e2
          exact ⟨hc 12 (by omega), hc 13 (by omega), hc 14 (by omega)⟩))
        have HCf := Lib.hid (show cof l 4 = 65536 * (l[12]?.getD 0#8).toNat + 256 * (l[13]?.getD 0#8).toNat + (l[14]?.getD 0#8).toNat from nat3 l 12 (by rw [HN.out]; omega))
        go_upto_region 15 with fail
        generalize l[12]?.getD 0#8 = y0 at *
        generalize l[13]?.getD 0#8 = y1 at *
        generalize l[14]?.getD 0#8 = y2 at *
        obtain ⟨q0, q1, q2, q3⟩ := three_w y0 y1 y2
        have r0 := one_w y0
        have r1 := one_w y1
        have r2 := one_w y2
        have hcf : 65536 * (y0.toNat : Int) + 256 * (y1.toNat : Int) + (y2.toNat : Int) = ((cof l 4 : Nat) : Int) := by have := HCf.out; omega
        have HCe := Lib.hid hcf
        have hcb : cof l 4 < 16777216 := by have := HCf.out; omega
        have HCb := Lib.hid hcb
        clear hcf hcb
        have n0 : ¬ ((len0 : Int) ≤ 12) := by omega
        have n1 : ¬ ((len0 : Int) ≤ 13) := by omega
        have n2 : ¬ ((len0 : Int) ≤ 14) := by omega
        have hyc := HYk.out.cell 4 (.int .i64 0) rfl
        have hyf := HYk.out.free 4
        refine wp_region_held (S := fun W => Below g w W) hmix ?_
        change wpAnyH _ _ _ _ _ _ _ _ (World.drew _)
        have hS0 : Below g w wr.drew := below_drew HBk.out
        refine wpAnyH_take (i := 0) (v := .int .i64 4) rfl (by kernel_rfl) (by kernel_rfl) (by kernel_rfl) (fun _ _ _ h => h) (.inl ⟨by kernel_rfl, fun W hW => ?_⟩) hS0 ?_
        · go_simp; try (first | (exact IntWalk.i64_in _ (by omega)) | (intro hh; exfalso; omega))
        refine wpAnyH_take (i := 1) (v := .slice (some ⟨b, off, none⟩) len0 cap0) rfl (by kernel_rfl) (by kernel_rfl) (by kernel_rfl) (fun _ _ _ h => h) (.inl ⟨by kernel_rfl, fun W hW => ?_⟩) hS0 ?_
        · go_simp; try (first | (exact IntWalk.i64_in _ (by omega)) | (intro hh; exfalso; omega))
        refine wpAnyH_take (i := 2) (v := .int .i64 4) rfl (by kernel_rfl) (by kernel_rfl) (by kernel_rfl) (fun _ _ _ h => h) (.inl ⟨by kernel_rfl, fun W hW => ?_⟩) hS0 ?_
        · go_simp; try (first | (exact IntWalk.i64_in _ (by omega)) | (intro hh; exfalso; omega))
        refine wpAnyH_take (i := 3) (v := .int .i64 12) rfl (by kernel_rfl) (by kernel_rfl) (by kernel_rfl) (fun _ _ _ h => h) (.inl ⟨by kernel_rfl, fun W hW => ?_⟩) hS0 ?_
        · go_simp; try (first | (exact IntWalk.i64_in _ (by omega)) | (intro hh; exfalso; omega))
        refine wpAnyH_take (i := 4) (v := .pointer (some ⟨b, off + 12, none⟩)) rfl (by kernel_rfl) (by kernel_rfl) (by kernel_rfl) (fun _ _ _ h => h) (.inl ⟨by kernel_rfl, fun W hW => ?_⟩) hS0 ?_
        · go_simp; try (first | (exact IntWalk.i64_in _ (by omega)) | (intro hh; exfalso; omega))
        refine wpAnyH_take (i := 5) (v := .int .u8 y0.toNat) rfl (by kernel_rfl) (by kernel_rfl) (by kernel_rfl) (fun _ _ _ h => h) (.inl ⟨by kernel_rfl, fun W hW => ?_⟩) hS0 ?_
        · obtain ⟨e0, e1, e2⟩ := HC.out W hW; go_simp; try (first | (exact IntWalk.i64_in _ (by omega)) | (intro hh; exfalso; omega))
        refine wpAnyH_take (i := 6) (v := .int .i64 y0.toNat) rfl (by kernel_rfl) (by kernel_rfl) (by kernel_rfl) (fun _ _ _ h => h) (.inl ⟨by kernel_rfl, fun W hW => ?_⟩) hS0 ?_
        · go_simp; try (first | (exact IntWalk.i64_in _ (by omega)) | (intro hh; exfalso; omega))
        refine wpAnyH_take (i := 7) (v := .int .i64 (65536 * (y0.toNat : Int))) rfl (by kernel_rfl) (by kernel_rfl) (by kernel_rfl) (fun _ _ _ h => h) (.inl ⟨by kernel_rfl, fun W hW => ?_⟩) hS0 ?_
        · go_simp; try (first | (exact IntWalk.i64_in _ (by omega)) | (intro hh; exfalso; omega))
        refine wpAnyH_take (i := 8) (v := .slice (some ⟨b, off, none⟩) len0 cap0) rfl (by kernel_rfl) (by kernel_rfl) (by kernel_rfl) (fun _ _ _ h => h) (.inl ⟨by kernel_rfl, fun W hW => ?_⟩) hS0 ?_
        · go_simp; try (first | (exact IntWalk.i64_in _ (by omega)) | (intro hh; exfalso; omega))
        refine wpAnyH_take (i := 9) (v := .int .i64 4) rfl (by kernel_rfl) (by kernel_rfl) (by kernel_rfl) (fun _ _ _ h => h) (.inl ⟨by kernel_rfl, fun W hW => ?_⟩) hS0 ?_
        · go_simp; try (first | (exact IntWalk.i64_in _ (by omega)) | (intro hh; exfalso; omega))
        refine wpAnyH_take (i := 10) (v := .int .i64 12) rfl (by kernel_rfl) (by kernel_rfl) (by kernel_rfl) (fun _ _ _ h => h) (.inl ⟨by kernel_rfl, fun W hW => ?_⟩) hS0 ?_
        · go_simp; try (first | (exact IntWalk.i64_in _ (by omega)) | (intro hh; exfalso; omega))
        refine wpAnyH_take (i := 11) (v := .int .i64 13) rfl (by kernel_rfl) (by kernel_rfl) (by kernel_rfl) (fun _ _ _ h => h) (.inl ⟨by kernel_rfl, fun W hW => ?_⟩) hS0 ?_
        · go_simp; try (first | (exact IntWalk.i64_in _ (by omega)) | (intro hh; exfalso; omega))
        refine wpAnyH_take (i := 12) (v := .pointer (some ⟨b, off + 13, none⟩)) rfl (by kernel_rfl) (by kernel_rfl) (by kernel_rfl) (fun _ _ _ h => h) (.inl ⟨by kernel_rfl, fun W hW => ?_⟩) hS0 ?_
        · go_simp; try (first | (exact IntWalk.i64_in _ (by omega)) | (intro hh; exfalso; omega))
        refine wpAnyH_take (i := 13) (v := .int .u8 y1.toNat) rfl (by kernel_rfl) (by kernel_rfl) (by kernel_rfl) (fun _ _ _ h => h) (.inl ⟨by kernel_rfl, fun W hW => ?_⟩) hS0 ?_
        · obtain ⟨e0, e1, e2⟩ := HC.out W hW; go_simp; try (first | (exact IntWalk.i64_in _ (by omega)) | (intro hh; exfalso; omega))
        refine wpAnyH_take (i := 14) (v := .int .i64 y1.toNat) rfl (by kernel_rfl) (by kernel_rfl) (by kernel_rfl) (fun _ _ _ h => h) (.inl ⟨by kernel_rfl, fun W hW => ?_⟩) hS0 ?_
        · go_simp; try (first | (exact IntWalk.i64_in _ (by omega)) | (intro hh; exfalso; omega))
        refine wpAnyH_take (i := 15) (v := .int .i64 (256 * (y1.toNat : Int))) rfl (by kernel_rfl) (by kernel_rfl) (by kernel_rfl) (fun _ _ _ h => h) (.inl ⟨by kernel_rfl, fun W hW => ?_⟩) hS0 ?_
        · go_simp; try (first | (exact IntWalk.i64_in _ (by omega)) | (intro hh; exfalso; omega))
        refine wpAnyH_take (i := 16) (v := .int .i64 (65536 * (y0.toNat : Int) + 256 * (y1.toNat : Int))) rfl (by kernel_rfl) (by kernel_rfl) (by kernel_rfl) (fun _ _ _ h => h) (.inl ⟨by kernel_rfl, fun W hW => ?_⟩) hS0 ?_
        · go_simp; try (first | (exact IntWalk.i64_in _ (by omega)) | (intro hh; exfalso; omega))
        refine wpAnyH_take (i := 17) (v := .slice (some ⟨b, off, none⟩) len0 cap0) rfl (by kernel_rfl) (by kernel_rfl) (by kernel_rfl) (fun _ _ _ h => h) (.inl ⟨by kernel_rfl, fun W hW => ?_⟩) hS0 ?_
        · go_simp; try (first | (exact IntWalk.i64_in _ (by omega)) | (intro hh; exfalso; omega))
        refine wpAnyH_take (i := 18) (v := .int .i64 4) rfl (by kernel_rfl) (by kernel_rfl) (by kernel_rfl) (fun _ _ _ h => h) (.inl ⟨by kernel_rfl, fun W hW => ?_⟩) hS0 ?_
        · go_simp; try (first | (exact IntWalk.i64_in _ (by omega)) | (intro hh; exfalso; omega))
        refine wpAnyH_take (i := 19) (v := .int .i64 12) rfl (by kernel_rfl) (by kernel_rfl) (by kernel_rfl) (fun _ _ _ h => h) (.inl ⟨by kernel_rfl, fun W hW => ?_⟩) hS0 ?_
        · go_simp; try (first | (exact IntWalk.i64_in _ (by omega)) | (intro hh; exfalso; omega))
        refine wpAnyH_take (i := 20) (v := .int .i64 14) rfl (by kernel_rfl) (by kernel_rfl) (by kernel_rfl) (fun _ _ _ h => h) (.inl ⟨by kernel_rfl, fun W hW => ?_⟩) hS0 ?_
        · go_simp; try (first | (exact IntWalk.i64_in _ (by omega)) | (intro hh; exfalso; omega))
        refine wpAnyH_take (i := 21) (v := .pointer (some ⟨b, off + 14, none⟩)) rfl (by kernel_rfl) (by kernel_rfl) (by kernel_rfl) (fun _ _ _ h => h) (.inl ⟨by kernel_rfl, fun W hW => ?_⟩) hS0 ?_
        · go_simp; try (first | (exact IntWalk.i64_in _ (by omega)) | (intro hh; exfalso; omega))
        refine wpAnyH_take (i := 22) (v := .int .u8 y2.toNat) rfl (by kernel_rfl) (by kernel_rfl) (by kernel_rfl) (fun _ _ _ h => h) (.inl ⟨by kernel_rfl, fun W hW => ?_⟩) hS0 ?_
        · obtain ⟨e0, e1, e2⟩ := HC.out W hW; go_simp; try (first | (exact IntWalk.i64_in _ (by omega)) | (intro hh; exfalso; omega))
        refine wpAnyH_take (i := 23) (v := .int .i64 y2.toNat) rfl (by kernel_rfl) (by kernel_rfl) (by kernel_rfl) (fun _ _ _ h => h) (.inl ⟨by kernel_rfl, fun W hW => ?_⟩) hS0 ?_
        · go_simp; try (first | (exact IntWalk.i64_in _ (by omega)) | (intro hh; exfalso; omega))
        refine wpAnyH_take (i := 24) (v := .int .i64 (cof l 4 : Nat)) rfl (by kernel_rfl) (by kernel_rfl) (by kernel_rfl) (fun _ _ _ h => h) (.inl ⟨by kernel_rfl, fun W hW => ?_⟩) hS0 ?_
        · have hcf := HCe.out; have hcb := HCb.out; go_simp; try exact IntWalk.i64_in _ (by omega)
        refine wpAnyH_take (i := 25) (v := .pointer (some ⟨gx, 4, none⟩)) rfl (by kernel_rfl) (by kernel_rfl) (by kernel_rfl) (fun _ _ _ h => h) (.inl ⟨by kernel_rfl, fun W hW => ?_⟩) hS0 ?_
        · go_simp
        refine wpAnyH_all (rs := [26]) (by kernel_rfl) (by simp) ?_
        intro z hz
        rw [List.mem_singleton.1 hz]
        clear hz
        unfold wpOp
        go_simp
        refine .inl ⟨below_drew (HBk.out.setCell hg3 _), ?_⟩
        refine wpAnyH_done (by kernel_rfl) ?_ _
        clear hS0 hyc hyf
        go_wp2_with fail
        go_roundw
        case rel => exact ⟨5, by omega, by go_num, ⟨(HYk.out.set 4 (.int .i64 (cof l 4 : Nat))).head⟩, below_drew (HBk.out.setCell hg3 _)⟩
        case measure => simp [intOf]
      · have HC := Lib.hid (fun (W : World) (h : Below g w W) => (show W.cell? ⟨b, off + 15, none⟩ = some (.int .u8 (l[15]?.getD 0#8).toNat) ∧ W.cell? ⟨b, off + 16, none⟩ = some (.int .u8 (l[16]?.getD 0#8).toNat) ∧ W.cell? ⟨b, off + 17, none⟩ = some (.int .u8 (l[17]?.getD 0#8).toNat) by
          obtain ⟨b', off', e, _, hc⟩ := (HL.out.below h).2 (by omega)
          injection e with e
          injection e with e1 e2 _
          subst e1 e2
          exact ⟨hc 15 (by omega), hc 16 (by omega), hc 17 (by omega)⟩))
        have HCf := Lib.hid (show cof l 5 = 65536 * (l[15]?.getD 0#8).toNat + 256 * (l[16]?.getD 0#8).toNat + (l[17]?.getD 0#8).toNat from nat3 l 15 (by rw [HN.out]; omega))
        go_upto_region 15 with fail
        generalize l[15]?.getD 0#8 = y0 at *
        generalize l[16]?.getD 0#8 = y1 at *
        generalize l[17]?.getD 0#8 = y2 at *
        obtain ⟨q0, q1, q2, q3⟩ := three_w y0 y1 y2
        have r0 := one_w y0
        have r1 := one_w y1
        have r2 := one_w y2
        have hcf : 65536 * (y0.toNat : Int) + 256 * (y1.toNat : Int) + (y2.toNat : Int) = ((cof l 5 : Nat) : Int) := by have := HCf.out; omega
        have HCe := Lib.hid hcf
        have hcb : cof l 5 < 16777216 := by have := HCf.out; omega
        have HCb := Lib.hid hcb
        clear hcf hcb
        have n0 : ¬ ((len0 : Int) ≤ 15) := by omega
        have n1 : ¬ ((len0 : Int) ≤ 16) := by omega
        have n2 : ¬ ((len0 : Int) ≤ 17) := by omega
        have hyc := HYk.out.cell 5 (.int .i64 0) rfl
        have hyf := HYk.out.free 5
        refine wp_region_held (S := fun W => Below g w W) hmix ?_
        change wpAnyH _ _ _ _ _ _ _ _ (World.drew _)
        have hS0 : Below g w wr.drew := below_drew HBk.out
        refine wpAnyH_take (i := 0) (v := .int .i64 5) rfl (by kernel_rfl) (by kernel_rfl) (by kernel_rfl) (fun _ _ _ h => h) (.inl ⟨by kernel_rfl, fun W hW => ?_⟩) hS0 ?_
        · go_simp; try (first | (exact IntWalk.i64_in _ (by omega)) | (intro hh; exfalso; omega))
        refine wpAnyH_take (i := 1) (v := .slice (some ⟨b, off, none⟩) len0 cap0) rfl (by kernel_rfl) (by kernel_rfl) (by kernel_rfl) (fun _ _ _ h => h) (.inl ⟨by kernel_rfl, fun W hW => ?_⟩) hS0 ?_
        · go_simp; try (first | (exact IntWalk.i64_in _ (by omega)) | (intro hh; exfalso; omega))
        refine wpAnyH_take (i := 2) (v := .int .i64 5) rfl (by kernel_rfl) (by kernel_rfl) (by kernel_rfl) (fun _ _ _ h => h) (.inl ⟨by kernel_rfl, fun W hW => ?_⟩) hS0 ?_
        · go_simp; try (first | (exact IntWalk.i64_in _ (by omega)) | (intro hh; exfalso; omega))
        refine wpAnyH_take (i := 3) (v := .int .i64 15) rfl (by kernel_rfl) (by kernel_rfl) (by kernel_rfl) (fun _ _ _ h => h) (.inl ⟨by kernel_rfl, fun W hW => ?_⟩) hS0 ?_
        · go_simp; try (first | (exact IntWalk.i64_in _ (by omega)) | (intro hh; exfalso; omega))
        refine wpAnyH_take (i := 4) (v := .pointer (some ⟨b, off + 15, none⟩)) rfl (by kernel_rfl) (by kernel_rfl) (by kernel_rfl) (fun _ _ _ h => h) (.inl ⟨by kernel_rfl, fun W hW => ?_⟩) hS0 ?_
        · go_simp; try (first | (exact IntWalk.i64_in _ (by omega)) | (intro hh; exfalso; omega))
        refine wpAnyH_take (i := 5) (v := .int .u8 y0.toNat) rfl (by kernel_rfl) (by kernel_rfl) (by kernel_rfl) (fun _ _ _ h => h) (.inl ⟨by kernel_rfl, fun W hW => ?_⟩) hS0 ?_
        · obtain ⟨e0, e1, e2⟩ := HC.out W hW; go_simp; try (first | (exact IntWalk.i64_in _ (by omega)) | (intro hh; exfalso; omega))
        refine wpAnyH_take (i := 6) (v := .int .i64 y0.toNat) rfl (by kernel_rfl) (by kernel_rfl) (by kernel_rfl) (fun _ _ _ h => h) (.inl ⟨by kernel_rfl, fun W hW => ?_⟩) hS0 ?_
        · go_simp; try (first | (exact IntWalk.i64_in _ (by omega)) | (intro hh; exfalso; omega))
        refine wpAnyH_take (i := 7) (v := .int .i64 (65536 * (y0.toNat : Int))) rfl (by kernel_rfl) (by kernel_rfl) (by kernel_rfl) (fun _ _ _ h => h) (.inl ⟨by kernel_rfl, fun W hW => ?_⟩) hS0 ?_
        · go_simp; try (first | (exact IntWalk.i64_in _ (by omega)) | (intro hh; exfalso; omega))
        refine wpAnyH_take (i := 8) (v := .slice (some ⟨b, off, none⟩) len0 cap0) rfl (by kernel_rfl) (by kernel_rfl) (by kernel_rfl) (fun _ _ _ h => h) (.inl ⟨by kernel_rfl, fun W hW => ?_⟩) hS0 ?_
        · go_simp; try (first | (exact IntWalk.i64_in _ (by omega)) | (intro hh; exfalso; omega))
        refine wpAnyH_take (i := 9) (v := .int .i64 5) rfl (by kernel_rfl) (by kernel_rfl) (by kernel_rfl) (fun _ _ _ h => h) (.inl ⟨by kernel_rfl, fun W hW => ?_⟩) hS0 ?_
        · go_simp; try (first | (exact IntWalk.i64_in _ (by omega)) | (intro hh; exfalso; omega))
        refine wpAnyH_take (i := 10) (v := .int .i64 15) rfl (by kernel_rfl) (by kernel_rfl) (by kernel_rfl) (fun _ _ _ h => h) (.inl ⟨by kernel_rfl, fun W hW => ?_⟩) hS0 ?_
        · go_simp; try (first | (exact IntWalk.i64_in _ (by omega)) | (intro hh; exfalso; omega))
        refine wpAnyH_take (i := 11) (v := .int .i64 16) rfl (by kernel_rfl) (by kernel_rfl) (by kernel_rfl) (fun _ _ _ h => h) (.inl ⟨by kernel_rfl, fun W hW => ?_⟩) hS0 ?_
        · go_simp; try (first | (exact IntWalk.i64_in _ (by omega)) | (intro hh; exfalso; omega))
        refine wpAnyH_take (i := 12) (v := .pointer (some ⟨b, off + 16, none⟩)) rfl (by kernel_rfl) (by kernel_rfl) (by kernel_rfl) (fun _ _ _ h => h) (.inl ⟨by kernel_rfl, fun W hW => ?_⟩) hS0 ?_
        · go_simp; try (first | (exact IntWalk.i64_in _ (by omega)) | (intro hh; exfalso; omega))
        refine wpAnyH_take (i := 13) (v := .int .u8 y1.toNat) rfl (by kernel_rfl) (by kernel_rfl) (by kernel_rfl) (fun _ _ _ h => h) (.inl ⟨by kernel_rfl, fun W hW => ?_⟩) hS0 ?_
        · obtain ⟨e0, e1, e2⟩ := HC.out W hW; go_simp; try (first | (exact IntWalk.i64_in _ (by omega)) | (intro hh; exfalso; omega))
        refine wpAnyH_take (i := 14) (v := .int .i64 y1.toNat) rfl (by kernel_rfl) (by kernel_rfl) (by kernel_rfl) (fun _ _ _ h => h) (.inl ⟨by kernel_rfl, fun W hW => ?_⟩) hS0 ?_
        · go_simp; try (first | (exact IntWalk.i64_in _ (by omega)) | (intro hh; exfalso; omega))
        refine wpAnyH_take (i := 15) (v := .int .i64 (256 * (y1.toNat : Int))) rfl (by kernel_rfl) (by kernel_rfl) (by kernel_rfl) (fun _ _ _ h => h) (.inl ⟨by kernel_rfl, fun W hW => ?_⟩) hS0 ?_
        · go_simp; try (first | (exact IntWalk.i64_in _ (by omega)) | (intro hh; exfalso; omega))
        refine wpAnyH_take (i := 16) (v := .int .i64 (65536 * (y0.toNat : Int) + 256 * (y1.toNat : Int))) rfl (by kernel_rfl) (by kernel_rfl) (by kernel_rfl) (fun _ _ _ h => h) (.inl ⟨by kernel_rfl, fun W hW => ?_⟩) hS0 ?_
        · go_simp; try (first | (exact IntWalk.i64_in _ (by omega)) | (intro hh; exfalso; omega))
        refine wpAnyH_take (i := 17) (v := .slice (some ⟨b, off, none⟩) len0 cap0) rfl (by kernel_rfl) (by kernel_rfl) (by kernel_rfl) (fun _ _ _ h => h) (.inl ⟨by kernel_rfl, fun W hW => ?_⟩) hS0 ?_
        · go_simp; try (first | (exact IntWalk.i64_in _ (by omega)) | (intro hh; exfalso; omega))
        refine wpAnyH_take (i := 18) (v := .int .i64 5) rfl (by kernel_rfl) (by kernel_rfl) (by kernel_rfl) (fun _ _ _ h => h) (.inl ⟨by kernel_rfl, fun W hW => ?_⟩) hS0 ?_
        · go_simp; try (first | (exact IntWalk.i64_in _ (by omega)) | (intro hh; exfalso; omega))
        refine wpAnyH_take (i := 19) (v := .int .i64 15) rfl (by kernel_rfl) (by kernel_rfl) (by kernel_rfl) (fun _ _ _ h => h) (.inl ⟨by kernel_rfl, fun W hW => ?_⟩) hS0 ?_
        · go_simp; try (first | (exact IntWalk.i64_in _ (by omega)) | (intro hh; exfalso; omega))
        refine wpAnyH_take (i := 20) (v := .int .i64 17) rfl (by kernel_rfl) (by kernel_rfl) (by kernel_rfl) (fun _ _ _ h => h) (.inl ⟨by kernel_rfl, fun W hW => ?_⟩) hS0 ?_
        · go_simp; try (first | (exact IntWalk.i64_in _ (by omega)) | (intro hh; exfalso; omega))
        refine wpAnyH_take (i := 21) (v := .pointer (some ⟨b, off + 17, none⟩)) rfl (by kernel_rfl) (by kernel_rfl) (by kernel_rfl) (fun _ _ _ h => h) (.inl ⟨by kernel_rfl, fun W hW => ?_⟩) hS0 ?_
        · go_simp; try (first | (exact IntWalk.i64_in _ (by omega)) | (intro hh; exfalso; omega))
        refine wpAnyH_take (i := 22) (v := .int .u8 y2.toNat) rfl (by kernel_rfl) (by kernel_rfl) (by kernel_rfl) (fun _ _ _ h => h) (.inl ⟨by kernel_rfl, fun W hW => ?_⟩) hS0 ?_
        · obtain ⟨e0, e1, e2⟩ := HC.out W hW; go_simp; try (first | (exact IntWalk.i64_in _ (by omega)) | (intro hh; exfalso; omega))
        refine wpAnyH_take (i := 23) (v := .int .i64 y2.toNat) rfl (by kernel_rfl) (by kernel_rfl) (by kernel_rfl) (fun _ _ _ h => h) (.inl ⟨by kernel_rfl, fun W hW => ?_⟩) hS0 ?_
        · go_simp; try (first | (exact IntWalk.i64_in _ (by omega)) | (intro hh; exfalso; omega))
        refine wpAnyH_take (i := 24) (v := .int .i64 (cof l 5 : Nat)) rfl (by kernel_rfl) (by kernel_rfl) (by kernel_rfl) (fun _ _ _ h => h) (.inl ⟨by kernel_rfl, fun W hW => ?_⟩) hS0 ?_
        · have hcf := HCe.out; have hcb := HCb.out; go_simp; try exact IntWalk.i64_in _ (by omega)
        refine wpAnyH_take (i := 25) (v := .pointer (some ⟨gx, 5, none⟩)) rfl (by kernel_rfl) (by kernel_rfl) (by kernel_rfl) (fun _ _ _ h => h) (.inl ⟨by kernel_rfl, fun W hW => ?_⟩) hS0 ?_
        · go_simp
        refine wpAnyH_all (rs := [26]) (by kernel_rfl) (by simp) ?_
        intro z hz
        rw [List.mem_singleton.1 hz]
        clear hz
        unfold wpOp
        go_simp
        refine .inl ⟨below_drew (HBk.out.setCell hg3 _), ?_⟩
        refine wpAnyH_done (by kernel_rfl) ?_ _
        clear hS0 hyc hyf
        go_wp2_with fail
        go_roundw
        case rel => exact ⟨6, by omega, by go_num, ⟨(HYk.out.set 5 (.int .i64 (cof l 5 : Nat))).head⟩, below_drew (HBk.out.setCell hg3 _)⟩
        case measure => simp [intOf]
      · have HC := Lib.hid (fun (W : World) (h : Below g w W) => (show W.cell? ⟨b, off + 18, none⟩ = some (.int .u8 (l[18]?.getD 0#8).toNat) ∧ W.cell? ⟨b, off + 19, none⟩ = some (.int .u8 (l[19]?.getD 0#8).toNat) ∧ W.cell? ⟨b, off + 20, none⟩ = some (.int .u8 (l[20]?.getD 0#8).toNat) by
          obtain ⟨b', off', e, _, hc⟩ := (HL.out.below h).2 (by omega)
          injection e with e
          injection e with e1 e2 _
          subst e1 e2
          exact ⟨hc 18 (by omega), hc 19 (by omega), hc 20 (by omega)⟩))
        have HCf := Lib.hid (show cof l 6 = 65536 * (l[18]?.getD 0#8).toNat + 256 * (l[19]?.getD 0#8).toNat + (l[20]?.getD 0#8).toNat from nat3 l 18 (by rw [HN.out]; omega))
        go_upto_region 15 with fail
        generalize l[18]?.getD 0#8 = y0 at *
        generalize l[19]?.getD 0#8 = y1 at *
        generalize l[20]?.getD 0#8 = y2 at *
        obtain ⟨q0, q1, q2, q3⟩ := three_w y0 y1 y2
        have r0 := one_w y0
        have r1 := one_w y1
        have r2 := one_w y2
        have hcf : 65536 * (y0.toNat : Int) + 256 * (y1.toNat : Int) + (y2.toNat : Int) = ((cof l 6 : Nat) : Int) := by have := HCf.out; omega
        have HCe := Lib.hid hcf
        have hcb : cof l 6 < 16777216 := by have := HCf.out; omega
        have HCb := Lib.hid hcb
        clear hcf hcb
        have n0 : ¬ ((len0 : Int) ≤ 18) := by omega
        have n1 : ¬ ((len0 : Int) ≤ 19) := by omega
        have n2 : ¬ ((len0 : Int) ≤ 20) := by omega
        have hyc := HYk.out.cell 6 (.int .i64 0) rfl
        have hyf := HYk.out.free 6
        refine wp_region_held (S := fun W => Below g w W) hmix ?_
        change wpAnyH _ _ _ _ _ _ _ _ (World.drew _)
        have hS0 : Below g w wr.drew := below_drew HBk.out
        refine wpAnyH_take (i := 0) (v := .int .i64 6) rfl (by kernel_rfl) (by kernel_rfl) (by kernel_rfl) (fun _ _ _ h => h) (.inl ⟨by kernel_rfl, fun W hW => ?_⟩) hS0 ?_
        · go_simp; try (first | (exact IntWalk.i64_in _ (by omega)) | (intro hh; exfalso; omega))
        refine wpAnyH_take (i := 1) (v := .slice (some ⟨b, off, none⟩) len0 cap0) rfl (by kernel_rfl) (by kernel_rfl) (by kernel_rfl) (fun _ _ _ h => h) (.inl ⟨by kernel_rfl, fun W hW => ?_⟩) hS0 ?_
        · go_simp; try (first | (exact IntWalk.i64_in _ (by omega)) | (intro hh; exfalso; omega))
        refine wpAnyH_take (i := 2) (v := .int .i64 6) rfl (by kernel_rfl) (by kernel_rfl) (by kernel_rfl) (fun _ _ _ h => h) (.inl ⟨by kernel_rfl, fun W hW => ?_⟩) hS0 ?_
        · go_simp; try (first | (exact IntWalk.i64_in _ (by omega)) | (intro hh; exfalso; omega))
        refine wpAnyH_take (i := 3) (v := .int .i64 18) rfl (by kernel_rfl) (by kernel_rfl) (by kernel_rfl) (fun _ _ _ h => h) (.inl ⟨by kernel_rfl, fun W hW => ?_⟩) hS0 ?_
        · go_simp; try (first | (exact IntWalk.i64_in _ (by omega)) | (intro hh; exfalso; omega))
        refine wpAnyH_take (i := 4) (v := .pointer (some ⟨b, off + 18, none⟩)) rfl (by kernel_rfl) (by kernel_rfl) (by kernel_rfl) (fun _ _ _ h => h) (.inl ⟨by kernel_rfl, fun W hW => ?_⟩) hS0 ?_
        · go_simp; try (first | (exact IntWalk.i64_in _ (by omega)) | (intro hh; exfalso; omega))
        refine wpAnyH_take (i := 5) (v := .int .u8 y0.toNat) rfl (by kernel_rfl) (by kernel_rfl) (by kernel_rfl) (fun _ _ _ h => h) (.inl ⟨by kernel_rfl, fun W hW => ?_⟩) hS0 ?_
        · obtain ⟨e0, e1, e2⟩ := HC.out W hW; go_simp; try (first | (exact IntWalk.i64_in _ (by omega)) | (intro hh; exfalso; omega))
        refine wpAnyH_take (i := 6) (v := .int .i64 y0.toNat) rfl (by kernel_rfl) (by kernel_rfl) (by kernel_rfl) (fun _ _ _ h => h) (.inl ⟨by kernel_rfl, fun W hW => ?_⟩) hS0 ?_
        · go_simp; try (first | (exact IntWalk.i64_in _ (by omega)) | (intro hh; exfalso; omega))
        refine wpAnyH_take (i := 7) (v := .int .i64 (65536 * (y0.toNat : Int))) rfl (by kernel_rfl) (by kernel_rfl) (by kernel_rfl) (fun _ _ _ h => h) (.inl ⟨by kernel_rfl, fun W hW => ?_⟩) hS0 ?_
        · go_simp; try (first | (exact IntWalk.i64_in _ (by omega)) | (intro hh; exfalso; omega))
        refine wpAnyH_take (i := 8) (v := .slice (some ⟨b, off, none⟩) len0 cap0) rfl (by kernel_rfl) (by kernel_rfl) (by kernel_rfl) (fun _ _ _ h => h) (.inl ⟨by kernel_rfl, fun W hW => ?_⟩) hS0 ?_
        · go_simp; try (first | (exact IntWalk.i64_in _ (by omega)) | (intro hh; exfalso; omega))
        refine wpAnyH_take (i := 9) (v := .int .i64 6) rfl (by kernel_rfl) (by kernel_rfl) (by kernel_rfl) (fun _ _ _ h => h) (.inl ⟨by kernel_rfl, fun W hW => ?_⟩) hS0 ?_
        · go_simp; try (first | (exact IntWalk.i64_in _ (by omega)) | (intro hh; exfalso; omega))
        refine wpAnyH_take (i := 10) (v := .int .i64 18) rfl (by kernel_rfl) (by kernel_rfl) (by kernel_rfl) (fun _ _ _ h => h) (.inl ⟨by kernel_rfl, fun W hW => ?_⟩) hS0 ?_
        · go_simp; try (first | (exact IntWalk.i64_in _ (by omega)) | (intro hh; exfalso; omega))
        refine wpAnyH_take (i := 11) (v := .int .i64 19) rfl (by kernel_rfl) (by kernel_rfl) (by kernel_rfl) (fun _ _ _ h => h) (.inl ⟨by kernel_rfl, fun W hW => ?_⟩) hS0 ?_
        · go_simp; try (first | (exact IntWalk.i64_in _ (by omega)) | (intro hh; exfalso; omega))
        refine wpAnyH_take (i := 12) (v := .pointer (some ⟨b, off + 19, none⟩)) rfl (by kernel_rfl) (by kernel_rfl) (by kernel_rfl) (fun _ _ _ h => h) (.inl ⟨by kernel_rfl, fun W hW => ?_⟩) hS0 ?_
        · go_simp; try (first | (exact IntWalk.i64_in _ (by omega)) | (intro hh; exfalso; omega))
        refine wpAnyH_take (i := 13) (v := .int .u8 y1.toNat) rfl (by kernel_rfl) (by kernel_rfl) (by kernel_rfl) (fun _ _ _ h => h) (.inl ⟨by kernel_rfl, fun W hW => ?_⟩) hS0 ?_
        · obtain ⟨e0, e1, e2⟩ := HC.out W hW; go_simp; try (first | (exact IntWalk.i64_in _ (by omega)) | (intro hh; exfalso; omega))
        refine wpAnyH_take (i := 14) (v := .int .i64 y1.toNat) rfl (by kernel_rfl) (by kernel_rfl) (by kernel_rfl) (fun _ _ _ h => h) (.inl ⟨by kernel_rfl, fun W hW => ?_⟩) hS0 ?_
        · go_simp; try (first | (exact IntWalk.i64_in _ (by omega)) | (intro hh; exfalso; omega))
        refine wpAnyH_take (i := 15) (v := .int .i64 (256 * (y1.toNat : Int))) rfl (by kernel_rfl) (by kernel_rfl) (by kernel_rfl) (fun _ _ _ h => h) (.inl ⟨by kernel_rfl, fun W hW => ?_⟩) hS0 ?_
        · go_simp; try (first | (exact IntWalk.i64_in _ (by omega)) | (intro hh; exfalso; omega))
        refine wpAnyH_take (i := 16) (v := .int .i64 (65536 * (y0.toNat : Int) + 256 * (y1.toNat : Int))) rfl (by kernel_rfl) (by kernel_rfl) (by kernel_rfl) (fun _ _ _ h => h) (.inl ⟨by kernel_rfl, fun W hW => ?_⟩) hS0 ?_
        · go_simp; try (first | (exact IntWalk.i64_in _ (by omega)) | (intro hh; exfalso; omega))
        refine wpAnyH_take (i := 17) (v := .slice (some ⟨b, off, none⟩) len0 cap0) rfl (by kernel_rfl) (by kernel_rfl) (by kernel_rfl) (fun _ _ _ h => h) (.inl ⟨by kernel_rfl, fun W hW => ?_⟩) hS0 ?_
        · go_simp; try (first | (exact IntWalk.i64_in _ (by omega)) | (intro hh; exfalso; omega))
        refine wpAnyH_take (i := 18) (v := .int .i64 6) rfl (by kernel_rfl) (by kernel_rfl) (by kernel_rfl) (fun _ _ _ h => h) (.inl ⟨by kernel_rfl, fun W hW => ?_⟩) hS0 ?_
        · go_simp; try (first | (exact IntWalk.i64_in _ (by omega)) | (intro hh; exfalso; omega))
        refine wpAnyH_take (i := 19) (v := .int .i64 18) rfl (by kernel_rfl) (by kernel_rfl) (by kernel_rfl) (fun _ _ _ h => h) (.inl ⟨by kernel_rfl, fun W hW => ?_⟩) hS0 ?_
        · go_simp; try (first | (exact IntWalk.i64_in _ (by omega)) | (intro hh; exfalso; omega))
        refine wpAnyH_take (i := 20) (v := .int .i64 20) rfl (by kernel_rfl) (by kernel_rfl) (by kernel_rfl) (fun _ _ _ h => h) (.inl ⟨by kernel_rfl, fun W hW => ?_⟩) hS0 ?_
        · go_simp; try (first | (exact IntWalk.i64_in _ (by omega)) | (intro hh; exfalso; omega))
        refine wpAnyH_take (i := 21) (v := .pointer (some ⟨b, off + 20, none⟩)) rfl (by kernel_rfl) (by kernel_rfl) (by kernel_rfl) (fun _ _ _ h => h) (.inl ⟨by kernel_rfl, fun W hW => ?_⟩) hS0 ?_
        · go_simp; try (first | (exact IntWalk.i64_in _ (by omega)) | (intro hh; exfalso; omega))
        refine wpAnyH_take (i := 22) (v := .int .u8 y2.toNat) rfl (by kernel_rfl) (by kernel_rfl) (by kernel_rfl) (fun _ _ _ h => h) (.inl ⟨by kernel_rfl, fun W hW => ?_⟩) hS0 ?_
        · obtain ⟨e0, e1, e2⟩ := HC.out W hW; go_simp; try (first | (exact IntWalk.i64_in _ (by omega)) | (intro hh; exfalso; omega))
        refine wpAnyH_take (i := 23) (v := .int .i64 y2.toNat) rfl (by kernel_rfl) (by kernel_rfl) (by kernel_rfl) (fun _ _ _ h => h) (.inl ⟨by kernel_rfl, fun W hW => ?_⟩) hS0 ?_
        · go_simp; try (first | (exact IntWalk.i64_in _ (by omega)) | (intro hh; exfalso; omega))
        refine wpAnyH_take (i := 24) (v := .int .i64 (cof l 6 : Nat)) rfl (by kernel_rfl) (by kernel_rfl) (by kernel_rfl) (fun _ _ _ h => h) (.inl ⟨by kernel_rfl, fun W hW => ?_⟩) hS0 ?_
        · have hcf := HCe.out; have hcb := HCb.out; go_simp; try exact IntWalk.i64_in _ (by omega)
        refine wpAnyH_take (i := 25) (v := .pointer (some ⟨gx, 6, none⟩)) rfl (by kernel_rfl) (by kernel_rfl) (by kernel_rfl) (fun _ _ _ h => h) (.inl ⟨by kernel_rfl, fun W hW => ?_⟩) hS0 ?_
        · go_simp
        refine wpAnyH_all (rs := [26]) (by kernel_rfl) (by simp) ?_
        intro z hz
        rw [List.mem_singleton.1 hz]
        clear hz
        unfold wpOp
        go_simp
        refine .inl ⟨below_drew (HBk.out.setCell hg3 _), ?_⟩
        refine wpAnyH_done (by kernel_rfl) ?_ _
        clear hS0 hyc hyf
        go_wp2_with fail
        go_roundw
        case rel => exact ⟨7, by omega, by go_num, ⟨(HYk.out.set 6 (.int .i64 (cof l 6 : Nat))).head⟩, below_drew (HBk.out.setCell hg3 _)⟩
        case measure => simp [intOf]
      · have HC := Lib.hid (fun (W : World) (h : Below g w W) => (show W.cell? ⟨b, off + 21, none⟩ = some (.int .u8 (l[21]?.getD 0#8).toNat) ∧ W.cell? ⟨b, off + 22, none⟩ = some (.int .u8 (l[22]?.getD 0#8).toNat) ∧ W.cell? ⟨b, off + 23, none⟩ = some (.int .u8 (l[23]?.getD 0#8).toNat) by
          obtain ⟨b', off', e, _, hc⟩ := (HL.out.below h).2 (by omega)
          injection e with e
          injection e with e1 e2 _
          subst e1 e2
          exact ⟨hc 21 (by omega), hc 22 (by omega), hc 23 (by omega)⟩))
        have HCf := Lib.hid (show cof l 7 = 65536 * (l[21]?.getD 0#8).toNat + 256 * (l[22]?.getD 0#8).toNat + (l[23]?.getD 0#8).toNat from nat3 l 21 (by rw [HN.out]; omega))
        go_upto_region 15 with fail
        generalize l[21]?.getD 0#8 = y0 at *
        generalize l[22]?.getD 0#8 = y1 at *
        generalize l[23]?.getD 0#8 = y2 at *
        obtain ⟨q0, q1, q2, q3⟩ := three_w y0 y1 y2
        have r0 := one_w y0
        have r1 := one_w y1
        have r2 := one_w y2
        have hcf : 65536 * (y0.toNat : Int) + 256 * (y1.toNat : Int) + (y2.toNat : Int) = ((cof l 7 : Nat) : Int) := by have := HCf.out; omega
        have HCe := Lib.hid hcf
        have hcb : cof l 7 < 16777216 := by have := HCf.out; omega
        have HCb := Lib.hid hcb
        clear hcf hcb
        have n0 : ¬ ((len0 : Int) ≤ 21) := by omega
        have n1 : ¬ ((len0 : Int) ≤ 22) := by omega
        have n2 : ¬ ((len0 : Int) ≤ 23) := by omega
        have hyc := HYk.out.cell 7 (.int .i64 0) rfl
        have hyf := HYk.out.free 7
        refine wp_region_held (S := fun W => Below g w W) hmix ?_
        change wpAnyH _ _ _ _ _ _ _ _ (World.drew _)
        have hS0 : Below g w wr.drew := below_drew HBk.out
        refine wpAnyH_take (i := 0) (v := .int .i64 7) rfl (by kernel_rfl) (by kernel_rfl) (by kernel_rfl) (fun _ _ _ h => h) (.inl ⟨by kernel_rfl, fun W hW => ?_⟩) hS0 ?_
        · go_simp; try (first | (exact IntWalk.i64_in _ (by omega)) | (intro hh; exfalso; omega))
        refine wpAnyH_take (i := 1) (v := .slice (some ⟨b, off, none⟩) len0 cap0) rfl (by kernel_rfl) (by kernel_rfl) (by kernel_rfl) (fun _ _ _ h => h) (.inl ⟨by kernel_rfl, fun W hW => ?_⟩) hS0 ?_
        · go_simp; try (first | (exact IntWalk.i64_in _ (by omega)) | (intro hh; exfalso; omega))
        refine wpAnyH_take (i := 2) (v := .int .i64 7) rfl (by kernel_rfl) (by kernel_rfl) (by kernel_rfl) (fun _ _ _ h => h) (.inl ⟨by kernel_rfl, fun W hW => ?_⟩) hS0 ?_
        · go_simp; try (first | (exact IntWalk.i64_in _ (by omega)) | (intro hh; exfalso; omega))
        refine wpAnyH_take (i := 3) (v := .int .i64 21) rfl (by kernel_rfl) (by kernel_rfl) (by kernel_rfl) (fun _ _ _ h => h) (.inl ⟨by kernel_rfl, fun W hW => ?_⟩) hS0 ?_
        · go_simp; try (first | (exact IntWalk.i64_in _ (by omega)) | (intro hh; exfalso; omega))
        refine wpAnyH_take (i := 4) (v := .pointer (some ⟨b, off + 21, none⟩)) rfl (by kernel_rfl) (by kernel_rfl) (by kernel_rfl) (fun _ _ _ h => h) (.inl ⟨by kernel_rfl, fun W hW => ?_⟩) hS0 ?_
        · go_simp; try (first | (exact IntWalk.i64_in _ (by omega)) | (intro hh; exfalso; omega))
        refine wpAnyH_take (i := 5) (v := .int .u8 y0.toNat) rfl (by kernel_rfl) (by kernel_rfl) (by kernel_rfl) (fun _ _ _ h => h) (.inl ⟨by kernel_rfl, fun W hW => ?_⟩) hS0 ?_
        · obtain ⟨e0, e1, e2⟩ := HC.out W hW; go_simp; try (first | (exact IntWalk.i64_in _ (by omega)) | (intro hh; exfalso; omega))
        refine wpAnyH_take (i := 6) (v := .int .i64 y0.toNat) rfl (by kernel_rfl) (by kernel_rfl) (by kernel_rfl) (fun _ _ _ h => h) (.inl ⟨by kernel_rfl, fun W hW => ?_⟩) hS0 ?_
        · go_simp; try (first | (exact IntWalk.i64_in _ (by omega)) | (intro hh; exfalso; omega))
        refine wpAnyH_take (i := 7) (v := .int .i64 (65536 * (y0.toNat : Int))) rfl (by kernel_rfl) (by kernel_rfl) (by kernel_rfl) (fun _ _ _ h => h) (.inl ⟨by kernel_rfl, fun W hW => ?_⟩) hS0 ?_
        · go_simp; try (first | (exact IntWalk.i64_in _ (by omega)) | (intro hh; exfalso; omega))
        refine wpAnyH_take (i := 8) (v := .slice (some ⟨b, off, none⟩) len0 cap0) rfl (by kernel_rfl) (by kernel_rfl) (by kernel_rfl) (fun _ _ _ h => h) (.inl ⟨by kernel_rfl, fun W hW => ?_⟩) hS0 ?_
        · go_simp; try (first | (exact IntWalk.i64_in _ (by omega)) | (intro hh; exfalso; omega))
        refine wpAnyH_take (i := 9) (v := .int .i64 7) rfl (by kernel_rfl) (by kernel_rfl) (by kernel_rfl) (fun _ _ _ h => h) (.inl ⟨by kernel_rfl, fun W hW => ?_⟩) hS0 ?_
        · go_simp; try (first | (exact IntWalk.i64_in _ (by omega)) | (intro hh; exfalso; omega))
        refine wpAnyH_take (i := 10) (v := .int .i64 21) rfl (by kernel_rfl) (by kernel_rfl) (by kernel_rfl) (fun _ _ _ h => h) (.inl ⟨by kernel_rfl, fun W hW => ?_⟩) hS0 ?_
        · go_simp; try (first | (exact IntWalk.i64_in _ (by omega)) | (intro hh; exfalso; omega))
        refine wpAnyH_take (i := 11) (v := .int .i64 22) rfl (by kernel_rfl) (by kernel_rfl) (by kernel_rfl) (fun _ _ _ h => h) (.inl ⟨by kernel_rfl, fun W hW => ?_⟩) hS0 ?_
        · go_simp; try (first | (exact IntWalk.i64_in _ (by omega)) | (intro hh; exfalso; omega))
        refine wpAnyH_take (i := 12) (v := .pointer (some ⟨b, off + 22, none⟩)) rfl (by kernel_rfl) (by kernel_rfl) (by kernel_rfl) (fun _ _ _ h => h) (.inl ⟨by kernel_rfl, fun W hW => ?_⟩) hS0 ?_
        · go_simp; try (first | (exact IntWalk.i64_in _ (by omega)) | (intro hh; exfalso; omega))
        refine wpAnyH_take (i := 13) (v := .int .u8 y1.toNat) rfl (by kernel_rfl) (by kernel_rfl) (by kernel_rfl) (fun _ _ _ h => h) (.inl ⟨by kernel_rfl, fun W hW => ?_⟩) hS0 ?_
        · obtain ⟨e0, e1, e2⟩ := HC.out W hW; go_simp; try (first | (exact IntWalk.i64_in _ (by omega)) | (intro hh; exfalso; omega))
        refine wpAnyH_take (i := 14) (v := .int .i64 y1.toNat) rfl (by kernel_rfl) (by kernel_rfl) (by kernel_rfl) (fun _ _ _ h => h) (.inl ⟨by kernel_rfl, fun W hW => ?_⟩) hS0 ?_
        · go_simp; try (first | (exact IntWalk.i64_in _ (by omega)) | (intro hh; exfalso; omega))
        refine wpAnyH_take (i := 15) (v := .int .i64 (256 * (y1.toNat : Int))) rfl (by kernel_rfl) (by kernel_rfl) (by kernel_rfl) (fun _ _ _ h => h) (.inl ⟨by kernel_rfl, fun W hW => ?_⟩) hS0 ?_
        · go_simp; try (first | (exact IntWalk.i64_in _ (by omega)) | (intro hh; exfalso; omega))
        refine wpAnyH_take (i := 16) (v := .int .i64 (65536 * (y0.toNat : Int) + 256 * (y1.toNat : Int))) rfl (by kernel_rfl) (by kernel_rfl) (by kernel_rfl) (fun _ _ _ h => h) (.inl ⟨by kernel_rfl, fun W hW => ?_⟩) hS0 ?_
        · go_simp; try (first | (exact IntWalk.i64_in _ (by omega)) | (intro hh; exfalso; omega))
        refine wpAnyH_take (i := 17) (v := .slice (some ⟨b, off, none⟩) len0 cap0) rfl (by kernel_rfl) (by kernel_rfl) (by kernel_rfl) (fun _ _ _ h => h) (.inl ⟨by kernel_rfl, fun W hW => ?_⟩) hS0 ?_
        · go_simp; try (first | (exact IntWalk.i64_in _ (by omega)) | (intro hh; exfalso; omega))
        refine wpAnyH_take (i := 18) (v := .int .i64 7) rfl (by kernel_rfl) (by kernel_rfl) (by kernel_rfl) (fun _ _ _ h => h) (.inl ⟨by kernel_rfl, fun W hW => ?_⟩) hS0 ?_
        · go_simp; try (first | (exact IntWalk.i64_in _ (by omega)) | (intro hh; exfalso; omega))
        refine wpAnyH_take (i := 19) (v := .int .i64 21) rfl (by kernel_rfl) (by kernel_rfl) (by kernel_rfl) (fun _ _ _ h => h) (.inl ⟨by kernel_rfl, fun W hW => ?_⟩) hS0 ?_
        · go_simp; try (first | (exact IntWalk.i64_in _ (by omega)) | (intro hh; exfalso; omega))
        refine wpAnyH_take (i := 20) (v := .int .i64 23) rfl (by kernel_rfl) (by kernel_rfl) (by kernel_rfl) (fun _ _ _ h => h) (.inl ⟨by kernel_rfl, fun W hW => ?_⟩) hS0 ?_
        · go_simp; try (first | (exact IntWalk.i64_in _ (by omega)) | (intro hh; exfalso; omega))
        refine wpAnyH_take (i := 21) (v := .pointer (some ⟨b, off + 23, none⟩)) rfl (by kernel_rfl) (by kernel_rfl) (by kernel_rfl) (fun _ _ _ h => h) (.inl ⟨by kernel_rfl, fun W hW => ?_⟩) hS0 ?_
        · go_simp; try (first | (exact IntWalk.i64_in _ (by omega)) | (intro hh; exfalso; omega))
        refine wpAnyH_take (i := 22) (v := .int .u8 y2.toNat) rfl (by kernel_rfl) (by kernel_rfl) (by kernel_rfl) (fun _ _ _ h => h) (.inl ⟨by kernel_rfl, fun W hW => ?_⟩) hS0 ?_
        · obtain ⟨e0, e1, e2⟩ := HC.out W hW; go_simp; try (first | (exact IntWalk.i64_in _ (by omega)) | (intro hh; exfalso; omega))
        refine wpAnyH_take (i := 23) (v := .int .i64 y2.toNat) rfl (by kernel_rfl) (by kernel_rfl) (by kernel_rfl) (fun _ _ _ h => h) (.inl ⟨by kernel_rfl, fun W hW => ?_⟩) hS0 ?_
        · go_simp; try (first | (exact IntWalk.i64_in _ (by omega)) | (intro hh; exfalso; omega))
        refine wpAnyH_take (i := 24) (v := .int .i64 (cof l 7 : Nat)) rfl (by kernel_rfl) (by kernel_rfl) (by kernel_rfl) (fun _ _ _ h => h) (.inl ⟨by kernel_rfl, fun W hW => ?_⟩) hS0 ?_
        · have hcf := HCe.out; have hcb := HCb.out; go_simp; try exact IntWalk.i64_in _ (by omega)
        refine wpAnyH_take (i := 25) (v := .pointer (some ⟨gx, 7, none⟩)) rfl (by kernel_rfl) (by kernel_rfl) (by kernel_rfl) (fun _ _ _ h => h) (.inl ⟨by kernel_rfl, fun W hW => ?_⟩) hS0 ?_
        · go_simp
        refine wpAnyH_all (rs := [26]) (by kernel_rfl) (by simp) ?_
        intro z hz
        rw [List.mem_singleton.1 hz]
        clear hz
        unfold wpOp
        go_simp
        refine .inl ⟨below_drew (HBk.out.setCell hg3 _), ?_⟩
        refine wpAnyH_done (by kernel_rfl) ?_ _
        clear hS0 hyc hyf
        go_wp2_with fail
        go_roundw
        case rel => exact ⟨8, by omega, by go_num, ⟨(HYk.out.set 7 (.int .i64 (cof l 7 : Nat))).head⟩, below_drew (HBk.out.setCell hg3 _)⟩
        case measure => simp [intOf]
      · clear hk
        obtain ⟨c0, c1, c2, c3, c4, c5, c6, c7⟩ := (show Bx gx wr #[.int .i64 (cof l 0 : Nat), .int .i64 (cof l 1 : Nat), .int .i64 (cof l 2 : Nat), .int .i64 (cof l 3 : Nat), .int .i64 (cof l 4 : Nat), .int .i64 (cof l 5 : Nat), .int .i64 (cof l 6 : Nat), .int .i64 (cof l 7 : Nat)] from HYk.out).cells8
        have HRt := Lib.hid (lright_any (cof l 0) (cof l 1) (cof l 2) (cof l 3) (cof l 4) (cof l 5) (cof l 6) (cof l 7))
        have HRe := Lib.hid (show rt (cof l 0) (cof l 1) (cof l 2) (cof l 3) (cof l 4) (cof l 5) (cof l 6) (cof l 7) = false from HR.out)
        unfold cv at HRt
        go_wp2_with fail
        refine (HRt.out _).mono ?_
        rintro e w5 ⟨rfl, hb⟩
        have HB5 := Lib.hid (HBk.out.trans (hb.mono (by have := HYk.out.room; omega)))
        clear hb
        rw [HRe.out]
        go_wp2
        go_ret
        exact ⟨rfl, by rw [HG.out]; exact HB5.out⟩
  · have hrn := hrow.len
    have hml := hrd.le
    have hel : (evs L).length = m := by rw [← hrd.bytes, List.length_take]; omega
    have hl2 : (l.drop 24).length = len0 - 24 := by simp [HN.out]
    have hn111 : n ≤ 111 := by rw [tot_evs, hrn] at hel; omega
    have hN24 : 24 + m ≤ len0 := by omega
    have hes : 24 + (evs L).length = 24 + m := by omega
    have HDr := Lib.hid (show (l.drop 24).drop m = l.drop (24 + m) by rw [List.drop_drop])
    have HTk := Lib.hid (cbs_take (by rw [HN.out]; exact h1) hrd)
    have HRd := Lib.hid hrd
    have HRow := Lib.hid hrow
    have HLn := Lib.hid hrn
    have HRi := Lib.hid hrd.right
    have HEs := Lib.hid hes
    have HL2 := Lib.hid hl2
    obtain ⟨N, hN⟩ : ∃ N, 24 + m = N := ⟨_, rfl⟩
    rw [hN] at hN24 HDr HTk HEs
    simp only [hN]
    have HNm := Lib.hid hN
    have hN0 : 24 ≤ N := by omega
    have HR := Lib.hid h2
    clear hrn hml hel hl2 hes hrd hrow hN h2
    have hd2 : decide ((len0 : Int) < 24) = false := by simp; omega
    have HX := Lib.hid (Bx.new w2 w2.heap.size rfl #[.int .i64 (cof l 0 : Nat), .int .i64 (cof l 1 : Nat), .int .i64 (cof l 2 : Nat), .int .i64 (cof l 3 : Nat), .int .i64 (cof l 4 : Nat), .int .i64 (cof l 5 : Nat), .int .i64 (cof l 6 : Nat), .int .i64 (cof l 7 : Nat)] 23)
    have hbn := (Below.refl w2.heap.size w2).alloc (Nat.le_refl _) (.cells #[.int .i64 (cof l 0 : Nat), .int .i64 (cof l 1 : Nat), .int .i64 (cof l 2 : Nat), .int .i64 (cof l 3 : Nat), .int .i64 (cof l 4 : Nat), .int .i64 (cof l 5 : Nat), .int .i64 (cof l 6 : Nat), .int .i64 (cof l 7 : Nat)] 23)
    have HB3 := Lib.hid (HB2.out.trans (hbn.mono hg2))
    have HRo := Lib.hid (HRow.out.below hbn)
    clear hbn HRow HB2
    rw [show cf8 (cof l) = #[.int .i64 (cof l 0 : Nat), .int .i64 (cof l 1 : Nat), .int .i64 (cof l 2 : Nat), .int .i64 (cof l 3 : Nat), .int .i64 (cof l 4 : Nat), .int .i64 (cof l 5 : Nat), .int .i64 (cof l 6 : Nat), .int .i64 (cof l 7 : Nat)] from rfl]
    go_upto_region 6 with fail
    generalize w2.alloc _ = w3 at *
    obtain ⟨gc, hgc⟩ : ∃ gc, w2.heap.size = gc := ⟨_, rfl⟩
    rw [hgc] at HX hg2 hgs
    simp only [hgc]
    clear hgc
    have hgw := HX.out.room
    have hn0 : ((N : Int) == 0) = false := by simp; omega
    go_upto_region 18 with fail
    go_wp2_with fail
    go_loopw [111] (fun i wr => ∃ k : Nat, k ≤ n ∧ i = .int .i64 (k : Nat) ∧ Bx gc wr #[.int .i64 (cof l 0 : Nat), .int .i64 (cof l 1 : Nat), .int .i64 (cof l 2 : Nat), .int .i64 (cof l 3 : Nat), .int .i64 (cof l 4 : Nat), .int .i64 (cof l 5 : Nat), .int .i64 (cof l 6 : Nat), .int .i64 (cof l 7 : Nat)] ∧ EvRow w1.heap.size wr A n c L ∧ Below g w wr) (fun i _ => n - (intOf i).toNat)
    case atStart => exact ⟨0, by omega, rfl, HX.out, HRo.out, HB3.out⟩
    case round =>
      obtain ⟨k, hk, rfl, hx, hro, hb⟩ := hrel
      have HXk := Lib.hid hx
      have HRk := Lib.hid hro
      have HBk := Lib.hid hb
      have hgk := hx.room
      clear hx hro hb HX HRo HB3 hgw
      by_cases hlt : k < n
      · obtain ⟨x, hx⟩ : ∃ x, L[k]? = some x := ⟨_, List.getElem?_eq_getElem (by have := HLn.out; omega)⟩
        obtain ⟨bb, off, rfl, hbB, hc⟩ := HRk.out.evin.outer (by have := HLn.out; omega)
        obtain ⟨hc0, hc1, hc2, hc3⟩ := hc k x hx
        have HLw := Lib.hid (lright16_any x)
        unfold evv at HLw
        rw [HRi.out x (List.mem_of_getElem? hx)] at HLw
        clear hc hx
        have HE := Lib.hid (Bx.new wr wr.heap.size rfl #[.int .i64 x.k, .int .i64 x.i, .int .i64 x.n, .string (str x.t)] 30)
        have hbn := (Below.refl wr.heap.size wr).alloc (Nat.le_refl _) (.cells #[.int .i64 x.k, .int .i64 x.i, .int .i64 x.n, .string (str x.t)] 30)
        have HXe := Lib.hid (HXk.out.go hbn hgk)
        have HRe := Lib.hid (HRk.out.below hbn)
        have HBe := Lib.hid (HBk.out.trans (hbn.mono (by omega)))
        clear hbn HXk HRk HBk
        go_upto_region 21 with fail
        generalize wr.alloc _ = we at *
        obtain ⟨ge, hge⟩ : ∃ ge, wr.heap.size = ge := ⟨_, rfl⟩
        rw [hge] at HE hgk
        simp only [hge]
        clear hge hc0 hc1 hc2 hc3
        have hew := HE.out.room
        obtain ⟨m0, m1, m2, m3⟩ := HE.out.ev
        go_wp2_with fail
        refine (HLw.out _).mono ?_
        rintro e wi ⟨rfl, hbi⟩
        have HXi := Lib.hid (HXe.out.go hbi (by omega))
        have HRi2 := Lib.hid (HRe.out.below hbi)
        have HBi := Lib.hid (HBe.out.trans (hbi.mono (by omega)))
        clear hbi HXe HRe HBe
        go_wp2_with fail
        go_roundw
        case rel => exact ⟨k + 1, by omega, by go_num, HXi.out, HRi2.out, HBi.out⟩
        case measure => simp [intOf]; omega
      · obtain rfl : n = k := by omega
        clear hlt hk
        go_upto_region 24 with fail
        have HRt := Lib.hid (lright_any (cof l 0) (cof l 1) (cof l 2) (cof l 3) (cof l 4) (cof l 5) (cof l 6) (cof l 7))
        have HRe := Lib.hid (show rt (cof l 0) (cof l 1) (cof l 2) (cof l 3) (cof l 4) (cof l 5) (cof l 6) (cof l 7) = true from HR.out)
        rw [HRe.out] at HRt
        unfold cv at HRt
        have HBy := Lib.hid (fun (W : World) (h : Below wr.heap.size wr W) => lbytes_any (cof l 0) (cof l 1) (cof l 2) (cof l 3) (cof l 4) (cof l 5) (cof l 6) (cof l 7) A n c L W HRe.out ((HRk.out.below h).evin) HLn.out (by omega) HRi.out)
        unfold cv at HBy
        rw [HEs.out, HTk.out] at HBy
        obtain ⟨tl, htl⟩ : ∃ tl, l.take N = tl := ⟨_, rfl⟩
        rw [htl] at HBy
        have HCs := Lib.hid (fun (W : World) (h : Below wr.heap.size wr W) => (HXk.out.go h hgk).cells8)
        have HLt := Lib.hid (show ∀ W, Below wr.heap.size wr W → Bytes W g a0 N tl from fun W h => by rw [← htl]; exact ((HL.out.below HBk.out).below (h.mono (by omega))).take hN24)
        have HCv := Lib.hid (fun (W : World) (h : Below wr.heap.size wr W) => conv_str (cap := cap0) (HLt.out W h))
        have hsr := str_refl tl
        have hnl : decide ((N : Int) > (len0 : Int)) = false := by simp; omega
        have hn24 : decide ((N : Int) < 24) = false := by simp; omega
        have hnc : (N : Int) ≤ (cap0 : Int) := by omega
        clear htl
        refine wp_region_held (S := fun W => Below wr.heap.size wr W) hmix ?_
        change wpAnyH _ _ _ _ _ _ _ _ (World.drew _)
        have hS0 : Below wr.heap.size wr wr.drew := below_drew (Below.refl _ _)
        refine wpAnyH_take (i := 0) (v := .agg #[.int .i64 (cof l 0 : Nat), .int .i64 (cof l 1 : Nat), .int .i64 (cof l 2 : Nat), .int .i64 (cof l 3 : Nat), .int .i64 (cof l 4 : Nat), .int .i64 (cof l 5 : Nat), .int .i64 (cof l 6 : Nat), .int .i64 (cof l 7 : Nat)]) rfl (by kernel_rfl) (by kernel_rfl) (by kernel_rfl) (fun _ _ _ h => h) (.inl ⟨by kernel_rfl, fun W hW => ?_⟩) hS0 ?_
        · obtain ⟨k0, k1, k2, k3, k4, k5, k6, k7⟩ := HCs.out W hW; go_simp
        refine wpAnyH_all (rs := [1]) (by kernel_rfl) (by simp) ?_
        intro z hz
        rw [List.mem_singleton.1 hz]
        clear hz
        unfold wpOp
        go_simp
        refine .inl ((HRt.out _).mono ?_)
        rintro e ws ⟨rfl, hbs⟩
        have HBs := Lib.hid (show Below wr.heap.size wr ws from below_back hbs)
        clear hbs hS0
        go_simp
        refine ⟨HBs.out, ?_⟩
        have hS0 := HBs.out
        refine wpAnyH_take (i := 2) (v := .bool false) rfl (by kernel_rfl) (by kernel_rfl) (by kernel_rfl) (fun _ _ _ h => h) (.inl ⟨by kernel_rfl, fun W hW => ?_⟩) hS0 ?_
        · go_simp
        refine wpAnyH_take (i := 3) (v := .bool false) rfl (by kernel_rfl) (by kernel_rfl) (by kernel_rfl) (fun _ _ _ h => h) (.inl ⟨by kernel_rfl, fun W hW => ?_⟩) hS0 ?_
        · go_simp
        refine wpAnyH_take (i := 4) (v := .int .i64 N) rfl (by kernel_rfl) (by kernel_rfl) (by kernel_rfl) (fun _ _ _ h => h) (.inl ⟨by kernel_rfl, fun W hW => ?_⟩) hS0 ?_
        · go_simp
        refine wpAnyH_take (i := 5) (v := .bool false) rfl (by kernel_rfl) (by kernel_rfl) (by kernel_rfl) (fun _ _ _ h => h) (.inl ⟨by kernel_rfl, fun W hW => ?_⟩) hS0 ?_
        · go_simp
        refine wpAnyH_take (i := 6) (v := .bool false) rfl (by kernel_rfl) (by kernel_rfl) (by kernel_rfl) (fun _ _ _ h => h) (.inl ⟨by kernel_rfl, fun W hW => ?_⟩) hS0 ?_
        · go_simp
        refine wpAnyH_take (i := 7) (v := .bool false) rfl (by kernel_rfl) (by kernel_rfl) (by kernel_rfl) (fun _ _ _ h => h) (.inl ⟨by kernel_rfl, fun W hW => ?_⟩) hS0 ?_
        · go_simp
        refine wpAnyH_take (i := 8) (v := .int .i64 N) rfl (by kernel_rfl) (by kernel_rfl) (by kernel_rfl) (fun _ _ _ h => h) (.inl ⟨by kernel_rfl, fun W hW => ?_⟩) hS0 ?_
        · go_simp
        refine wpAnyH_take (i := 9) (v := .slice a0 len0 cap0) rfl (by kernel_rfl) (by kernel_rfl) (by kernel_rfl) (fun _ _ _ h => h) (.inl ⟨by kernel_rfl, fun W hW => ?_⟩) hS0 ?_
        · go_simp
        refine wpAnyH_take (i := 10) (v := .int .i64 len0) rfl (by kernel_rfl) (by kernel_rfl) (by kernel_rfl) (fun _ _ _ h => h) (.inl ⟨by kernel_rfl, fun W hW => ?_⟩) hS0 ?_
        · go_simp
        refine wpAnyH_take (i := 11) (v := .bool false) rfl (by kernel_rfl) (by kernel_rfl) (by kernel_rfl) (fun _ _ _ h => h) (.inl ⟨by kernel_rfl, fun W hW => ?_⟩) hS0 ?_
        · go_simp
        refine wpAnyH_take (i := 12) (v := .bool false) rfl (by kernel_rfl) (by kernel_rfl) (by kernel_rfl) (fun _ _ _ h => h) (.inl ⟨by kernel_rfl, fun W hW => ?_⟩) hS0 ?_
        · go_simp
        refine wpAnyH_take (i := 13) (v := .bool false) rfl (by kernel_rfl) (by kernel_rfl) (by kernel_rfl) (fun _ _ _ h => h) (.inl ⟨by kernel_rfl, fun W hW => ?_⟩) hS0 ?_
        · go_simp
        refine wpAnyH_take (i := 14) (v := .agg #[.int .i64 (cof l 0 : Nat), .int .i64 (cof l 1 : Nat), .int .i64 (cof l 2 : Nat), .int .i64 (cof l 3 : Nat), .int .i64 (cof l 4 : Nat), .int .i64 (cof l 5 : Nat), .int .i64 (cof l 6 : Nat), .int .i64 (cof l 7 : Nat)]) rfl (by kernel_rfl) (by kernel_rfl) (by kernel_rfl) (fun _ _ _ h => h) (.inl ⟨by kernel_rfl, fun W hW => ?_⟩) hS0 ?_
        · obtain ⟨k0, k1, k2, k3, k4, k5, k6, k7⟩ := HCs.out W hW; go_simp
        refine wpAnyH_take (i := 15) (v := .slice A n c) rfl (by kernel_rfl) (by kernel_rfl) (by kernel_rfl) (fun _ _ _ h => h) (.inl ⟨by kernel_rfl, fun W hW => ?_⟩) hS0 ?_
        · go_simp
        refine wpAnyH_take (i := 18) (v := .slice a0 len0 cap0) rfl (by kernel_rfl) (by kernel_rfl) (by kernel_rfl) (fun _ _ _ h => h) (.inl ⟨by kernel_rfl, fun W hW => ?_⟩) hS0 ?_
        · go_simp
        refine wpAnyH_take (i := 19) (v := .int .i64 N) rfl (by kernel_rfl) (by kernel_rfl) (by kernel_rfl) (fun _ _ _ h => h) (.inl ⟨by kernel_rfl, fun W hW => ?_⟩) hS0 ?_
        · go_simp
        refine wpAnyH_take (i := 20) (v := .slice a0 N cap0) rfl (by kernel_rfl) (by kernel_rfl) (by kernel_rfl) (fun _ _ _ h => h) (.inl ⟨by kernel_rfl, fun W hW => ?_⟩) hS0 ?_
        · go_simp
        refine wpAnyH_take (i := 21) (v := .string (str tl)) rfl (by kernel_rfl) (by kernel_rfl) (by kernel_rfl) (fun _ _ _ h => h) (.inl ⟨by kernel_rfl, fun W hW => ?_⟩) hS0 ?_
        · have hcv := HCv.out W hW; go_simp
        refine wpAnyH_all (rs := [16]) (by kernel_rfl) (by simp) ?_
        intro z hz
        rw [List.mem_singleton.1 hz]
        clear hz
        unfold wpOp
        go_simp
        refine .inl ((HBy.out _ HBs.out).mono ?_)
        rintro e wv ⟨Av, cv2, rfl, hov, hbv⟩
        have HBv := Lib.hid (show Below wr.heap.size wr wv from HBs.out.trans (hbv.mono HBs.out.size))
        have HOv := Lib.hid hov
        clear hbv hov hS0
        go_simp
        refine ⟨HBv.out, held_more (T := fun W => Below wv.heap.size wv W) (fun W h => HBv.out.trans (h.mono HBv.out.size)) _ _ _ _ ?_⟩
        have HCv2 := Lib.hid (fun (W : World) (h : Below wv.heap.size wv W) => conv_str (cap := cv2) (HOv.out.below h).bytes)
        have hS0 : Below wv.heap.size wv wv := Below.refl _ _
        refine wpAnyH_take (i := 17) (v := .string (str tl)) rfl (by kernel_rfl) (by kernel_rfl) (by kernel_rfl) (fun _ _ _ h => h) (.inl ⟨by kernel_rfl, fun W hW => ?_⟩) hS0 ?_
        · have hcv := HCv2.out W hW; go_simp
        refine wpAnyH_take (i := 22) (v := .bool false) rfl (by kernel_rfl) (by kernel_rfl) (by kernel_rfl) (fun _ _ _ h => h) (.inl ⟨by kernel_rfl, fun W hW => ?_⟩) hS0 ?_
        · go_simp
        refine wpAnyH_take (i := 23) (v := .bool false) rfl (by kernel_rfl) (by kernel_rfl) (by kernel_rfl) (fun _ _ _ h => h) (.inl ⟨by kernel_rfl, fun W hW => ?_⟩) hS0 ?_
        · go_simp
        refine wpAnyH_done (by kernel_rfl) ?_ _
        clear hS0
        go_simp
        have HBf := Lib.hid (HBk.out.trans (HBv.out.mono (by omega)))
        have HLv := Lib.hid (HL.out.below HBf.out)
        clear HCs HLt HCv hsr HCv2 HOv HBy HRt HBk HBs HXk HRk hnl hn24
        go_upto_region 26 with fail
        rcases HRd.out.stop with ⟨rfl, hm⟩ | ⟨rfl, hm, hs⟩ | ⟨rfl, hm, hs, hrt⟩ | ⟨_, _, _, _, h8⟩
        rotate_left 3
        · rw [HLn.out] at h8; omega
        · obtain rfl : len0 = N := by have := HNm.out; rw [HL2.out] at hm; omega
          clear hm hnc hd2 hn0
          by_cases hc : cap0 = len0
          · go_wp2
            go_ret
            exact ⟨rfl, by rw [HG.out]; exact HBf.out⟩
          · go_wp2
            go_ret
            exact ⟨rfl, by rw [HG.out]; exact HBf.out⟩
        all_goals
          have hNl : N < len0 := by have := HNm.out; rw [HL2.out] at hm; omega
          have hne : ¬ cap0 = N := by omega
          obtain ⟨b, off, rfl, hbB, _⟩ := HLv.out.2 (by omega)
          have HRs := Lib.hid (HLv.out.cut2 (cap := cap0) (j := N) (by omega) hcap hne)
          rw [HDr.out] at hs
          have hrl : (l.drop N).length = len0 - N := by rw [List.length_drop, HN.out]
          go_upto_region 27 with fail
          clear hne hm
          obtain ⟨r, hr⟩ : ∃ r, len0 - N = r := ⟨_, rfl⟩
          rw [hr] at HRs hrl
          simp only [hr]
          have hr0 : 0 < r := by omega
          have hrc : r ≤ cap0 - N := by omega
          obtain ⟨cr, hcr⟩ : ∃ cr, cap0 - N = cr := ⟨_, rfl⟩
          simp only [hcr]
          rw [hcr] at hrc
          obtain ⟨R, hR⟩ : ∃ R, l.drop N = R := ⟨_, rfl⟩
          rw [hR] at HRs hrl hs
          have HRl := Lib.hid hrl
          have HS := Lib.hid hs
          have HRR := Lib.hid hR
          clear hR hcr hr hrl hs
        · clear hnc hNl hcap hd2 hn0 hN24 h1
          by_cases h7 : r < 7
          · have d1 : decide ((r : Int) > 0) = true := by simp; omega
            have d1n : decide (0 < r) = true := by simp; omega
            have d2 : decide ((r : Int) < 7) = true := by simp; omega
            clear h7 hrc
            go_wp2_with fail
            go_quiet (fail)
            go_wp2
            go_ret
            exact ⟨rfl, by rw [HG.out]; exact below_drewN HBf.out _⟩
          · have d1 : decide ((r : Int) > 0) = true := by simp; omega
            have d1n : decide (0 < r) = true := by simp; omega
            have d2 : decide ((r : Int) < 7) = false := by simp; omega
            have h7r : 7 ≤ r := by omega
            have hsz := HS.out
            unfold shortB at hsz
            rw [HRl.out] at hsz
            have hs2 : r < size R := by omega
            have hse : size R = 7 + (256 * (R[5]?.getD 0#8).toNat + (R[6]?.getD 0#8).toNat) := by unfold size; rw [nat2 R 5 (by rw [HRl.out]; omega)]
            obtain ⟨b', off', e, _, hc⟩ := HRs.out.2 (by omega)
            injection e with e
            injection e with e1 e2 _
            subst e1 e2
            have hc5 := hc 5 (by omega)
            have hc6 := hc 6 (by omega)
            clear hc hsz
            generalize R[5]?.getD 0#8 = y5 at *
            generalize R[6]?.getD 0#8 = y6 at *
            have b5 := y5.isLt
            have b6 := y6.isLt
            have r5 := one_w y5
            have r6 := one_w y6
            have w5 : IntKind.i64.wrap (256 * (y5.toNat : Int)) = 256 * (y5.toNat : Int) := IntWalk.i64_in _ (by omega)
            have w6 : IntKind.i64.wrap (7 + 256 * (y5.toNat : Int)) = 7 + 256 * (y5.toNat : Int) := IntWalk.i64_in _ (by omega)
            have w7 : IntKind.i64.wrap (7 + 256 * (y5.toNat : Int) + (y6.toNat : Int)) = 7 + 256 * (y5.toNat : Int) + (y6.toNat : Int) := IntWalk.i64_in _ (by omega)
            have d3 : decide ((r : Int) < 7 + 256 * (y5.toNat : Int) + (y6.toNat : Int)) = true := by simp; omega
            have n5 : ¬ ((r : Int) ≤ 5) := by omega
            have n6 : ¬ ((r : Int) ≤ 6) := by omega
            have p5 : 5 < r := by omega
            have p6 : 6 < r := by omega
            have HSe := Lib.hid hse
            clear hse h7 h7r hs2
            go_wp2_with fail
            go_quiet (fail)
            go_wp2
            go_ret
            exact ⟨rfl, by rw [HG.out]; exact below_drewN HBf.out _⟩
        · rw [HDr.out, HRR.out] at hrt
          have h7r : 7 ≤ r := by have := HS.out.1; rw [HRl.out] at this; exact this
          have hsz := HS.out.2
          rw [HRl.out] at hsz
          have HRt := Lib.hid hrt
          have hse : size R = 7 + (256 * (R[5]?.getD 0#8).toNat + (R[6]?.getD 0#8).toNat) := by unfold size; rw [nat2 R 5 (by rw [HRl.out]; omega)]
          have hev : evOf R = ⟨((R[0]?.getD 0#8).toNat : Nat), ((R[1]?.getD 0#8).toNat : Nat), (65536 * (R[2]?.getD 0#8).toNat + 256 * (R[3]?.getD 0#8).toNat + (R[4]?.getD 0#8).toNat : Nat), (R.drop 7).take (256 * (R[5]?.getD 0#8).toNat + (R[6]?.getD 0#8).toNat)⟩ := by
            unfold evOf
            rw [nat2 R 5 (by rw [HRl.out]; omega), nat3 R 2 (by rw [HRl.out]; omega)]
          obtain ⟨b', off', e, _, hc⟩ := HRs.out.2 (by omega)
          injection e with e
          injection e with e1 e2 _
          subst e1 e2
          have hc0 := hc 0 (by omega)
          have hc1 := hc 1 (by omega)
          have hc2 := hc 2 (by omega)
          have hc3 := hc 3 (by omega)
          have hc4 := hc 4 (by omega)
          have hc5 := hc 5 (by omega)
          have hc6 := hc 6 (by omega)
          rw [Nat.add_zero] at hc0
          clear hc
          have HCY := Lib.hid (fun (W : World) (h : Bytes W g (some ⟨b, off + N, none⟩) r R) => (show W.cell? ⟨b, off + N, none⟩ = some (.int .u8 (R[0]?.getD 0#8).toNat) ∧ W.cell? ⟨b, off + N + 1, none⟩ = some (.int .u8 (R[1]?.getD 0#8).toNat) ∧ W.cell? ⟨b, off + N + 2, none⟩ = some (.int .u8 (R[2]?.getD 0#8).toNat) ∧ W.cell? ⟨b, off + N + 3, none⟩ = some (.int .u8 (R[3]?.getD 0#8).toNat) ∧ W.cell? ⟨b, off + N + 4, none⟩ = some (.int .u8 (R[4]?.getD 0#8).toNat) by
            obtain ⟨b', off', e, _, hc⟩ := h.2 (by omega)
            injection e with e
            injection e with e1 e2 _
            subst e1 e2
            exact ⟨hc 0 (by omega), hc 1 (by omega), hc 2 (by omega), hc 3 (by omega), hc 4 (by omega)⟩))
          generalize R[0]?.getD 0#8 = y0 at *
          generalize R[1]?.getD 0#8 = y1 at *
          generalize R[2]?.getD 0#8 = y2 at *
          generalize R[3]?.getD 0#8 = y3 at *
          generalize R[4]?.getD 0#8 = y4 at *
          generalize R[5]?.getD 0#8 = y5 at *
          generalize R[6]?.getD 0#8 = y6 at *
          have b0 := y0.isLt
          have b1 := y1.isLt
          have b2 := y2.isLt
          have b3 := y3.isLt
          have b4 := y4.isLt
          have b5 := y5.isLt
          have b6 := y6.isLt
          have r0 := one_w y0
          have r1 := one_w y1
          have r2 := one_w y2
          have r3 := one_w y3
          have r4 := one_w y4
          have r5 := one_w y5
          have r6 := one_w y6
          have w5 : IntKind.i64.wrap (256 * (y5.toNat : Int)) = 256 * (y5.toNat : Int) := IntWalk.i64_in _ (by omega)
          have w6 : IntKind.i64.wrap (256 * (y5.toNat : Int) + (y6.toNat : Int)) = 256 * (y5.toNat : Int) + (y6.toNat : Int) := IntWalk.i64_in _ (by omega)
          obtain ⟨u0, u1, u2', u3⟩ := three_w y2 y3 y4
          have p0 : 0 < r := by omega
          have p1 : 1 < r := by omega
          have p2 : 2 < r := by omega
          have p3 : 3 < r := by omega
          have p4 : 4 < r := by omega
          have p5 : 5 < r := by omega
          have p6 : 6 < r := by omega
          have HSe := Lib.hid hse
          have HSz := Lib.hid hsz
          have HEv := Lib.hid hev
          clear hse hev hsz hrt hd2 hn0
          go_upto_region 33 with fail
          go_quiet (fail)
          go_upto_region 34 with fail
          have HC := Lib.hid (fun (W : World) (h : Bytes W g (some ⟨b, off + N, none⟩) r R ∧ Below g w W) => (show W.cell? ⟨b, off + N, none⟩ = some (.int .u8 y0.toNat) ∧ W.cell? ⟨b, off + N + 1, none⟩ = some (.int .u8 y1.toNat) ∧ W.cell? ⟨b, off + N + 2, none⟩ = some (.int .u8 y2.toNat) ∧ W.cell? ⟨b, off + N + 3, none⟩ = some (.int .u8 y3.toNat) ∧ W.cell? ⟨b, off + N + 4, none⟩ = some (.int .u8 y4.toNat) from HCY.out W h.1))
          have q1 : 65536 * (y2.toNat : Int) + 256 * (y3.toNat : Int) + (y4.toNat : Int) = ((65536 * y2.toNat + 256 * y3.toNat + y4.toNat : Nat) : Int) := by omega
          have HQ1 := Lib.hid q1
          clear q1 hc0 hc1 hc2 hc3 hc4 hc5 hc6
          obtain ⟨nm, hnm⟩ : ∃ nm, 65536 * y2.toNat + 256 * y3.toNat + y4.toNat = nm := ⟨_, rfl⟩
          rw [hnm] at HEv HQ1
          have hnmb : nm < 16777216 := by omega
          clear hnm
          refine wp_region_held (S := fun W => Bytes W g (some ⟨b, off + N, none⟩) r R ∧ Below g w W) hmix ?_
          change wpAnyH _ _ _ _ _ _ _ _ (World.drew _)
          have hSn : ∀ q, Bytes (World.drew (wv.drewN q)) g (some ⟨b, off + N, none⟩) r R ∧ Below g w (World.drew (wv.drewN q)) := fun q => ⟨bytes_drew (HRs.out.drewN q), below_drew (below_drewN HBf.out q)⟩
          refine wpAnyH_take (i := 0) (v := .slice (some ⟨b, off + N, none⟩) r cr) rfl (by kernel_rfl) (by kernel_rfl) (by kernel_rfl) (fun _ _ _ h => h) (.inl ⟨by kernel_rfl, fun W hW => ?_⟩) (hSn _) ?_
          · go_simp; try (first | (exact IntWalk.i64_in _ (by omega)) | (intro hh; exfalso; omega))
          refine wpAnyH_take (i := 1) (v := .pointer (some ⟨b, off + N, none⟩)) rfl (by kernel_rfl) (by kernel_rfl) (by kernel_rfl) (fun _ _ _ h => h) (.inl ⟨by kernel_rfl, fun W hW => ?_⟩) (hSn _) ?_
          · go_simp; try (first | (exact IntWalk.i64_in _ (by omega)) | (intro hh; exfalso; omega))
          refine wpAnyH_take (i := 2) (v := .int .u8 y0.toNat) rfl (by kernel_rfl) (by kernel_rfl) (by kernel_rfl) (fun _ _ _ h => h) (.inl ⟨by kernel_rfl, fun W hW => ?_⟩) (hSn _) ?_
          · obtain ⟨e0, e1, e2, e3, e4⟩ := HC.out W hW; go_simp; try (first | (exact IntWalk.i64_in _ (by omega)) | (intro hh; exfalso; omega))
          refine wpAnyH_take (i := 3) (v := .int .i64 y0.toNat) rfl (by kernel_rfl) (by kernel_rfl) (by kernel_rfl) (fun _ _ _ h => h) (.inl ⟨by kernel_rfl, fun W hW => ?_⟩) (hSn _) ?_
          · go_simp; try (first | (exact IntWalk.i64_in _ (by omega)) | (intro hh; exfalso; omega))
          refine wpAnyH_take (i := 4) (v := .slice (some ⟨b, off + N, none⟩) r cr) rfl (by kernel_rfl) (by kernel_rfl) (by kernel_rfl) (fun _ _ _ h => h) (.inl ⟨by kernel_rfl, fun W hW => ?_⟩) (hSn _) ?_
          · go_simp; try (first | (exact IntWalk.i64_in _ (by omega)) | (intro hh; exfalso; omega))
          refine wpAnyH_take (i := 5) (v := .pointer (some ⟨b, off + N + 1, none⟩)) rfl (by kernel_rfl) (by kernel_rfl) (by kernel_rfl) (fun _ _ _ h => h) (.inl ⟨by kernel_rfl, fun W hW => ?_⟩) (hSn _) ?_
          · go_simp; try (first | (exact IntWalk.i64_in _ (by omega)) | (intro hh; exfalso; omega))
          refine wpAnyH_take (i := 6) (v := .int .u8 y1.toNat) rfl (by kernel_rfl) (by kernel_rfl) (by kernel_rfl) (fun _ _ _ h => h) (.inl ⟨by kernel_rfl, fun W hW => ?_⟩) (hSn _) ?_
          · obtain ⟨e0, e1, e2, e3, e4⟩ := HC.out W hW; go_simp; try (first | (exact IntWalk.i64_in _ (by omega)) | (intro hh; exfalso; omega))
          refine wpAnyH_take (i := 7) (v := .int .i64 y1.toNat) rfl (by kernel_rfl) (by kernel_rfl) (by kernel_rfl) (fun _ _ _ h => h) (.inl ⟨by kernel_rfl, fun W hW => ?_⟩) (hSn _) ?_
          · go_simp; try (first | (exact IntWalk.i64_in _ (by omega)) | (intro hh; exfalso; omega))
          refine wpAnyH_take (i := 8) (v := .slice (some ⟨b, off + N, none⟩) r cr) rfl (by kernel_rfl) (by kernel_rfl) (by kernel_rfl) (fun _ _ _ h => h) (.inl ⟨by kernel_rfl, fun W hW => ?_⟩) (hSn _) ?_
          · go_simp; try (first | (exact IntWalk.i64_in _ (by omega)) | (intro hh; exfalso; omega))
          refine wpAnyH_take (i := 9) (v := .pointer (some ⟨b, off + N + 2, none⟩)) rfl (by kernel_rfl) (by kernel_rfl) (by kernel_rfl) (fun _ _ _ h => h) (.inl ⟨by kernel_rfl, fun W hW => ?_⟩) (hSn _) ?_
          · go_simp; try (first | (exact IntWalk.i64_in _ (by omega)) | (intro hh; exfalso; omega))
          refine wpAnyH_take (i := 10) (v := .int .u8 y2.toNat) rfl (by kernel_rfl) (by kernel_rfl) (by kernel_rfl) (fun _ _ _ h => h) (.inl ⟨by kernel_rfl, fun W hW => ?_⟩) (hSn _) ?_
          · obtain ⟨e0, e1, e2, e3, e4⟩ := HC.out W hW; go_simp; try (first | (exact IntWalk.i64_in _ (by omega)) | (intro hh; exfalso; omega))
          refine wpAnyH_take (i := 11) (v := .int .i64 y2.toNat) rfl (by kernel_rfl) (by kernel_rfl) (by kernel_rfl) (fun _ _ _ h => h) (.inl ⟨by kernel_rfl, fun W hW => ?_⟩) (hSn _) ?_
          · go_simp; try (first | (exact IntWalk.i64_in _ (by omega)) | (intro hh; exfalso; omega))
          refine wpAnyH_take (i := 12) (v := .int .i64 (65536 * (y2.toNat : Int))) rfl (by kernel_rfl) (by kernel_rfl) (by kernel_rfl) (fun _ _ _ h => h) (.inl ⟨by kernel_rfl, fun W hW => ?_⟩) (hSn _) ?_
          · go_simp; try (first | (exact IntWalk.i64_in _ (by omega)) | (intro hh; exfalso; omega))
          refine wpAnyH_take (i := 13) (v := .slice (some ⟨b, off + N, none⟩) r cr) rfl (by kernel_rfl) (by kernel_rfl) (by kernel_rfl) (fun _ _ _ h => h) (.inl ⟨by kernel_rfl, fun W hW => ?_⟩) (hSn _) ?_
          · go_simp; try (first | (exact IntWalk.i64_in _ (by omega)) | (intro hh; exfalso; omega))
          refine wpAnyH_take (i := 14) (v := .pointer (some ⟨b, off + N + 3, none⟩)) rfl (by kernel_rfl) (by kernel_rfl) (by kernel_rfl) (fun _ _ _ h => h) (.inl ⟨by kernel_rfl, fun W hW => ?_⟩) (hSn _) ?_
          · go_simp; try (first | (exact IntWalk.i64_in _ (by omega)) | (intro hh; exfalso; omega))
          refine wpAnyH_take (i := 15) (v := .int .u8 y3.toNat) rfl (by kernel_rfl) (by kernel_rfl) (by kernel_rfl) (fun _ _ _ h => h) (.inl ⟨by kernel_rfl, fun W hW => ?_⟩) (hSn _) ?_
          · obtain ⟨e0, e1, e2, e3, e4⟩ := HC.out W hW; go_simp; try (first | (exact IntWalk.i64_in _ (by omega)) | (intro hh; exfalso; omega))
          refine wpAnyH_take (i := 16) (v := .int .i64 y3.toNat) rfl (by kernel_rfl) (by kernel_rfl) (by kernel_rfl) (fun _ _ _ h => h) (.inl ⟨by kernel_rfl, fun W hW => ?_⟩) (hSn _) ?_
          · go_simp; try (first | (exact IntWalk.i64_in _ (by omega)) | (intro hh; exfalso; omega))
          refine wpAnyH_take (i := 17) (v := .int .i64 (256 * (y3.toNat : Int))) rfl (by kernel_rfl) (by kernel_rfl) (by kernel_rfl) (fun _ _ _ h => h) (.inl ⟨by kernel_rfl, fun W hW => ?_⟩) (hSn _) ?_
          · go_simp; try (first | (exact IntWalk.i64_in _ (by omega)) | (intro hh; exfalso; omega))
          refine wpAnyH_take (i := 18) (v := .int .i64 (65536 * (y2.toNat : Int) + 256 * (y3.toNat : Int))) rfl (by kernel_rfl) (by kernel_rfl) (by kernel_rfl) (fun _ _ _ h => h) (.inl ⟨by kernel_rfl, fun W hW => ?_⟩) (hSn _) ?_
          · go_simp; try (first | (exact IntWalk.i64_in _ (by omega)) | (intro hh; exfalso; omega))
          refine wpAnyH_take (i := 19) (v := .slice (some ⟨b, off + N, none⟩) r cr) rfl (by kernel_rfl) (by kernel_rfl) (by kernel_rfl) (fun _ _ _ h => h) (.inl ⟨by kernel_rfl, fun W hW => ?_⟩) (hSn _) ?_
          · go_simp; try (first | (exact IntWalk.i64_in _ (by omega)) | (intro hh; exfalso; omega))
          refine wpAnyH_take (i := 20) (v := .pointer (some ⟨b, off + N + 4, none⟩)) rfl (by kernel_rfl) (by kernel_rfl) (by kernel_rfl) (fun _ _ _ h => h) (.inl ⟨by kernel_rfl, fun W hW => ?_⟩) (hSn _) ?_
          · go_simp; try (first | (exact IntWalk.i64_in _ (by omega)) | (intro hh; exfalso; omega))
          refine wpAnyH_take (i := 21) (v := .int .u8 y4.toNat) rfl (by kernel_rfl) (by kernel_rfl) (by kernel_rfl) (fun _ _ _ h => h) (.inl ⟨by kernel_rfl, fun W hW => ?_⟩) (hSn _) ?_
          · obtain ⟨e0, e1, e2, e3, e4⟩ := HC.out W hW; go_simp; try (first | (exact IntWalk.i64_in _ (by omega)) | (intro hh; exfalso; omega))
          refine wpAnyH_take (i := 22) (v := .int .i64 y4.toNat) rfl (by kernel_rfl) (by kernel_rfl) (by kernel_rfl) (fun _ _ _ h => h) (.inl ⟨by kernel_rfl, fun W hW => ?_⟩) (hSn _) ?_
          · go_simp; try (first | (exact IntWalk.i64_in _ (by omega)) | (intro hh; exfalso; omega))
          refine wpAnyH_take (i := 23) (v := .int .i64 (nm : Nat)) rfl (by kernel_rfl) (by kernel_rfl) (by kernel_rfl) (fun _ _ _ h => h) (.inl ⟨by kernel_rfl, fun W hW => ?_⟩) (hSn _) ?_
          · have hq := HQ1.out; go_simp; try exact IntWalk.i64_in _ (by omega)
          refine wpAnyH_take (i := 24) (v := .agg #[.int .i64 y0.toNat, .int .i64 y1.toNat, .int .i64 nm, .string ⟨#[]⟩]) rfl (by kernel_rfl) (by kernel_rfl) (by kernel_rfl) (fun _ _ _ h => h) (.inl ⟨by kernel_rfl, fun W hW => ?_⟩) (hSn _) ?_
          · go_simp
          refine wpAnyH_all (rs := [25]) (by kernel_rfl) (by simp) ?_
          intro z hz
          rw [List.mem_singleton.1 hz]
          clear hz
          unfold wpOp
          go_simp
          have HSA := Lib.hid (fun (q : Nat) (o : Obj) => (show Bytes ((wv.drewN q).alloc o) g (some ⟨b, off + N, none⟩) r R ∧ Below g w ((wv.drewN q).alloc o) from ⟨(HRs.out.drewN q).below ((Below.refl g _).alloc (by show g ≤ wv.heap.size; have := HBf.out.size; rw [HG.out] at this; exact Nat.le_trans this (Nat.le_refl _)) o), (below_drewN HBf.out q).alloc (by show g ≤ wv.heap.size; have := HBf.out.size; rw [HG.out] at this; exact this) o⟩))
          refine .inl ⟨HSA.out _ _, ?_⟩
          have HZ := Lib.hid (show Bx wv.heap.size ((wv.drewN (nq + 1)).alloc (.cells #[.int .i64 0, .int .i64 0, .int .i64 0, .string ⟨#[]⟩] 30)) #[.int .i64 0, .int .i64 0, .int .i64 0, .string ⟨#[]⟩] from Bx.new (wv.drewN (nq + 1)) _ rfl _ _)
          have HZb := HSA.out (nq + 1) (.cells #[.int .i64 0, .int .i64 0, .int .i64 0, .string ⟨#[]⟩] 30)
          have hfin := set4 (a := .int .i64 y0.toNat) (b := .int .i64 y1.toNat) (c := .int .i64 nm) (d := .string ⟨#[]⟩) HZ.out HZb.2 (show g ≤ wv.heap.size by have := HBf.out.size; rw [HG.out] at this; exact this)
          have hfb : Bytes _ g (some ⟨b, off + N, none⟩) r R := HZb.1.below ((((((Below.refl g _).setCell (p := ⟨wv.heap.size, 0, none⟩) (show g ≤ wv.heap.size by have := HBf.out.size; rw [HG.out] at this; exact this) (.int .i64 y0.toNat)).setCell (p := ⟨wv.heap.size, 1, none⟩) (show g ≤ wv.heap.size by have := HBf.out.size; rw [HG.out] at this; exact this) (.int .i64 y1.toNat)).setCell (p := ⟨wv.heap.size, 2, none⟩) (show g ≤ wv.heap.size by have := HBf.out.size; rw [HG.out] at this; exact this) (.int .i64 nm)).setCell (p := ⟨wv.heap.size, 3, none⟩) (show g ≤ wv.heap.size by have := HBf.out.size; rw [HG.out] at this; exact this) (.string ⟨#[]⟩)))
          have HF1 := Lib.hid hfin
          have HF2 := Lib.hid hfb
          clear hfin hfb HZb
          obtain ⟨z0, z1, z2, z3⟩ := HZ.out.ev
          have f0 := HZ.out.free 0
          have f1 := HZ.out.free 1
          have f2 := HZ.out.free 2
          have f3 := HZ.out.free 3
          refine wpAnyH_all (rs := [26]) (by kernel_rfl) (by simp) ?_
          intro z hz
          rw [List.mem_singleton.1 hz]
          clear hz
          unfold wpOp
          go_simp
          refine .inl ⟨⟨HF2.out, HF1.out.2⟩, ?_⟩
          refine wpAnyH_done (by kernel_rfl) ?_ _
          clear hSn z0 z1 z2 z3 f0 f1 f2 f3
          go_simp
          generalize World.setCell _ _ _ = wz at *
          obtain ⟨kk, hkk⟩ : ∃ kk, 256 * y5.toNat + y6.toNat = kk := ⟨_, rfl⟩
          rw [show 256 * (y5.toNat : Int) + (y6.toNat : Int) = ((kk : Nat) : Int) by omega]
          have hsk : 7 + kk ≤ r := by have h1 := HSz.out; rw [HSe.out, hkk] at h1; exact h1
          rw [hkk] at HEv
          have hkb : kk ≤ 66000 := by omega
          clear hkk w5 w6
          obtain ⟨ge, hge⟩ : ∃ ge, wv.heap.size = ge := ⟨_, rfl⟩
          have hgge : g ≤ ge := by have := HBf.out.size; rw [HG.out, hge] at this; exact this
          rw [hge] at HF1
          simp only [hge]
          clear hge HZ HSA
          obtain ⟨z0, z1, z2, z3⟩ := HF1.out.1.ev
          have f3 := HF1.out.1.free 3
          have d35 : decide ((r : Int) < 7 + (kk : Int)) = false := by simp; omega
          have d35n : decide (r < 7 + kk) = false := by simp; omega
          have d35c : decide ((r : Int) < 7) = false := by simp; omega
          have d35d : decide (r < 7) = false := by simp; omega
          obtain ⟨tt, htt⟩ : ∃ tt, (R.drop 7).take kk = tt := ⟨_, rfl⟩
          rw [htt] at HEv
          have HLw := Lib.hid (fun (W : World) => lright16_any (evOf R) W)
          rw [HRt.out, HEv.out] at HLw
          unfold evv at HLw
          simp only at HLw
          have HXs := Lib.hid (show Bx ge (wz.setCell ⟨ge, 3, none⟩ (.string (str tt))) #[.int .i64 y0.toNat, .int .i64 y1.toNat, .int .i64 nm, .string (str tt)] from HF1.out.1.set 3 _)
          have HBs := Lib.hid (HF1.out.2.setCell (p := ⟨ge, 3, none⟩) hgge (.string (str tt)))
          have hi1 : (7 + (kk : Int)).toNat - 7 = kk := by omega
          have hi2 : (7 + (kk : Int)) ≤ (cr : Int) := by omega
          have hi3 : (0 : Int) ≤ 7 + (kk : Int) := by omega
          by_cases hc7 : cr = 7
          · obtain rfl : kk = 0 := by omega
            obtain rfl : r = 7 := by omega
            subst hc7
            obtain rfl : tt = [] := by rw [← htt]; simp
            have hcv := conv_str (cap := 0) (Bytes.nil (w := wz) (B := g) (some ⟨b, off + N, none⟩))
            clear htt HF2 HC HRs HSz HSe hi1 hi2 hi3
            go_upto_region 38 with fail
            clear z0 z1 z2 z3 f3
            generalize wz.setCell _ _ = wy at *
            obtain ⟨z0, z1, z2, z3⟩ := HXs.out.ev
            go_wp2_with fail
            refine (HLw.out _).mono ?_
            rintro e wx ⟨rfl, hb⟩
            have HBx := Lib.hid (HBs.out.trans (hb.mono (by have := HXs.out.room; omega)))
            clear hb
            go_wp2
            go_ret
            exact ⟨rfl, by rw [HG.out]; exact HBx.out⟩
          · have hcv := conv_str (cap := cr - 7) (show Bytes wz g (some ⟨b, off + N + 7, none⟩) kk tt from by rw [← htt]; exact (HF2.out.cut2 (cap := cr) (j := 7) (by omega) hrc hc7).take (by omega))
            clear htt HF2 HC HRs HSz HSe
            go_upto_region 38 with fail
            clear z0 z1 z2 z3 f3
            generalize wz.setCell _ _ = wy at *
            obtain ⟨z0, z1, z2, z3⟩ := HXs.out.ev
            go_wp2_with fail
            refine (HLw.out _).mono ?_
            rintro e wx ⟨rfl, hb⟩
            have HBx := Lib.hid (HBs.out.trans (hb.mono (by have := HXs.out.room; omega)))
            clear hb
            go_wp2
            go_ret
            exact ⟨rfl, by rw [HG.out]; exact HBx.out⟩

set_option maxRecDepth 100000 in
theorem lifted (os : Os) (started : os.Started) (H : Type) (enc : TypeId × Value → H) :
    ReturnsInHanded {} Try.checked os 4 .any (Rows.scriptReadsSpec.pre6 enc Try.prog Try.f4 Rows.scriptReadsRow.domain false) (Rows.scriptReadsSpec.post enc Try.prog Try.f4 false true false false) := by
  refine returnsInHanded_of_change_sized (C := Try.checked) own started (by kernel_rfl) Try.func4
    (ChangeSpec.witness6 (enc := enc) (C := Try.checked) false ⟨#[], #[.slice none 0 0], []⟩ 8 (by kernel_rfl) (by kernel_rfl) (by kernel_rfl) (by kernel_rfl)) ?_
  intro W base args ds gs before hval0 hW hcnd hsz0 _
  have hval : ∀ (j : Nat) t v, Try.f4.params[j]? = some t → args[j]? = some v → Value.okWide Try.prog W .any base t v := hval0
  have hW' := hW
  obtain ⟨p, q, hA0, hV, rfl, hfz, hnd⟩ := hW
  have hsz : (DataW.weightsEach Try.prog (Try.f4.params.toList ++ Rows.scriptReadsSpec.plain.varTypes Try.prog) (ds ++ gs)).all (· ≤ reachBytes) = true := hsz0
  have hA : DataW.TrodAll enc Try.prog W 0 (fun _ => true) true Try.f4.params.toList args.toList ds p := hA0
  rw [Try.params4] at hA hval hsz
  obtain ⟨v0, vs0, d0, ds0, p0, q0, hargs, rfl, rfl, h0, r0⟩ := trodAll_cons hA
  obtain ⟨rfl, rfl, rfl⟩ := trodAll_nil r0
  obtain rfl : args = #[v0] := by cases args; simp_all
  obtain ⟨rfl, rfl⟩ := trodVars_none hV
  obtain ⟨a0, len0, cap0, rfl⟩ := okWide_slice Try.underlying32 (hval 0 32 v0 rfl rfl)
  have k0 := h0
  have lt0 : ∀ x ∈ p0, x.block < W.heap.size := by obtain ⟨m, hm⟩ := k0; exact DataW.trod_lt m _ _ _ hm
  obtain ⟨z0, w0⟩ : ∃ zs, IsRow .u8 W a0 len0 cap0 zs := by
    obtain ⟨fuel, hf⟩ := h0
    exact open_brow hf
  clear hA0 hval0 hsz hsz0
  refine (walk a0 len0 cap0 z0 W w0).mono fun e W' ⟨he, bel⟩ => ?_
  subst he
  exact ⟨_, rfl, _, _, _, [], _, [], hW', trodAll_mk1 (shut_bool Try.underlying4 _), (trodAll_cons_mk (Below.trod laidOut (by kernel_rfl) (of_decide_eq_true (by kernel_rfl)) k0 bel lt0) trodAll_mk0), rfl, bel.frame _, fun h => by cases h⟩

theorem over : Rows.scriptReadsRow.holds Try.pinned (OpenSpec.ofChange Rows.scriptReadsSpec) :=
  OpenClaim.holds_of_wide 4 Try.f4 rfl rfl rfl rfl rfl rfl rfl ⟨rfl, rfl, rfl, rfl, rfl⟩ rfl rfl rfl rfl rfl (by kernel_rfl) Try.func4 (by kernel_rfl)
    (of_decide_eq_true (by kernel_rfl)) (by unfold Func.isWrapper; first | (rw [if_pos (by decide +kernel)]; kernel_rfl) | (rw [if_neg (by decide +kernel)]; exact ⟨rfl, rfl⟩))
    (fun os started H enc _ => lifted os started H enc)

end Go.Proofs.Ytflfchcncmpnbaa.scriptReads
namespace Go.Proofs.Ytflfchcncmpnbaa
theorem scriptReads_holds : Rows.ScriptReadsSaid := scriptReads.over
#print axioms scriptReads_holds
end Go.Proofs.Ytflfchcncmpnbaa
