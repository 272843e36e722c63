/- What script's own Right answers. -/
import Derived.Test.YtflfchcncmpnbaaScw
namespace Go.Proofs.Ytflfchcncmpnbaa
open Go.RowKit
open Sc

theorem rtE_own {e : Ev} (h : inB e = true) : rtE e = (decide (e.i = (ownE e).i) && (decide (e.n = (ownE e).n) && decide (e.t = (ownE e).t))) := by
  unfold rtE ownB ownE
  rw [h]
  cases hasI e.k <;> cases hasN e.k <;> cases hasD e.k <;> simp

theorem rtE_no {e : Ev} (h : inB e = false) : rtE e = false := by
  unfold rtE
  rw [h]
  rfl

set_option maxHeartbeats 2000000 in
theorem right16_any (e : Ev) (w : World) :
    Calls Try.prog 10 #[evv e] w fun r w' => r = .returned (.bool (rtE e)) ∧ Below w.heap.size w w' := by
  have HN := Lib.hid (fun (h : inB e = false) => rtE_no h)
  have HY := Lib.hid (fun (h : inB e = true) => rtE_own h)
  have HI := Lib.hid (show inB e = (decide (0 ≤ e.k) && (decide (e.k ≤ 7) && (decide (0 ≤ e.i) && (decide (e.i ≤ 255) && (decide (0 ≤ e.n) && (decide (e.n ≤ 65536) && decide (e.t.length ≤ 4000))))))) from rfl)
  have HO := Lib.hid (fun (a : 0 ≤ e.k) (b : e.k ≤ 7) => own_any e a b)
  have HS := Lib.hid (str_size e.t)
  unfold evv at HO ⊢
  generalize hq : ownE e = q at *
  have hk : q.k = e.k := by rw [← hq]; rfl
  generalize rtE e = R at *
  generalize inB e = I at *
  clear hq
  obtain ⟨k, i, n, t⟩ := e
  obtain ⟨k2, i2, n2, t2⟩ := q
  simp only at hk HI HO HS HY ⊢
  subst hk
  have HX := Lib.hid (Bx.new w w.heap.size rfl #[.int .i64 k2, .int .i64 i, .int .i64 n, .string (str t)] 30)
  have HB := Lib.hid ((Below.refl w.heap.size w).alloc (Nat.le_refl _) (.cells #[.int .i64 k2, .int .i64 i, .int .i64 n, .string (str t)] 30))
  go_enter Try.func10, Try.ntmps10
  go_upto_region 1 with fail
  generalize w.alloc _ = w1 at *
  have c0 := HX.out.cell 0 _ rfl
  have c1 := HX.out.cell 1 _ rfl
  have c2 := HX.out.cell 2 _ rfl
  have c3 := HX.out.cell 3 _ rfl
  simp at c0 c1 c2 c3
  have hgw := HX.out.room
  by_cases h0 : 0 ≤ k2
  case neg =>
    have d0 : decide (0 ≤ k2) = false := by simpa using h0
    have hf := HN.out (by rw [HI.out]; simp; omega)
    subst hf
    clear h0
    go_quiet (fail)
    go_wp2
    go_ret
    exact ⟨rfl, below_drewN HB.out _⟩
  have d0 : decide (0 ≤ k2) = true := by simpa using h0
  by_cases h1 : k2 ≤ 7
  case neg =>
    have d1 : decide (k2 ≤ 7) = false := by simpa using h1
    have hf := HN.out (by rw [HI.out]; simp; omega)
    subst hf
    clear h1
    go_quiet (fail)
    go_wp2
    go_ret
    exact ⟨rfl, below_drewN HB.out _⟩
  have d1 : decide (k2 ≤ 7) = true := by simpa using h1
  by_cases h2 : 0 ≤ i
  case neg =>
    have d2 : decide (0 ≤ i) = false := by simpa using h2
    have hf := HN.out (by rw [HI.out]; simp; omega)
    subst hf
    clear h2
    go_quiet (fail)
    go_wp2
    go_ret
    exact ⟨rfl, below_drewN HB.out _⟩
  have d2 : decide (0 ≤ i) = true := by simpa using h2
  by_cases h3 : i ≤ 255
  case neg =>
    have d3 : decide (i ≤ 255) = false := by simpa using h3
    have hf := HN.out (by rw [HI.out]; simp; omega)
    subst hf
    clear h3
    go_quiet (fail)
    go_wp2
    go_ret
    exact ⟨rfl, below_drewN HB.out _⟩
  have d3 : decide (i ≤ 255) = true := by simpa using h3
  by_cases h4 : 0 ≤ n
  case neg =>
    have d4 : decide (0 ≤ n) = false := by simpa using h4
    have hf := HN.out (by rw [HI.out]; simp; omega)
    subst hf
    clear h4
    go_quiet (fail)
    go_wp2
    go_ret
    exact ⟨rfl, below_drewN HB.out _⟩
  have d4 : decide (0 ≤ n) = true := by simpa using h4
  by_cases h5 : n ≤ 65536
  case neg =>
    have d5 : decide (n ≤ 65536) = false := by simpa using h5
    have hf := HN.out (by rw [HI.out]; simp; omega)
    subst hf
    clear h5
    go_quiet (fail)
    go_wp2
    go_ret
    exact ⟨rfl, below_drewN HB.out _⟩
  have d5 : decide (n ≤ 65536) = true := by simpa using h5
  by_cases h6 : ((str t).size : Int) ≤ 4000
  case neg =>
    have d6 : decide (((str t).size : Int) ≤ 4000) = false := by simpa using h6
    have hf := HN.out (by rw [HI.out, ← HS.out]; simp; omega)
    subst hf
    clear h6
    go_quiet (fail)
    go_wp2
    go_ret
    exact ⟨rfl, below_drewN HB.out _⟩
  have d6 : decide (((str t).size : Int) ≤ 4000) = true := by simpa using h6
  have hy := HY.out (by rw [HI.out, ← HS.out]; simp; omega)
  have HO1 := Lib.hid (HO.out h0 h1)
  clear HN HY HI HO h0 h1 h2 h3 h4 h5 h6 c0 c1 c2 c3
  have HR := Lib.hid hy
  clear hy
  obtain ⟨g, hg⟩ : ∃ g, w.heap.size = g := ⟨_, rfl⟩
  rw [hg] at HX HB hgw
  simp only [hg]
  have HG := Lib.hid hg
  clear hg
  have hmix : Try.prog.follows .mixedOrders = true := by kernel_rfl
  have HC := Lib.hid (fun (W : World) (h : Bx g W #[.int .i64 k2, .int .i64 i, .int .i64 n, .string (str t)]) => h.ev)
  refine wp_region_held (S := fun W => Bx g W #[.int .i64 k2, .int .i64 i, .int .i64 n, .string (str t)]) hmix ?_
  change wpAnyH _ _ _ _ _ _ _ _ (World.drew _)
  have hS0 : Bx g w1.drew #[.int .i64 k2, .int .i64 i, .int .i64 n, .string (str t)] := ⟨HX.out.head⟩
  refine wpAnyH_take (i := 0) (v := .pointer (some ⟨g, 0, none⟩)) rfl (by kernel_rfl) (by kernel_rfl) (by kernel_rfl) (fun _ _ _ h => h) (.inl ⟨by kernel_rfl, fun W hW => ?_⟩) hS0 ?_
  · go_simp
  refine wpAnyH_take (i := 1) (v := .int .i64 k2) rfl (by kernel_rfl) (by kernel_rfl) (by kernel_rfl) (fun _ _ _ h => h) (.inl ⟨by kernel_rfl, fun W hW => ?_⟩) hS0 ?_
  · obtain ⟨e0, e1, e2, e3⟩ := HC.out W hW; go_simp
  refine wpAnyH_take (i := 2) (v := .bool true) rfl (by kernel_rfl) (by kernel_rfl) (by kernel_rfl) (fun _ _ _ h => h) (.inl ⟨by kernel_rfl, fun W hW => ?_⟩) hS0 ?_
  · go_simp
  refine wpAnyH_take (i := 3) (v := .bool true) rfl (by kernel_rfl) (by kernel_rfl) (by kernel_rfl) (fun _ _ _ h => h) (.inl ⟨by kernel_rfl, fun W hW => ?_⟩) hS0 ?_
  · go_simp
  refine wpAnyH_take (i := 4) (v := .pointer (some ⟨g, 0, none⟩)) rfl (by kernel_rfl) (by kernel_rfl) (by kernel_rfl) (fun _ _ _ h => h) (.inl ⟨by kernel_rfl, fun W hW => ?_⟩) hS0 ?_
  · go_simp
  refine wpAnyH_take (i := 5) (v := .int .i64 k2) rfl (by kernel_rfl) (by kernel_rfl) (by kernel_rfl) (fun _ _ _ h => h) (.inl ⟨by kernel_rfl, fun W hW => ?_⟩) hS0 ?_
  · obtain ⟨e0, e1, e2, e3⟩ := HC.out W hW; go_simp
  refine wpAnyH_take (i := 6) (v := .bool true) rfl (by kernel_rfl) (by kernel_rfl) (by kernel_rfl) (fun _ _ _ h => h) (.inl ⟨by kernel_rfl, fun W hW => ?_⟩) hS0 ?_
  · go_simp
  refine wpAnyH_take (i := 7) (v := .bool true) rfl (by kernel_rfl) (by kernel_rfl) (by kernel_rfl) (fun _ _ _ h => h) (.inl ⟨by kernel_rfl, fun W hW => ?_⟩) hS0 ?_
  · go_simp
  refine wpAnyH_take (i := 8) (v := .bool true) rfl (by kernel_rfl) (by kernel_rfl) (by kernel_rfl) (fun _ _ _ h => h) (.inl ⟨by kernel_rfl, fun W hW => ?_⟩) hS0 ?_
  · go_simp
  refine wpAnyH_take (i := 9) (v := .pointer (some ⟨g, 1, none⟩)) rfl (by kernel_rfl) (by kernel_rfl) (by kernel_rfl) (fun _ _ _ h => h) (.inl ⟨by kernel_rfl, fun W hW => ?_⟩) hS0 ?_
  · go_simp
  refine wpAnyH_take (i := 10) (v := .int .i64 i) rfl (by kernel_rfl) (by kernel_rfl) (by kernel_rfl) (fun _ _ _ h => h) (.inl ⟨by kernel_rfl, fun W hW => ?_⟩) hS0 ?_
  · obtain ⟨e0, e1, e2, e3⟩ := HC.out W hW; go_simp
  refine wpAnyH_take (i := 11) (v := .bool true) rfl (by kernel_rfl) (by kernel_rfl) (by kernel_rfl) (fun _ _ _ h => h) (.inl ⟨by kernel_rfl, fun W hW => ?_⟩) hS0 ?_
  · go_simp
  refine wpAnyH_take (i := 12) (v := .bool true) rfl (by kernel_rfl) (by kernel_rfl) (by kernel_rfl) (fun _ _ _ h => h) (.inl ⟨by kernel_rfl, fun W hW => ?_⟩) hS0 ?_
  · go_simp
  refine wpAnyH_take (i := 13) (v := .bool true) rfl (by kernel_rfl) (by kernel_rfl) (by kernel_rfl) (fun _ _ _ h => h) (.inl ⟨by kernel_rfl, fun W hW => ?_⟩) hS0 ?_
  · go_simp
  refine wpAnyH_take (i := 14) (v := .pointer (some ⟨g, 1, none⟩)) rfl (by kernel_rfl) (by kernel_rfl) (by kernel_rfl) (fun _ _ _ h => h) (.inl ⟨by kernel_rfl, fun W hW => ?_⟩) hS0 ?_
  · go_simp
  refine wpAnyH_take (i := 15) (v := .int .i64 i) rfl (by kernel_rfl) (by kernel_rfl) (by kernel_rfl) (fun _ _ _ h => h) (.inl ⟨by kernel_rfl, fun W hW => ?_⟩) hS0 ?_
  · obtain ⟨e0, e1, e2, e3⟩ := HC.out W hW; go_simp
  refine wpAnyH_take (i := 16) (v := .bool true) rfl (by kernel_rfl) (by kernel_rfl) (by kernel_rfl) (fun _ _ _ h => h) (.inl ⟨by kernel_rfl, fun W hW => ?_⟩) hS0 ?_
  · go_simp
  refine wpAnyH_take (i := 17) (v := .bool true) rfl (by kernel_rfl) (by kernel_rfl) (by kernel_rfl) (fun _ _ _ h => h) (.inl ⟨by kernel_rfl, fun W hW => ?_⟩) hS0 ?_
  · go_simp
  refine wpAnyH_take (i := 18) (v := .bool true) rfl (by kernel_rfl) (by kernel_rfl) (by kernel_rfl) (fun _ _ _ h => h) (.inl ⟨by kernel_rfl, fun W hW => ?_⟩) hS0 ?_
  · go_simp
  refine wpAnyH_take (i := 19) (v := .pointer (some ⟨g, 2, none⟩)) rfl (by kernel_rfl) (by kernel_rfl) (by kernel_rfl) (fun _ _ _ h => h) (.inl ⟨by kernel_rfl, fun W hW => ?_⟩) hS0 ?_
  · go_simp
  refine wpAnyH_take (i := 20) (v := .int .i64 n) rfl (by kernel_rfl) (by kernel_rfl) (by kernel_rfl) (fun _ _ _ h => h) (.inl ⟨by kernel_rfl, fun W hW => ?_⟩) hS0 ?_
  · obtain ⟨e0, e1, e2, e3⟩ := HC.out W hW; go_simp
  refine wpAnyH_take (i := 21) (v := .bool true) rfl (by kernel_rfl) (by kernel_rfl) (by kernel_rfl) (fun _ _ _ h => h) (.inl ⟨by kernel_rfl, fun W hW => ?_⟩) hS0 ?_
  · go_simp
  refine wpAnyH_take (i := 22) (v := .bool true) rfl (by kernel_rfl) (by kernel_rfl) (by kernel_rfl) (fun _ _ _ h => h) (.inl ⟨by kernel_rfl, fun W hW => ?_⟩) hS0 ?_
  · go_simp
  refine wpAnyH_take (i := 23) (v := .bool true) rfl (by kernel_rfl) (by kernel_rfl) (by kernel_rfl) (fun _ _ _ h => h) (.inl ⟨by kernel_rfl, fun W hW => ?_⟩) hS0 ?_
  · go_simp
  refine wpAnyH_take (i := 24) (v := .pointer (some ⟨g, 2, none⟩)) rfl (by kernel_rfl) (by kernel_rfl) (by kernel_rfl) (fun _ _ _ h => h) (.inl ⟨by kernel_rfl, fun W hW => ?_⟩) hS0 ?_
  · go_simp
  refine wpAnyH_take (i := 25) (v := .int .i64 n) rfl (by kernel_rfl) (by kernel_rfl) (by kernel_rfl) (fun _ _ _ h => h) (.inl ⟨by kernel_rfl, fun W hW => ?_⟩) hS0 ?_
  · obtain ⟨e0, e1, e2, e3⟩ := HC.out W hW; go_simp
  refine wpAnyH_take (i := 26) (v := .bool true) rfl (by kernel_rfl) (by kernel_rfl) (by kernel_rfl) (fun _ _ _ h => h) (.inl ⟨by kernel_rfl, fun W hW => ?_⟩) hS0 ?_
  · go_simp
  refine wpAnyH_take (i := 27) (v := .bool true) rfl (by kernel_rfl) (by kernel_rfl) (by kernel_rfl) (fun _ _ _ h => h) (.inl ⟨by kernel_rfl, fun W hW => ?_⟩) hS0 ?_
  · go_simp
  refine wpAnyH_take (i := 28) (v := .bool true) rfl (by kernel_rfl) (by kernel_rfl) (by kernel_rfl) (fun _ _ _ h => h) (.inl ⟨by kernel_rfl, fun W hW => ?_⟩) hS0 ?_
  · go_simp
  refine wpAnyH_take (i := 29) (v := .pointer (some ⟨g, 3, none⟩)) rfl (by kernel_rfl) (by kernel_rfl) (by kernel_rfl) (fun _ _ _ h => h) (.inl ⟨by kernel_rfl, fun W hW => ?_⟩) hS0 ?_
  · go_simp
  refine wpAnyH_take (i := 30) (v := .string (str t)) rfl (by kernel_rfl) (by kernel_rfl) (by kernel_rfl) (fun _ _ _ h => h) (.inl ⟨by kernel_rfl, fun W hW => ?_⟩) hS0 ?_
  · obtain ⟨e0, e1, e2, e3⟩ := HC.out W hW; go_simp
  refine wpAnyH_take (i := 31) (v := .int .i64 (str t).size) rfl (by kernel_rfl) (by kernel_rfl) (by kernel_rfl) (fun _ _ _ h => h) (.inl ⟨by kernel_rfl, fun W hW => ?_⟩) hS0 ?_
  · go_simp
  refine wpAnyH_take (i := 32) (v := .bool true) rfl (by kernel_rfl) (by kernel_rfl) (by kernel_rfl) (fun _ _ _ h => h) (.inl ⟨by kernel_rfl, fun W hW => ?_⟩) hS0 ?_
  · go_simp
  refine wpAnyH_take (i := 33) (v := .bool true) rfl (by kernel_rfl) (by kernel_rfl) (by kernel_rfl) (fun _ _ _ h => h) (.inl ⟨by kernel_rfl, fun W hW => ?_⟩) hS0 ?_
  · go_simp
  refine wpAnyH_take (i := 34) (v := .bool true) rfl (by kernel_rfl) (by kernel_rfl) (by kernel_rfl) (fun _ _ _ h => h) (.inl ⟨by kernel_rfl, fun W hW => ?_⟩) hS0 ?_
  · go_simp
  refine wpAnyH_take (i := 35) (v := .agg #[.int .i64 k2, .int .i64 i, .int .i64 n, .string (str t)]) rfl (by kernel_rfl) (by kernel_rfl) (by kernel_rfl) (fun _ _ _ h => h) (.inl ⟨by kernel_rfl, fun W hW => ?_⟩) hS0 ?_
  · obtain ⟨e0, e1, e2, e3⟩ := HC.out W hW; go_simp
  refine wpAnyH_take (i := 36) (v := .agg #[.int .i64 k2, .int .i64 i, .int .i64 n, .string (str t)]) rfl (by kernel_rfl) (by kernel_rfl) (by kernel_rfl) (fun _ _ _ h => h) (.inl ⟨by kernel_rfl, fun W hW => ?_⟩) hS0 ?_
  · obtain ⟨e0, e1, e2, e3⟩ := HC.out W hW; go_simp
  refine wpAnyH_all (rs := [37]) (by kernel_rfl) (by simp) ?_
  intro z hz
  rw [List.mem_singleton.1 hz]
  clear hz
  unfold wpOp
  go_simp
  refine .inl ((HO1.out _).mono ?_)
  rintro e wa ⟨rfl, hba⟩
  have hba : Below w1.heap.size w1.drew wa := hba
  have HBa := Lib.hid (below_back hba)
  have HXa := Lib.hid (HX.out.go HBa.out hgw)
  clear hba hS0
  go_simp
  have hS0 := HXa.out
  refine ⟨hS0, ?_⟩
  have HE := Lib.hid (Below.trans HB.out (HBa.out.mono (by omega)))
  rcases (show (i ≠ i2) ∨ (i = i2 ∧ n ≠ n2) ∨ (i = i2 ∧ n = n2 ∧ t ≠ t2) ∨ (i = i2 ∧ n = n2 ∧ t = t2) by
    by_cases a : i = i2 <;> by_cases b : n = n2 <;> by_cases c : t = t2 <;> simp [a, b, c]) with hc | ⟨rfl, hc⟩ | ⟨rfl, rfl, hc⟩ | ⟨rfl, rfl, rfl⟩
  · have he : (i == i2) = false := by simpa using hc
    have hv : R = false := by rw [HR.out]; simp [hc]
    clear hc HR
    subst hv
    refine wpAnyH_take (i := 38) (v := .bool false) rfl (by kernel_rfl) (by kernel_rfl) (by kernel_rfl) (fun _ _ _ h => h) (.inl ⟨by kernel_rfl, fun W hW => ?_⟩) hS0 ?_
    · go_simp
    refine wpAnyH_take (i := 39) (v := .bool false) rfl (by kernel_rfl) (by kernel_rfl) (by kernel_rfl) (fun _ _ _ h => h) (.inl ⟨by kernel_rfl, fun W hW => ?_⟩) hS0 ?_
    · go_simp
    refine wpAnyH_take (i := 40) (v := .bool false) rfl (by kernel_rfl) (by kernel_rfl) (by kernel_rfl) (fun _ _ _ h => h) (.inl ⟨by kernel_rfl, fun W hW => ?_⟩) hS0 ?_
    · go_simp
    refine wpAnyH_done (by kernel_rfl) ?_ _
    go_wp2
    go_ret
    exact ⟨rfl, by rw [HG.out]; exact HE.out⟩
  · have he : (n == n2) = false := by simpa using hc
    have hv : R = false := by rw [HR.out]; simp [hc]
    clear hc HR
    subst hv
    refine wpAnyH_take (i := 38) (v := .bool false) rfl (by kernel_rfl) (by kernel_rfl) (by kernel_rfl) (fun _ _ _ h => h) (.inl ⟨by kernel_rfl, fun W hW => ?_⟩) hS0 ?_
    · go_simp
    refine wpAnyH_take (i := 39) (v := .bool false) rfl (by kernel_rfl) (by kernel_rfl) (by kernel_rfl) (fun _ _ _ h => h) (.inl ⟨by kernel_rfl, fun W hW => ?_⟩) hS0 ?_
    · go_simp
    refine wpAnyH_take (i := 40) (v := .bool false) rfl (by kernel_rfl) (by kernel_rfl) (by kernel_rfl) (fun _ _ _ h => h) (.inl ⟨by kernel_rfl, fun W hW => ?_⟩) hS0 ?_
    · go_simp
    refine wpAnyH_done (by kernel_rfl) ?_ _
    go_wp2
    go_ret
    exact ⟨rfl, by rw [HG.out]; exact HE.out⟩
  · have he : ((str t).toList == (str t2).toList) = false := str_ne hc
    have hv : R = false := by rw [HR.out]; simp [hc]
    clear hc HR
    subst hv
    refine wpAnyH_take (i := 38) (v := .bool false) rfl (by kernel_rfl) (by kernel_rfl) (by kernel_rfl) (fun _ _ _ h => h) (.inl ⟨by kernel_rfl, fun W hW => ?_⟩) hS0 ?_
    · go_simp
    refine wpAnyH_take (i := 39) (v := .bool false) rfl (by kernel_rfl) (by kernel_rfl) (by kernel_rfl) (fun _ _ _ h => h) (.inl ⟨by kernel_rfl, fun W hW => ?_⟩) hS0 ?_
    · go_simp
    refine wpAnyH_take (i := 40) (v := .bool false) rfl (by kernel_rfl) (by kernel_rfl) (by kernel_rfl) (fun _ _ _ h => h) (.inl ⟨by kernel_rfl, fun W hW => ?_⟩) hS0 ?_
    · go_simp
    refine wpAnyH_done (by kernel_rfl) ?_ _
    go_wp2
    go_ret
    exact ⟨rfl, by rw [HG.out]; exact HE.out⟩
  · have hv : R = true := by rw [HR.out]; simp
    clear HR
    subst hv
    refine wpAnyH_take (i := 38) (v := .bool true) rfl (by kernel_rfl) (by kernel_rfl) (by kernel_rfl) (fun _ _ _ h => h) (.inl ⟨by kernel_rfl, fun W hW => ?_⟩) hS0 ?_
    · go_simp
    refine wpAnyH_take (i := 39) (v := .bool true) rfl (by kernel_rfl) (by kernel_rfl) (by kernel_rfl) (fun _ _ _ h => h) (.inl ⟨by kernel_rfl, fun W hW => ?_⟩) hS0 ?_
    · go_simp
    refine wpAnyH_take (i := 40) (v := .bool true) rfl (by kernel_rfl) (by kernel_rfl) (by kernel_rfl) (fun _ _ _ h => h) (.inl ⟨by kernel_rfl, fun W hW => ?_⟩) hS0 ?_
    · go_simp
    refine wpAnyH_done (by kernel_rfl) ?_ _
    go_wp2
    go_ret
    exact ⟨rfl, by rw [HG.out]; exact HE.out⟩

end Go.Proofs.Ytflfchcncmpnbaa
