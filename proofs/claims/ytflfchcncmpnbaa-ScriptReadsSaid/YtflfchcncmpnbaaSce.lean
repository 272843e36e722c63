/- What script's Encode answers. -/
import Derived.Test.YtflfchcncmpnbaaScg
namespace Go.Proofs.Ytflfchcncmpnbaa
open Go.RowKit
open Sc

theorem rt_bounds {a b c d e f g h : Int} (k : rt a b c d e f g h = true) : (1 ≤ a ∧ a ≤ 65536) ∧ (1 ≤ b ∧ b ≤ 2042) ∧ (220 ≤ c ∧ c ≤ 65536) ∧ (1 ≤ d ∧ d ≤ 65536) ∧ (0 ≤ e ∧ e ≤ 9) ∧ (1 ≤ f ∧ f ≤ 1000) ∧ (0 ≤ g ∧ g ≤ 1000) ∧ (1 ≤ h ∧ h ≤ 500) := by
  simpa [rt, bw, and_assoc] using k

/-- a conf's bytes -/
def cbs (a b c d e f g h : Int) : Bs := cfb [a.toNat, b.toNat, c.toNat, d.toNat, e.toNat, f.toNat, g.toNat, h.toNat]

theorem evs_le {L : List Ev} (h : ∀ e ∈ L, rtE e = true) : (evs L).length ≤ 4007 * L.length := by
  induction L with
  | nil => simp [evs]
  | cons x L ih =>
    have h1 := ih (fun e he => h e (by simp [he]))
    have h2 := rtE_in (h x (by simp))
    rw [evs_cons]
    simp [evb_len]
    omega

theorem evs_snoc (L : List Ev) (k : Nat) (e : Ev) (h : L[k]? = some e) : evs (L.take (k + 1)) = evs (L.take k) ++ evb e := by
  rw [List.take_add_one, h, evs_app]
  simp [evs]

theorem all_snoc {L : List Ev} {k : Nat} {e : Ev} (h : L[k]? = some e) (hk : ∀ x ∈ L.take k, rtE x = true) (he : rtE e = true) : ∀ x ∈ L.take (k + 1), rtE x = true := by
  intro x hx
  rw [List.take_add_one, h] at hx
  rcases List.mem_append.1 hx with h' | h'
  · exact hk x h'
  · simp at h'
    subst h'
    exact he

/-- what Encode tells -/
def EGives (a b c d e f g h : Int) (L : List Ev) (w : World) (r : Ending) (w' : World) : Prop :=
  Below w.heap.size w w' ∧ ((8192 < L.length ∧ r = .returned (.tuple #[.slice none 0 0, .int .i64 6])) ∨
    (L.length ≤ 8192 ∧ (rt a b c d e f g h = false ∨ ∃ x ∈ L, rtE x = false) ∧ r = .returned (.tuple #[.slice none 0 0, .int .i64 1])) ∨
    (L.length ≤ 8192 ∧ rt a b c d e f g h = true ∧ (∀ x ∈ L, rtE x = true) ∧ ∃ A cp, r = .returned (.tuple #[.slice A (24 + (evs L).length) cp, .int .i64 0]) ∧ Own w.heap.size w' A (24 + (evs L).length) cp (cbs a b c d e f g h ++ evs L)))

theorem e_many {a b c d e f g h : Int} {L : List Ev} {w w' : World} (hn : 8192 < L.length) (hb : Below w.heap.size w w') : EGives a b c d e f g h L w (.returned (.tuple #[.slice none 0 0, .int .i64 6])) w' := ⟨hb, .inl ⟨hn, rfl⟩⟩
theorem e_conf {a b c d e f g h : Int} {L : List Ev} {w w' : World} (hn : L.length ≤ 8192) (hr : rt a b c d e f g h = false) (hb : Below w.heap.size w w') : EGives a b c d e f g h L w (.returned (.tuple #[.slice none 0 0, .int .i64 1])) w' := ⟨hb, .inr (.inl ⟨hn, .inl hr, rfl⟩)⟩
theorem e_ev {a b c d e f g h : Int} {L : List Ev} {w w' : World} (hn : L.length ≤ 8192) {k : Nat} {x : Ev} (hk : L[k]? = some x) (hr : rtE x = false) (hb : Below w.heap.size w w') : EGives a b c d e f g h L w (.returned (.tuple #[.slice none 0 0, .int .i64 1])) w' :=
  ⟨hb, .inr (.inl ⟨hn, .inr ⟨x, List.mem_of_getElem? hk, hr⟩, rfl⟩)⟩
theorem e_ok {a b c d e f g h : Int} {L : List Ev} {w w' : World} (hn : L.length ≤ 8192) (hr : rt a b c d e f g h = true) (ha : ∀ x ∈ L, rtE x = true) {A : Option Addr} {cp : Nat} (ho : Own w.heap.size w' A (24 + (evs L).length) cp (cbs a b c d e f g h ++ evs L)) (hb : Below w.heap.size w w') :
    EGives a b c d e f g h L w (.returned (.tuple #[.slice A (24 + (evs L).length) cp, .int .i64 0])) w' := ⟨hb, .inr (.inr ⟨hn, hr, ha, A, cp, rfl, ho⟩)⟩

theorem own_nil (base : Nat) (w : World) : Own base w none 0 0 [] := ⟨⟨rfl, .inl ⟨rfl, rfl⟩⟩, Nat.le_refl _⟩

set_option maxHeartbeats 2000000 in
theorem encode_any (a b c d e f g h : Int) (A : Option Addr) (n cap : Nat) (L : List Ev) (w : World) (hl : EvIn w w.heap.size A L) (hn : L.length = n) (hm : n ≤ 140737488355328) :
    Calls Try.prog 12 #[.agg (cv a b c d e f g h), .slice A n cap] w (EGives a b c d e f g h L w) := by
  have HL := Lib.hid hl
  have HN := Lib.hid hn
  have HRt := Lib.hid (right_any a b c d e f g h)
  have HX := Lib.hid (Bx.new w w.heap.size rfl (cv a b c d e f g h) 23)
  have HB := Lib.hid ((Below.refl w.heap.size w).alloc (Nat.le_refl _) (.cells (cv a b c d e f g h) 23))
  unfold cv at HX HB HRt ⊢
  clear hl hn
  by_cases h8 : 8192 < n
  · have hd : decide ((n : Int) > 8192) = true := by simp; omega
    go_enter Try.func12, Try.ntmps12
    go_wp2
    go_ret2
    exact e_many (by rw [HN.out]; exact h8) HB.out
  have hd : decide ((n : Int) > 8192) = false := by simp; omega
  go_enter Try.func12, Try.ntmps12
  go_upto_region 3 with fail
  generalize w.alloc _ = w1 at *
  obtain ⟨g0, hg⟩ : ∃ g0, w.heap.size = g0 := ⟨_, rfl⟩
  rw [hg] at HL HB HX
  simp only [hg]
  have HG := Lib.hid hg
  clear hg
  have HZ := Lib.hid (fun (i : Nat) (v : Value) (hv : (#[.int .i64 a, .int .i64 b, .int .i64 c, .int .i64 d, .int .i64 e, .int .i64 f, .int .i64 g, .int .i64 h] : Array Value)[i]? = some v) => HX.out.cell i v hv)
  have k0 := HX.out.cell 0 _ rfl
  have k1 := HX.out.cell 1 _ rfl
  have k2 := HX.out.cell 2 _ rfl
  have k3 := HX.out.cell 3 _ rfl
  have k4 := HX.out.cell 4 _ rfl
  have k5 := HX.out.cell 5 _ rfl
  have k6 := HX.out.cell 6 _ rfl
  have k7 := HX.out.cell 7 _ rfl
  simp at k0 k1 k2 k3 k4 k5 k6 k7
  obtain ⟨R, hR⟩ : ∃ R, rt a b c d e f g h = R := ⟨_, rfl⟩
  rw [hR] at HRt
  have HR := Lib.hid hR
  clear hR
  go_wp2_with fail
  refine (HRt.out _).mono ?_
  rintro x w2 ⟨rfl, hb2⟩
  have HX2 := Lib.hid (HX.out.go hb2 HX.out.room)
  have HB2 := Lib.hid (HB.out.trans (hb2.mono (by have := HX.out.room; omega)))
  clear hb2 HX HB HRt HZ k0 k1 k2 k3 k4 k5 k6 k7
  cases R
  · go_wp2
    go_ret2
    exact e_conf (by rw [HN.out]; omega) HR.out (by rw [HG.out]; exact HB2.out)
  obtain ⟨⟨a0, a1⟩, ⟨b0, b1⟩, ⟨c0, c1⟩, ⟨d0, d1⟩, ⟨e0, e1⟩, ⟨f0, f1⟩, ⟨g0', g1⟩, ⟨h0, h1⟩⟩ := rt_bounds HR.out
  go_wp2_with fail
  refine (parts_any g0 w2).mono ?_
  rintro x w3 ⟨rfl, hb3⟩
  have HX3 := Lib.hid (HX2.out.go hb3 HX2.out.room)
  have HB3 := Lib.hid (HB2.out.trans (hb3.mono (by have := HX2.out.room; omega)))
  clear hb3 HX2 HB2
  unfold ptrs
  go_wp2_with fail
  obtain ⟨ai, rfl⟩ := Int.eq_ofNat_of_zero_le (show 0 ≤ a by omega)
  obtain ⟨bi, rfl⟩ := Int.eq_ofNat_of_zero_le (show 0 ≤ b by omega)
  obtain ⟨ci, rfl⟩ := Int.eq_ofNat_of_zero_le (show 0 ≤ c by omega)
  obtain ⟨di, rfl⟩ := Int.eq_ofNat_of_zero_le (show 0 ≤ d by omega)
  obtain ⟨ei, rfl⟩ := Int.eq_ofNat_of_zero_le (show 0 ≤ e by omega)
  obtain ⟨fi, rfl⟩ := Int.eq_ofNat_of_zero_le (show 0 ≤ f by omega)
  obtain ⟨gi, rfl⟩ := Int.eq_ofNat_of_zero_le (show 0 ≤ g by omega)
  obtain ⟨hi, rfl⟩ := Int.eq_ofNat_of_zero_le (show 0 ≤ h by omega)
  go_loopw [6, 18] (fun s i wr => ∃ (k : Nat) (A : Option Addr) (N c : Nat), k ≤ 8 ∧ N = 3 * k ∧ i = .int .i64 (k : Nat) ∧ s = .slice A N c ∧ Own (g0 + 1) wr A N c (cfb ([ai, bi, ci, di, ei, fi, gi, hi].take k)) ∧ Bx g0 wr #[.int .i64 ai, .int .i64 bi, .int .i64 ci, .int .i64 di, .int .i64 ei, .int .i64 fi, .int .i64 gi, .int .i64 hi] ∧ Below g0 w wr) (fun _ i _ => 8 - (intOf i).toNat)
  case atStart => exact ⟨0, none, 0, 0, by omega, rfl, rfl, rfl, own_nil _ _, HX3.out, HB3.out⟩
  case round =>
    obtain ⟨k, A1, N, c1, hk, hN, rfl, rfl, hown, hx, hb⟩ := hrel
    have HO := Lib.hid hown
    have HX := Lib.hid hx
    have HB := Lib.hid hb
    clear hown hx hb HX3 HB3
    rcases (show k = 0 ∨ k = 1 ∨ k = 2 ∨ k = 3 ∨ k = 4 ∨ k = 5 ∨ k = 6 ∨ k = 7 ∨ k = 8 by omega) with rfl | rfl | rfl | rfl | rfl | rfl | rfl | rfl | rfl
    · obtain rfl : N = 0 := by omega
      have hc : wr.cell? ⟨g0, 0, none⟩ = some (.int .i64 (ai : Nat)) := HX.out.cell 0 _ rfl
      have hix : ∀ W : World, (Instr.index 52 (.agg #[.pointer (some ⟨g0, 0, none⟩), .pointer (some ⟨g0, 1, none⟩), .pointer (some ⟨g0, 2, none⟩), .pointer (some ⟨g0, 3, none⟩), .pointer (some ⟨g0, 4, none⟩), .pointer (some ⟨g0, 5, none⟩), .pointer (some ⟨g0, 6, none⟩), .pointer (some ⟨g0, 7, none⟩)]) (.int .i64 0)).run Try.prog W = .ok (.pointer (some ⟨g0, 0, none⟩)) W := fun _ => by kernel_rfl
      have HW := Lib.hid HX.out.room
      clear hN
      go_wp2_with fail
      refine (putn3_any (g0 + 1) A1 0 c1 _ ai wr (by omega) HO.out HW.out (by omega)).mono ?_
      rintro e w4 ⟨A4, c4, rfl, ho4, hg4⟩
      have HB4 := Lib.hid (hg4.below HW.out (fun b hb => (HO.out.inlt hb).1))
      have HO4 := Lib.hid ho4
      clear ho4 hg4
      go_wp2_with fail
      go_roundw
      case rel => exact ⟨1, A4, 3, c4, by omega, by omega, by go_num, rfl, HO4.out, HX.out.go HB4.out (Nat.le_refl _), HB.out.trans (HB4.out.mono (by omega))⟩
      case measure => simp [intOf]
    · obtain rfl : N = 3 := by omega
      have hc : wr.cell? ⟨g0, 1, none⟩ = some (.int .i64 (bi : Nat)) := HX.out.cell 1 _ rfl
      have hix : ∀ W : World, (Instr.index 52 (.agg #[.pointer (some ⟨g0, 0, none⟩), .pointer (some ⟨g0, 1, none⟩), .pointer (some ⟨g0, 2, none⟩), .pointer (some ⟨g0, 3, none⟩), .pointer (some ⟨g0, 4, none⟩), .pointer (some ⟨g0, 5, none⟩), .pointer (some ⟨g0, 6, none⟩), .pointer (some ⟨g0, 7, none⟩)]) (.int .i64 1)).run Try.prog W = .ok (.pointer (some ⟨g0, 1, none⟩)) W := fun _ => by kernel_rfl
      have HW := Lib.hid HX.out.room
      clear hN
      go_wp2_with fail
      refine (putn3_any (g0 + 1) A1 3 c1 _ bi wr (by omega) HO.out HW.out (by omega)).mono ?_
      rintro e w4 ⟨A4, c4, rfl, ho4, hg4⟩
      have HB4 := Lib.hid (hg4.below HW.out (fun b hb => (HO.out.inlt hb).1))
      have HO4 := Lib.hid ho4
      clear ho4 hg4
      go_wp2_with fail
      go_roundw
      case rel => exact ⟨2, A4, 6, c4, by omega, by omega, by go_num, rfl, HO4.out, HX.out.go HB4.out (Nat.le_refl _), HB.out.trans (HB4.out.mono (by omega))⟩
      case measure => simp [intOf]
    · obtain rfl : N = 6 := by omega
      have hc : wr.cell? ⟨g0, 2, none⟩ = some (.int .i64 (ci : Nat)) := HX.out.cell 2 _ rfl
      have hix : ∀ W : World, (Instr.index 52 (.agg #[.pointer (some ⟨g0, 0, none⟩), .pointer (some ⟨g0, 1, none⟩), .pointer (some ⟨g0, 2, none⟩), .pointer (some ⟨g0, 3, none⟩), .pointer (some ⟨g0, 4, none⟩), .pointer (some ⟨g0, 5, none⟩), .pointer (some ⟨g0, 6, none⟩), .pointer (some ⟨g0, 7, none⟩)]) (.int .i64 2)).run Try.prog W = .ok (.pointer (some ⟨g0, 2, none⟩)) W := fun _ => by kernel_rfl
      have HW := Lib.hid HX.out.room
      clear hN
      go_wp2_with fail
      refine (putn3_any (g0 + 1) A1 6 c1 _ ci wr (by omega) HO.out HW.out (by omega)).mono ?_
      rintro e w4 ⟨A4, c4, rfl, ho4, hg4⟩
      have HB4 := Lib.hid (hg4.below HW.out (fun b hb => (HO.out.inlt hb).1))
      have HO4 := Lib.hid ho4
      clear ho4 hg4
      go_wp2_with fail
      go_roundw
      case rel => exact ⟨3, A4, 9, c4, by omega, by omega, by go_num, rfl, HO4.out, HX.out.go HB4.out (Nat.le_refl _), HB.out.trans (HB4.out.mono (by omega))⟩
      case measure => simp [intOf]
    · obtain rfl : N = 9 := by omega
      have hc : wr.cell? ⟨g0, 3, none⟩ = some (.int .i64 (di : Nat)) := HX.out.cell 3 _ rfl
      have hix : ∀ W : World, (Instr.index 52 (.agg #[.pointer (some ⟨g0, 0, none⟩), .pointer (some ⟨g0, 1, none⟩), .pointer (some ⟨g0, 2, none⟩), .pointer (some ⟨g0, 3, none⟩), .pointer (some ⟨g0, 4, none⟩), .pointer (some ⟨g0, 5, none⟩), .pointer (some ⟨g0, 6, none⟩), .pointer (some ⟨g0, 7, none⟩)]) (.int .i64 3)).run Try.prog W = .ok (.pointer (some ⟨g0, 3, none⟩)) W := fun _ => by kernel_rfl
      have HW := Lib.hid HX.out.room
      clear hN
      go_wp2_with fail
      refine (putn3_any (g0 + 1) A1 9 c1 _ di wr (by omega) HO.out HW.out (by omega)).mono ?_
      rintro e w4 ⟨A4, c4, rfl, ho4, hg4⟩
      have HB4 := Lib.hid (hg4.below HW.out (fun b hb => (HO.out.inlt hb).1))
      have HO4 := Lib.hid ho4
      clear ho4 hg4
      go_wp2_with fail
      go_roundw
      case rel => exact ⟨4, A4, 12, c4, by omega, by omega, by go_num, rfl, HO4.out, HX.out.go HB4.out (Nat.le_refl _), HB.out.trans (HB4.out.mono (by omega))⟩
      case measure => simp [intOf]
    · obtain rfl : N = 12 := by omega
      have hc : wr.cell? ⟨g0, 4, none⟩ = some (.int .i64 (ei : Nat)) := HX.out.cell 4 _ rfl
      have hix : ∀ W : World, (Instr.index 52 (.agg #[.pointer (some ⟨g0, 0, none⟩), .pointer (some ⟨g0, 1, none⟩), .pointer (some ⟨g0, 2, none⟩), .pointer (some ⟨g0, 3, none⟩), .pointer (some ⟨g0, 4, none⟩), .pointer (some ⟨g0, 5, none⟩), .pointer (some ⟨g0, 6, none⟩), .pointer (some ⟨g0, 7, none⟩)]) (.int .i64 4)).run Try.prog W = .ok (.pointer (some ⟨g0, 4, none⟩)) W := fun _ => by kernel_rfl
      have HW := Lib.hid HX.out.room
      clear hN
      go_wp2_with fail
      refine (putn3_any (g0 + 1) A1 12 c1 _ ei wr (by omega) HO.out HW.out (by omega)).mono ?_
      rintro e w4 ⟨A4, c4, rfl, ho4, hg4⟩
      have HB4 := Lib.hid (hg4.below HW.out (fun b hb => (HO.out.inlt hb).1))
      have HO4 := Lib.hid ho4
      clear ho4 hg4
      go_wp2_with fail
      go_roundw
      case rel => exact ⟨5, A4, 15, c4, by omega, by omega, by go_num, rfl, HO4.out, HX.out.go HB4.out (Nat.le_refl _), HB.out.trans (HB4.out.mono (by omega))⟩
      case measure => simp [intOf]
    · obtain rfl : N = 15 := by omega
      have hc : wr.cell? ⟨g0, 5, none⟩ = some (.int .i64 (fi : Nat)) := HX.out.cell 5 _ rfl
      have hix : ∀ W : World, (Instr.index 52 (.agg #[.pointer (some ⟨g0, 0, none⟩), .pointer (some ⟨g0, 1, none⟩), .pointer (some ⟨g0, 2, none⟩), .pointer (some ⟨g0, 3, none⟩), .pointer (some ⟨g0, 4, none⟩), .pointer (some ⟨g0, 5, none⟩), .pointer (some ⟨g0, 6, none⟩), .pointer (some ⟨g0, 7, none⟩)]) (.int .i64 5)).run Try.prog W = .ok (.pointer (some ⟨g0, 5, none⟩)) W := fun _ => by kernel_rfl
      have HW := Lib.hid HX.out.room
      clear hN
      go_wp2_with fail
      refine (putn3_any (g0 + 1) A1 15 c1 _ fi wr (by omega) HO.out HW.out (by omega)).mono ?_
      rintro e w4 ⟨A4, c4, rfl, ho4, hg4⟩
      have HB4 := Lib.hid (hg4.below HW.out (fun b hb => (HO.out.inlt hb).1))
      have HO4 := Lib.hid ho4
      clear ho4 hg4
      go_wp2_with fail
      go_roundw
      case rel => exact ⟨6, A4, 18, c4, by omega, by omega, by go_num, rfl, HO4.out, HX.out.go HB4.out (Nat.le_refl _), HB.out.trans (HB4.out.mono (by omega))⟩
      case measure => simp [intOf]
    · obtain rfl : N = 18 := by omega
      have hc : wr.cell? ⟨g0, 6, none⟩ = some (.int .i64 (gi : Nat)) := HX.out.cell 6 _ rfl
      have hix : ∀ W : World, (Instr.index 52 (.agg #[.pointer (some ⟨g0, 0, none⟩), .pointer (some ⟨g0, 1, none⟩), .pointer (some ⟨g0, 2, none⟩), .pointer (some ⟨g0, 3, none⟩), .pointer (some ⟨g0, 4, none⟩), .pointer (some ⟨g0, 5, none⟩), .pointer (some ⟨g0, 6, none⟩), .pointer (some ⟨g0, 7, none⟩)]) (.int .i64 6)).run Try.prog W = .ok (.pointer (some ⟨g0, 6, none⟩)) W := fun _ => by kernel_rfl
      have HW := Lib.hid HX.out.room
      clear hN
      go_wp2_with fail
      refine (putn3_any (g0 + 1) A1 18 c1 _ gi wr (by omega) HO.out HW.out (by omega)).mono ?_
      rintro e w4 ⟨A4, c4, rfl, ho4, hg4⟩
      have HB4 := Lib.hid (hg4.below HW.out (fun b hb => (HO.out.inlt hb).1))
      have HO4 := Lib.hid ho4
      clear ho4 hg4
      go_wp2_with fail
      go_roundw
      case rel => exact ⟨7, A4, 21, c4, by omega, by omega, by go_num, rfl, HO4.out, HX.out.go HB4.out (Nat.le_refl _), HB.out.trans (HB4.out.mono (by omega))⟩
      case measure => simp [intOf]
    · obtain rfl : N = 21 := by omega
      have hc : wr.cell? ⟨g0, 7, none⟩ = some (.int .i64 (hi : Nat)) := HX.out.cell 7 _ rfl
      have hix : ∀ W : World, (Instr.index 52 (.agg #[.pointer (some ⟨g0, 0, none⟩), .pointer (some ⟨g0, 1, none⟩), .pointer (some ⟨g0, 2, none⟩), .pointer (some ⟨g0, 3, none⟩), .pointer (some ⟨g0, 4, none⟩), .pointer (some ⟨g0, 5, none⟩), .pointer (some ⟨g0, 6, none⟩), .pointer (some ⟨g0, 7, none⟩)]) (.int .i64 7)).run Try.prog W = .ok (.pointer (some ⟨g0, 7, none⟩)) W := fun _ => by kernel_rfl
      have HW := Lib.hid HX.out.room
      clear hN
      go_wp2_with fail
      refine (putn3_any (g0 + 1) A1 21 c1 _ hi wr (by omega) HO.out HW.out (by omega)).mono ?_
      rintro e w4 ⟨A4, c4, rfl, ho4, hg4⟩
      have HB4 := Lib.hid (hg4.below HW.out (fun b hb => (HO.out.inlt hb).1))
      have HO4 := Lib.hid ho4
      clear ho4 hg4
      go_wp2_with fail
      go_roundw
      case rel => exact ⟨8, A4, 24, c4, by omega, by omega, by go_num, rfl, HO4.out, HX.out.go HB4.out (Nat.le_refl _), HB.out.trans (HB4.out.mono (by omega))⟩
      case measure => simp [intOf]
    · obtain rfl : N = 24 := by omega
      go_upto_region 11 with fail
      have HO0 := HO.out
      rw [show cfb ([ai, bi, ci, di, ei, fi, gi, hi].take 8) = cbs ai bi ci di ei fi gi hi ++ evs (L.take 0) by simp [cbs, evs]] at HO0
      have HO1 := Lib.hid HO0
      clear HO0 HO
      go_wp2_with fail
      have HNL := Lib.hid (show 24 + (evs (L.take 0)).length = 24 by simp [evs])
      clear hN hk
      go_loopw [6, 29] (fun s i wr => ∃ (k : Nat) (A : Option Addr) (N c : Nat), k ≤ n ∧ Hid (N = 24 + (evs (L.take k)).length) ∧ i = .int .i64 (k : Nat) ∧ s = .slice A N c ∧ Own (g0 + 1) wr A N c (cbs ai bi ci di ei fi gi hi ++ evs (L.take k)) ∧ (∀ x ∈ L.take k, rtE x = true) ∧ Below g0 w wr ∧ g0 + 1 ≤ wr.heap.size) (fun _ i _ => n - (intOf i).toNat)
      case atStart => exact ⟨0, A1, 24, c1, by omega, Lib.hid HNL.out.symm, rfl, rfl, HO1.out, by simp, HB.out, HX.out.room⟩
      case round =>
        obtain ⟨k, A2, N, c2, hk, HNk, rfl, rfl, hown, hall, hb, hsz⟩ := hrel
        have HO := Lib.hid hown
        have HAll := Lib.hid hall
        have HBk := Lib.hid hb
        clear hown hall hb HX HB HO1 HNL
        by_cases hlt : k < n
        · obtain ⟨x, hx⟩ : ∃ x, L[k]? = some x := ⟨_, List.getElem?_eq_getElem (by have := HN.out; omega)⟩
          obtain ⟨bb, off, rfl, hbB, hc⟩ := (HL.out.below HBk.out).outer (by have := HN.out; omega)
          obtain ⟨hc0, hc1, hc2, hc3⟩ := hc k x hx
          have HXk := Lib.hid hx
          have HRx := Lib.hid (right16_any x)
          have HPx := Lib.hid (put_any (g0 + 1) A2 N c2 (cbs ai bi ci di ei fi gi hi ++ evs (L.take k)) x)
          have hN9 : N ≤ 900000000 := by
            have h1 := evs_le HAll.out
            have h2 : (L.take k).length ≤ 8192 := by simp; omega
            have := HNk.out
            omega
          clear hc hx
          unfold evv at HRx HPx
          obtain ⟨R, hR⟩ : ∃ R, rtE x = R := ⟨_, rfl⟩
          rw [hR] at HRx HPx
          have HR := Lib.hid hR
          clear hR
          have HE := Lib.hid (Bx.new wr wr.heap.size rfl #[.int .i64 x.k, .int .i64 x.i, .int .i64 x.n, .string (str x.t)] 30)
          have HOe := Lib.hid (HO.out.below ((Below.refl _ wr).alloc (Nat.le_refl _) (.cells #[.int .i64 x.k, .int .i64 x.i, .int .i64 x.n, .string (str x.t)] 30)))
          have HBe := Lib.hid (HBk.out.alloc (by omega) (.cells #[.int .i64 x.k, .int .i64 x.i, .int .i64 x.n, .string (str x.t)] 30))
          go_upto_region 14 with fail
          generalize wr.alloc _ = w5 at *
          obtain ⟨ge, hge⟩ : ∃ ge, wr.heap.size = ge := ⟨_, rfl⟩
          rw [hge] at HE hsz
          simp only [hge]
          clear hge hc0 hc1 hc2 hc3 HO HBk
          obtain ⟨m0, m1, m2, m3⟩ := HE.out.ev
          go_wp2_with fail
          refine (HRx.out _).mono ?_
          rintro y w6 ⟨rfl, hb6⟩
          have HE6 := Lib.hid (HE.out.go hb6 HE.out.room)
          have HO6 := Lib.hid (HOe.out.below hb6)
          have HB6 := Lib.hid (HBe.out.trans (hb6.mono (by have := HE.out.room; omega)))
          clear hb6 HE HOe HBe m0 m1 m2 m3 HRx
          cases R
          · go_wp2
            go_ret2
            exact e_ev (by rw [HN.out]; omega) HXk.out HR.out (by rw [HG.out]; exact HB6.out)
          obtain ⟨m0, m1, m2, m3⟩ := HE6.out.ev
          go_wp2_with fail
          refine (HPx.out _ (by simp) HO6.out (by have := HE6.out.room; omega) hN9).mono ?_
          rintro y w7 ⟨A7, c7, rfl, ho7, hb7⟩
          have HO7 := Lib.hid ho7
          have HB7 := Lib.hid (HB6.out.trans (hb7.mono (by omega)))
          have hs7 : g0 + 1 ≤ w7.heap.size := Nat.le_trans (by have := HE6.out.room; omega) hb7.size
          clear ho7 hb7
          go_wp2_with fail
          go_roundw
          case rel => exact ⟨k + 1, A7, N + (7 + x.t.length), c7, by omega, Lib.hid (by rw [evs_snoc L k x HXk.out, HNk.out, List.length_append, evb_len]; omega), by go_num, rfl, by rw [evs_snoc L k x HXk.out, ← List.append_assoc]; exact HO7.out, all_snoc HXk.out HAll.out HR.out, HB7.out, hs7⟩
          case measure => simp [intOf]; omega
        · have hkn : L.take k = L := List.take_of_length_le (by have := HN.out; omega)
          have HK := Lib.hid hkn
          clear hkn
          go_wp2
          go_ret2
          have hh := HNk.out
          rw [HK.out] at hh
          subst hh
          refine e_ok (by rw [HN.out]; omega) HR.out (by have := HAll.out; rw [HK.out] at this; exact this) ?_ (by rw [HG.out]; exact HBk.out)
          have := HO.out
          rw [HK.out] at this
          exact this.mono (by rw [HG.out]; omega)

end Go.Proofs.Ytflfchcncmpnbaa
