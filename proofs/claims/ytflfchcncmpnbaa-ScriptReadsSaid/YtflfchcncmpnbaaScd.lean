/- What script's Decode answers. -/
import Derived.Test.YtflfchcncmpnbaaSce
namespace Go.Proofs.Ytflfchcncmpnbaa
open Go.RowKit
open Sc

/-- is the conf with which bytes begin one that may be? -/
def rtc (l : Bs) : Bool := rt (cof l 0) (cof l 1) (cof l 2) (cof l 3) (cof l 4) (cof l 5) (cof l 6) (cof l 7)

/-- what Decode tells -/
def DGives (l : Bs) (w : World) (r : Ending) (w' : World) : Prop :=
  Below w.heap.size w w' ∧ ((262144 < l.length ∧ r = .returned (.tuple #[.agg (cf8 fun _ => 0), .slice none 0 0, .int .i64 0, .int .i64 6])) ∨
    (l.length < 24 ∧ r = .returned (.tuple #[.agg (cf8 fun _ => 0), .slice none 0 0, .int .i64 0, .int .i64 5])) ∨
    (24 ≤ l.length ∧ l.length ≤ 262144 ∧ rtc l = false ∧ r = .returned (.tuple #[.agg (cf8 fun _ => 0), .slice none 0 0, .int .i64 0, .int .i64 8])) ∨
    (24 ≤ l.length ∧ l.length ≤ 262144 ∧ rtc l = true ∧ ∃ (L : List Ev) (m e : Nat) (A : Option Addr) (n c : Nat), r = .returned (.tuple #[.agg (cf8 (cof l)), .slice A n c, .int .i64 (24 + m : Nat), .int .i64 e]) ∧
      EvRow w.heap.size w' A n c L ∧ Reads (l.drop 24) L m e))

theorem d_long {l : Bs} {w w' : World} (h : 262144 < l.length) (hb : Below w.heap.size w w') : DGives l w (.returned (.tuple #[.agg (cf8 fun _ => 0), .slice none 0 0, .int .i64 0, .int .i64 6])) w' := ⟨hb, .inl ⟨h, rfl⟩⟩
theorem d_short {l : Bs} {w w' : World} (h : l.length < 24) (hb : Below w.heap.size w w') : DGives l w (.returned (.tuple #[.agg (cf8 fun _ => 0), .slice none 0 0, .int .i64 0, .int .i64 5])) w' := ⟨hb, .inr (.inl ⟨h, rfl⟩)⟩
theorem d_form {l : Bs} {w w' : World} (h : 24 ≤ l.length) (h2 : l.length ≤ 262144) (hr : rtc l = false) (hb : Below w.heap.size w w') : DGives l w (.returned (.tuple #[.agg (cf8 fun _ => 0), .slice none 0 0, .int .i64 0, .int .i64 8])) w' := ⟨hb, .inr (.inr (.inl ⟨h, h2, hr, rfl⟩))⟩
theorem d_read {l : Bs} {w w' : World} (h : 24 ≤ l.length) (h2 : l.length ≤ 262144) (hr : rtc l = true) (hb : Below w.heap.size w w') {L : List Ev} {m e N : Nat} {A : Option Addr} {n c : Nat} (hN : N = 24 + m) (hrow : EvRow w.heap.size w' A n c L) (hR : Reads (l.drop 24) L m e) :
    DGives l w (.returned (.tuple #[.agg (cf8 (cof l)), .slice A n c, .int .i64 (N : Nat), .int .i64 e])) w' := by
  subst hN
  exact ⟨hb, .inr (.inr (.inr ⟨h, h2, hr, L, m, e, A, n, c, rfl, hrow, hR⟩))⟩

/-- what was read so far, at Decode's label -/
structure Sofar (r : Bs) (L : List Ev) (m : Nat) : Prop where
  le : m ≤ r.length
  bytes : r.take m = evs L
  right : ∀ x ∈ L, rtE x = true
  many : L.length ≤ 8192

theorem Sofar.zero (r : Bs) : Sofar r [] 0 := ⟨Nat.zero_le _, by simp [evs], fun _ h => (by cases h), by simp⟩
theorem Sofar.step {r : Bs} {L : List Ev} {m : Nat} (h : Sofar r L m) (hw : wholeB (r.drop m)) (hr : rtE (evOf (r.drop m)) = true) (hn : L.length < 8192) : Sofar r (L ++ [evOf (r.drop m)]) (m + size (r.drop m)) := by
  have h2 := hw.2
  simp only [List.length_drop] at h2
  have hle := h.le
  refine ⟨by omega, ?_, fun x hx => ?_, by simp; omega⟩
  · rw [List.take_add, h.bytes, evs_app, ← evb_evOf _ hw]
    simp [evs]
  · rcases List.mem_append.1 hx with h' | h'
    · exact h.right x h'
    · simp at h'
      subst h'
      exact hr
theorem Sofar.short {r : Bs} {L : List Ev} {m : Nat} (h : Sofar r L m) (hl : m < r.length) (hs : shortB (r.drop m)) : Reads r L m 5 := ⟨h.le, h.bytes, h.right, h.many, .inr (.inl ⟨rfl, hl, hs⟩)⟩
theorem Sofar.form {r : Bs} {L : List Ev} {m : Nat} (h : Sofar r L m) (hl : m < r.length) (hs : wholeB (r.drop m)) (hr : rtE (evOf (r.drop m)) = false) : Reads r L m 8 := ⟨h.le, h.bytes, h.right, h.many, .inr (.inr (.inl ⟨rfl, hl, hs, hr⟩))⟩
theorem Sofar.full {r : Bs} {L : List Ev} {m : Nat} (h : Sofar r L m) (hl : m < r.length) (hs : wholeB (r.drop m)) (hr : rtE (evOf (r.drop m)) = true) (hn : L.length = 8192) : Reads r L m 6 := ⟨h.le, h.bytes, h.right, h.many, .inr (.inr (.inr ⟨rfl, hl, hs, hr, hn⟩))⟩
theorem Sofar.ok {r : Bs} {L : List Ev} {m : Nat} (h : Sofar r L m) (hl : m = r.length) : Reads r L m 0 := ⟨h.le, h.bytes, h.right, h.many, .inl ⟨rfl, hl⟩⟩

theorem set8v {g B : Nat} {w0 w : World} {u0 u1 u2 u3 u4 u5 u6 u7 v0 v1 v2 v3 v4 v5 v6 v7 : Value} (h : Bx g w #[u0, u1, u2, u3, u4, u5, u6, u7]) (hb : Below B w0 w) (hB : B ≤ g) :
    Bx g ((((((((w.setCell ⟨g, 0, none⟩ v0).setCell ⟨g, 1, none⟩ v1).setCell ⟨g, 2, none⟩ v2).setCell ⟨g, 3, none⟩ v3).setCell ⟨g, 4, none⟩ v4).setCell ⟨g, 5, none⟩ v5).setCell ⟨g, 6, none⟩ v6).setCell ⟨g, 7, none⟩ v7) #[v0, v1, v2, v3, v4, v5, v6, v7] ∧ Below B w0 ((((((((w.setCell ⟨g, 0, none⟩ v0).setCell ⟨g, 1, none⟩ v1).setCell ⟨g, 2, none⟩ v2).setCell ⟨g, 3, none⟩ v3).setCell ⟨g, 4, none⟩ v4).setCell ⟨g, 5, none⟩ v5).setCell ⟨g, 6, none⟩ v6).setCell ⟨g, 7, none⟩ v7) ∧ Only (fun b => b = g) w ((((((((w.setCell ⟨g, 0, none⟩ v0).setCell ⟨g, 1, none⟩ v1).setCell ⟨g, 2, none⟩ v2).setCell ⟨g, 3, none⟩ v3).setCell ⟨g, 4, none⟩ v4).setCell ⟨g, 5, none⟩ v5).setCell ⟨g, 6, none⟩ v6).setCell ⟨g, 7, none⟩ v7) := by
  have h0 : Bx g _ #[v0, u1, u2, u3, u4, u5, u6, u7] := h.set 0 v0
  have b0 := hb.setCell (p := ⟨g, 0, none⟩) hB v0
  have o0 := (Only.refl (fun b => b = g) w).setCell (p := ⟨g, 0, none⟩) rfl v0
  have h1 : Bx g _ #[v0, v1, u2, u3, u4, u5, u6, u7] := h0.set 1 v1
  have b1 := b0.setCell (p := ⟨g, 1, none⟩) hB v1
  have o1 := o0.setCell (p := ⟨g, 1, none⟩) rfl v1
  have h2 : Bx g _ #[v0, v1, v2, u3, u4, u5, u6, u7] := h1.set 2 v2
  have b2 := b1.setCell (p := ⟨g, 2, none⟩) hB v2
  have o2 := o1.setCell (p := ⟨g, 2, none⟩) rfl v2
  have h3 : Bx g _ #[v0, v1, v2, v3, u4, u5, u6, u7] := h2.set 3 v3
  have b3 := b2.setCell (p := ⟨g, 3, none⟩) hB v3
  have o3 := o2.setCell (p := ⟨g, 3, none⟩) rfl v3
  have h4 : Bx g _ #[v0, v1, v2, v3, v4, u5, u6, u7] := h3.set 4 v4
  have b4 := b3.setCell (p := ⟨g, 4, none⟩) hB v4
  have o4 := o3.setCell (p := ⟨g, 4, none⟩) rfl v4
  have h5 : Bx g _ #[v0, v1, v2, v3, v4, v5, u6, u7] := h4.set 5 v5
  have b5 := b4.setCell (p := ⟨g, 5, none⟩) hB v5
  have o5 := o4.setCell (p := ⟨g, 5, none⟩) rfl v5
  have h6 : Bx g _ #[v0, v1, v2, v3, v4, v5, v6, u7] := h5.set 6 v6
  have b6 := b5.setCell (p := ⟨g, 6, none⟩) hB v6
  have o6 := o5.setCell (p := ⟨g, 6, none⟩) rfl v6
  have h7 : Bx g _ #[v0, v1, v2, v3, v4, v5, v6, v7] := h6.set 7 v7
  have b7 := b6.setCell (p := ⟨g, 7, none⟩) hB v7
  have o7 := o6.setCell (p := ⟨g, 7, none⟩) rfl v7
  exact ⟨h7, b7, o7⟩

theorem Bx.cells8 {g : Nat} {w : World} {v0 v1 v2 v3 v4 v5 v6 v7 : Value} (h : Bx g w #[v0, v1, v2, v3, v4, v5, v6, v7]) : w.cell? ⟨g, 0, none⟩ = some v0 ∧ w.cell? ⟨g, 1, none⟩ = some v1 ∧ w.cell? ⟨g, 2, none⟩ = some v2 ∧ w.cell? ⟨g, 3, none⟩ = some v3 ∧ w.cell? ⟨g, 4, none⟩ = some v4 ∧ w.cell? ⟨g, 5, none⟩ = some v5 ∧ w.cell? ⟨g, 6, none⟩ = some v6 ∧ w.cell? ⟨g, 7, none⟩ = some v7 :=
  ⟨h.cell 0 _ rfl, h.cell 1 _ rfl, h.cell 2 _ rfl, h.cell 3 _ rfl, h.cell 4 _ rfl, h.cell 5 _ rfl, h.cell 6 _ rfl, h.cell 7 _ rfl⟩

theorem Bx.free8 {g : Nat} {w : World} {vs : Array Value} (h : Bx g w vs) : w.frozen? ⟨g, 0, none⟩ = false ∧ w.frozen? ⟨g, 1, none⟩ = false ∧ w.frozen? ⟨g, 2, none⟩ = false ∧ w.frozen? ⟨g, 3, none⟩ = false ∧ w.frozen? ⟨g, 4, none⟩ = false ∧ w.frozen? ⟨g, 5, none⟩ = false ∧ w.frozen? ⟨g, 6, none⟩ = false ∧ w.frozen? ⟨g, 7, none⟩ = false :=
  ⟨h.free 0, h.free 1, h.free 2, h.free 3, h.free 4, h.free 5, h.free 6, h.free 7⟩

theorem EvRow.keep {base n c : Nat} {S : Nat → Prop} {w w' : World} {a : Option Addr} {L : List Ev} (h : EvRow base w a n c L) (hO : Only S w w') (hS : ∀ b, S b → b < base) : EvRow base w' a n c L := by
  refine ⟨⟨h.row.1, ?_⟩, h.cap, h.inner⟩
  rcases h.row.2 with h0 | ⟨g, cap, cur, e, hb, hg, hrest⟩
  · exact .inl h0
  · have hlt : g < w.heap.size := by
      rcases Nat.lt_or_ge g w.heap.size with h' | h'
      · exact h'
      · rw [Array.getElem?_eq_none h'] at hg; cases hg
    exact .inr ⟨g, cap, cur, e, hb, (hO.block g hlt (fun hs => by have := hS g hs; omega)).trans hg, hrest⟩

set_option maxHeartbeats 4000000 in
theorem decode_any (a : Option Addr) (n cap : Nat) (l : Bs) (w : World) (hl : Bytes w w.heap.size a n l) (hcap : n ≤ cap) (hm : cap ≤ 9223372036854775807) :
    Calls Try.prog 13 #[.slice a n cap] w (DGives l w) := by
  have hlen := hl.1
  have HL := Lib.hid hl
  have HLen := Lib.hid hlen
  clear hl hlen
  have HX := Lib.hid (Bx.new w w.heap.size rfl #[.int .i64 0, .int .i64 0, .int .i64 0, .int .i64 0, .int .i64 0, .int .i64 0, .int .i64 0, .int .i64 0] 23)
  have HB := Lib.hid ((Below.refl w.heap.size w).alloc (Nat.le_refl _) (.cells #[.int .i64 0, .int .i64 0, .int .i64 0, .int .i64 0, .int .i64 0, .int .i64 0, .int .i64 0, .int .i64 0] 23))
  go_enter Try.func13, Try.ntmps13
  go_upto_region 1 with fail
  generalize w.alloc _ = w1 at *
  obtain ⟨g, hg⟩ : ∃ g, w.heap.size = g := ⟨_, rfl⟩
  rw [hg] at HX HB HL
  simp only [hg]
  have HG := Lib.hid hg
  clear hg
  obtain ⟨z0, z1, z2, z3, z4, z5, z6, z7⟩ := HX.out.cells8
  obtain ⟨f0, f1, f2, f3, f4, f5, f6, f7⟩ := HX.out.free8
  by_cases hlong : 262144 < n
  · have hd : decide ((n : Int) > 262144) = true := by simp; omega
    have HQ := Lib.hid hlong
    clear hlong
    have hfin := set8v (v0 := .int .i64 0) (v1 := .int .i64 0) (v2 := .int .i64 0) (v3 := .int .i64 0) (v4 := .int .i64 0) (v5 := .int .i64 0) (v6 := .int .i64 0) (v7 := .int .i64 0) HX.out HB.out (Nat.le_refl _)
    go_wp2
    generalize World.setCell _ _ _ = W at hfin ⊢
    obtain ⟨r0, r1, r2, r3, r4, r5, r6, r7⟩ := hfin.1.cells8
    exact bodyPost_ret (by simp [results, go_sem, r0, r1, r2, r3, r4, r5, r6, r7]; rfl) rfl (d_long (by rw [HLen.out]; exact HQ.out) (by rw [HG.out]; exact hfin.2.1))
  have hd : decide ((n : Int) > 262144) = false := by simp; omega
  by_cases h24 : n < 24
  · have hd2 : decide ((n : Int) < 24) = true := by simp; omega
    have HQ := Lib.hid h24
    clear h24 hlong
    have hfin := set8v (v0 := .int .i64 0) (v1 := .int .i64 0) (v2 := .int .i64 0) (v3 := .int .i64 0) (v4 := .int .i64 0) (v5 := .int .i64 0) (v6 := .int .i64 0) (v7 := .int .i64 0) HX.out HB.out (Nat.le_refl _)
    go_wp2
    generalize World.setCell _ _ _ = W at hfin ⊢
    obtain ⟨r0, r1, r2, r3, r4, r5, r6, r7⟩ := hfin.1.cells8
    exact bodyPost_ret (by simp [results, go_sem, r0, r1, r2, r3, r4, r5, r6, r7]; rfl) rfl (d_short (by rw [HLen.out]; exact HQ.out) (by rw [HG.out]; exact hfin.2.1))
  have hd2 : decide ((n : Int) < 24) = false := by simp; omega
  clear z0 z1 z2 z3 z4 z5 z6 z7 f0 f1 f2 f3 f4 f5 f6 f7
  have hgw : g + 1 ≤ w1.heap.size := HX.out.room
  go_wp2_with fail
  refine (getc_any a n cap l w1 ((HL.out.below HB.out).more (by omega)) (by omega) hcap hm).mono ?_
  rintro e w2 ⟨rfl, hb2⟩
  have HX2 := Lib.hid (HX.out.go hb2 hgw)
  have HB2 := Lib.hid (HB.out.trans (hb2.mono (by omega)))
  have hgw2 : g + 1 ≤ w2.heap.size := Nat.le_trans hgw hb2.size
  clear hb2 HX HB hgw hd hd2
  unfold cf8
  go_upto_region 6 with fail
  have HC := Lib.hid (Bx.new w2 w2.heap.size rfl #[.int .i64 (cof l 0 : Nat), .int .i64 (cof l 1 : Nat), .int .i64 (cof l 2 : Nat), .int .i64 (cof l 3 : Nat), .int .i64 (cof l 4 : Nat), .int .i64 (cof l 5 : Nat), .int .i64 (cof l 6 : Nat), .int .i64 (cof l 7 : Nat)] 23)
  have HX3 := Lib.hid (HX2.out.go ((Below.refl _ w2).alloc (Nat.le_refl _) (.cells #[.int .i64 (cof l 0 : Nat), .int .i64 (cof l 1 : Nat), .int .i64 (cof l 2 : Nat), .int .i64 (cof l 3 : Nat), .int .i64 (cof l 4 : Nat), .int .i64 (cof l 5 : Nat), .int .i64 (cof l 6 : Nat), .int .i64 (cof l 7 : Nat)] 23)) hgw2)
  have HB3 := Lib.hid (HB2.out.alloc (by omega) (.cells #[.int .i64 (cof l 0 : Nat), .int .i64 (cof l 1 : Nat), .int .i64 (cof l 2 : Nat), .int .i64 (cof l 3 : Nat), .int .i64 (cof l 4 : Nat), .int .i64 (cof l 5 : Nat), .int .i64 (cof l 6 : Nat), .int .i64 (cof l 7 : Nat)] 23))
  generalize w2.alloc _ = w3 at *
  obtain ⟨gc, hgc⟩ : ∃ gc, w2.heap.size = gc := ⟨_, rfl⟩
  rw [hgc] at HC hgw2
  simp only [hgc]
  clear hgc HX2 HB2
  have hcw : gc + 1 ≤ w3.heap.size := HC.out.room
  obtain ⟨k0, k1, k2, k3, k4, k5, k6, k7⟩ := HC.out.cells8
  have HRt := Lib.hid (right_any (cof l 0) (cof l 1) (cof l 2) (cof l 3) (cof l 4) (cof l 5) (cof l 6) (cof l 7))
  unfold cv at HRt
  have hr0 : rtc l = rt (cof l 0) (cof l 1) (cof l 2) (cof l 3) (cof l 4) (cof l 5) (cof l 6) (cof l 7) := rfl
  obtain ⟨R, hR⟩ : ∃ R, rtc l = R := ⟨_, rfl⟩
  rw [← hr0, hR] at HRt
  have HR := Lib.hid hR
  clear hR hr0
  go_wp2_with fail
  refine (HRt.out _).mono ?_
  rintro e w4 ⟨rfl, hb4⟩
  have HC4 := Lib.hid (HC.out.go hb4 hcw)
  have HX4 := Lib.hid (HX3.out.go hb4 (by omega))
  have HB4 := Lib.hid (HB3.out.trans (hb4.mono (by omega)))
  have hcw4 : gc + 1 ≤ w4.heap.size := Nat.le_trans hcw hb4.size
  clear hb4 HC HX3 HB3 hcw k0 k1 k2 k3 k4 k5 k6 k7 HRt
  cases R
  · obtain ⟨z0, z1, z2, z3, z4, z5, z6, z7⟩ := HX4.out.cells8
    obtain ⟨f0, f1, f2, f3, f4, f5, f6, f7⟩ := HX4.out.free8
    have hfin := set8v (v0 := .int .i64 0) (v1 := .int .i64 0) (v2 := .int .i64 0) (v3 := .int .i64 0) (v4 := .int .i64 0) (v5 := .int .i64 0) (v6 := .int .i64 0) (v7 := .int .i64 0) HX4.out HB4.out (Nat.le_refl _)
    go_wp2
    generalize World.setCell _ _ _ = W at hfin ⊢
    obtain ⟨r0, r1, r2, r3, r4, r5, r6, r7⟩ := hfin.1.cells8
    exact bodyPost_ret (by simp [results, go_sem, r0, r1, r2, r3, r4, r5, r6, r7]; rfl) rfl (d_form (by rw [HLen.out]; omega) (by rw [HLen.out]; omega) HR.out (by rw [HG.out]; exact hfin.2.1))
  go_wp2_with fail
  have hrl : (l.drop 24).length = n - 24 := by simp [HLen.out]
  have HRl := Lib.hid hrl
  have HD := Lib.hid (fun (m : Nat) => (show (l.drop 24).drop m = l.drop (24 + m) by rw [List.drop_drop]))
  clear hrl
  go_loopw [7, 8] (fun s p wr => ∃ (L : List Ev) (m N : Nat) (A : Option Addr) (k c : Nat), Hid (N = 24 + m) ∧ N ≤ n ∧ k ≤ 8192 ∧ p = .int .i64 (N : Nat) ∧ s = .slice A k c ∧ EvRow (gc + 1) wr A k c L ∧ Sofar (l.drop 24) L m ∧ Bx gc wr #[.int .i64 (cof l 0 : Nat), .int .i64 (cof l 1 : Nat), .int .i64 (cof l 2 : Nat), .int .i64 (cof l 3 : Nat), .int .i64 (cof l 4 : Nat), .int .i64 (cof l 5 : Nat), .int .i64 (cof l 6 : Nat), .int .i64 (cof l 7 : Nat)] ∧ Bx g wr #[.int .i64 0, .int .i64 0, .int .i64 0, .int .i64 0, .int .i64 0, .int .i64 0, .int .i64 0, .int .i64 0] ∧ Below g w wr) (fun _ p _ => n - (intOf p).toNat)
  case atStart => exact ⟨[], 0, 24, none, 0, 0, Lib.hid rfl, by omega, by omega, rfl, rfl, EvRow.nil _ _, Sofar.zero _, HC4.out, HX4.out, HB4.out⟩
  case round =>
    obtain ⟨L, m, N, A, k, c, HN, hNn, hk8, rfl, rfl, hrow, hso, hc, hx, hb⟩ := hrel
    have HRow := Lib.hid hrow
    have HSo := Lib.hid hso
    have HC := Lib.hid hc
    have HX := Lib.hid hx
    have HB := Lib.hid hb
    have hcw : gc + 1 ≤ wr.heap.size := hc.room
    clear hrow hso hc hx hb HC4 HX4 HB4 hcw4
    by_cases hlt : N < n
    · obtain ⟨b, off, rfl, hbB, _⟩ := HL.out.2 (by omega)
      have hne : ¬ cap = N := by omega
      have hgw : g + 1 ≤ wr.heap.size := by omega
      have HF := Lib.hid (show Bytes wr wr.heap.size (some ⟨b, off + N, none⟩) (n - N) (l.drop N) from ((HL.out.below HB.out).cut2 (cap := cap) (j := N) (by omega) hcap (by omega)).more (by omega))
      have hml : m < (l.drop 24).length := by have := HRl.out; have := HN.out; omega
      have HMl := Lib.hid hml
      have hdr : (l.drop 24).drop m = l.drop N := by rw [HN.out]; exact HD.out m
      have HDr := Lib.hid hdr
      clear hml hdr
      go_wp2_with fail
      refine (get16_any _ (n - N) (cap - N) (l.drop N) wr HF.out (by omega) (by omega)).mono ?_
      rintro e w5 ⟨ev, m2, er, rfl, hb5, hgv⟩
      have HGv := Lib.hid hgv
      have HC5 := Lib.hid (HC.out.go hb5 hcw)
      have HX5 := Lib.hid (HX.out.go hb5 hgw)
      have HB5 := Lib.hid (HB.out.trans (hb5.mono (by omega)))
      have HRow5 := Lib.hid (HRow.out.below hb5)
      have hcw5 : gc + 1 ≤ w5.heap.size := Nat.le_trans hcw hb5.size
      clear hb5 hgv HC HX HB HRow hcw hgw
      unfold evv
      go_upto_region 12 with fail
      have HE6 := Lib.hid (Bx.new w5 w5.heap.size rfl #[.int .i64 ev.k, .int .i64 ev.i, .int .i64 ev.n, .string (str ev.t)] 30)
      have hb6 := (Below.refl w5.heap.size w5).alloc (Nat.le_refl _) (.cells #[.int .i64 ev.k, .int .i64 ev.i, .int .i64 ev.n, .string (str ev.t)] 30)
      have HC6 := Lib.hid (HC5.out.go hb6 hcw5)
      have HX6 := Lib.hid (HX5.out.go hb6 (by omega))
      have HB6 := Lib.hid (HB5.out.alloc (by omega) (.cells #[.int .i64 ev.k, .int .i64 ev.i, .int .i64 ev.n, .string (str ev.t)] 30))
      have HRow6 := Lib.hid (HRow5.out.below hb6)
      have hcw6 := Nat.le_trans hcw5 hb6.size
      clear hb6 HC5 HX5 HB5 HRow5
      generalize w5.alloc _ = w6 at *
      obtain ⟨ge, hge⟩ : ∃ ge, w5.heap.size = ge := ⟨_, rfl⟩
      rw [hge] at HE6
      simp only [hge]
      clear hge
      rcases HGv.out with ⟨rfl, hs⟩ | ⟨rfl, hs, hr, rfl, rfl⟩ | ⟨rfl, hs, hr⟩
      · have HS := Lib.hid hs
        clear hs HGv
        have hfin := set8v (v0 := .int .i64 (cof l 0 : Nat)) (v1 := .int .i64 (cof l 1 : Nat)) (v2 := .int .i64 (cof l 2 : Nat)) (v3 := .int .i64 (cof l 3 : Nat)) (v4 := .int .i64 (cof l 4 : Nat)) (v5 := .int .i64 (cof l 5 : Nat)) (v6 := .int .i64 (cof l 6 : Nat)) (v7 := .int .i64 (cof l 7 : Nat)) HX6.out HB6.out (Nat.le_refl _)
        obtain ⟨k0, k1, k2, k3, k4, k5, k6, k7⟩ := HC6.out.cells8
        obtain ⟨z0, z1, z2, z3, z4, z5, z6, z7⟩ := HX6.out.cells8
        obtain ⟨f0, f1, f2, f3, f4, f5, f6, f7⟩ := HX6.out.free8
        go_wp2
        generalize World.setCell _ _ _ = W at hfin ⊢
        obtain ⟨r0, r1, r2, r3, r4, r5, r6, r7⟩ := hfin.1.cells8
        have hD := d_read (w := w) (w' := W) (by rw [HLen.out]; omega) (by rw [HLen.out]; omega) HR.out (by rw [HG.out]; exact hfin.2.1) HN.out (by rw [HG.out]; exact (HRow6.out.keep hfin.2.2 (fun b (hb : b = g) => by omega)).mono (by omega)) (HSo.out.short HMl.out (by rw [HDr.out]; exact HS.out))
        exact bodyPost_ret (by simp [results, go_sem, r0, r1, r2, r3, r4, r5, r6, r7]; rfl) rfl hD
      · have HS := Lib.hid hs
        have HRr := Lib.hid hr
        clear hs hr HGv
        have hLk := HRow6.out.len
        by_cases hfull : k = 8192
        · subst hfull
          have HLk := Lib.hid hLk
          clear hLk
          have hfin := set8v (v0 := .int .i64 (cof l 0 : Nat)) (v1 := .int .i64 (cof l 1 : Nat)) (v2 := .int .i64 (cof l 2 : Nat)) (v3 := .int .i64 (cof l 3 : Nat)) (v4 := .int .i64 (cof l 4 : Nat)) (v5 := .int .i64 (cof l 5 : Nat)) (v6 := .int .i64 (cof l 6 : Nat)) (v7 := .int .i64 (cof l 7 : Nat)) HX6.out HB6.out (Nat.le_refl _)
          obtain ⟨k0, k1, k2, k3, k4, k5, k6, k7⟩ := HC6.out.cells8
          obtain ⟨z0, z1, z2, z3, z4, z5, z6, z7⟩ := HX6.out.cells8
          obtain ⟨f0, f1, f2, f3, f4, f5, f6, f7⟩ := HX6.out.free8
          go_wp2
          generalize World.setCell _ _ _ = W at hfin ⊢
          obtain ⟨r0, r1, r2, r3, r4, r5, r6, r7⟩ := hfin.1.cells8
          have hD := d_read (w := w) (w' := W) (by rw [HLen.out]; omega) (by rw [HLen.out]; omega) HR.out (by rw [HG.out]; exact hfin.2.1) HN.out (by rw [HG.out]; exact (HRow6.out.keep hfin.2.2 (fun b (hb : b = g) => by omega)).mono (by omega)) (HSo.out.full HMl.out (by rw [HDr.out]; exact HS.out) (by rw [HDr.out]; exact HRr.out) HLk.out)
          exact bodyPost_ret (by simp [results, go_sem, r0, r1, r2, r3, r4, r5, r6, r7]; rfl) rfl hD
        · have hdk : ((k : Int) == 8192) = false := by simp; omega
          have HLk := Lib.hid hLk
          obtain ⟨e0, e1, e2, e3⟩ := HE6.out.ev
          have hst := HSo.out.step (by rw [HDr.out]; exact HS.out) (by rw [HDr.out]; exact HRr.out) (by omega)
          rw [HDr.out] at hst
          have HSt := Lib.hid hst
          have hle := hst.le
          have HLe := Lib.hid hle
          clear hLk hst hle
          have hev : (evOf (l.drop N)).t.length ≤ maxLen := by have := (rtE_in HRr.out).2.2.2.2.2.2; unfold maxLen; omega
          have HEv := Lib.hid hev
          have HSz := Lib.hid (show 24 + (m + size (l.drop N)) ≤ n by have h1 := HLe.out; rw [HRl.out] at h1; omega)
          have hsz : N + size (l.drop N) ≤ n := by have := HSz.out; have := HN.out; omega
          have hk9 : k + 1 ≤ 8192 := by omega
          have hs7 : 7 ≤ size (l.drop N) := by unfold size; omega
          clear hev hfull
          generalize evOf (l.drop N) = ev at *
          generalize size (l.drop N) = sz at *
          go_wp2_with (first
            | (at_builtin
               refine wpList_eapp rfl (.tmp 51) (.tmp 53) rfl (base := gc + 1) (n := k) rfl (HRow6.out.below ((Below.refl _ _).alloc (Nat.le_refl _) _)) rfl (ev_one w6 ev HEv.out _) rfl (by omega) (by simp; omega) ?_
               intro A7 c7 w7 hrow7 hb7
               have HRow7 := Lib.hid hrow7
               have HB7 := Lib.hid (Below.trans (((Below.refl w6.heap.size w6).alloc (Nat.le_refl _) _).mono hcw6) hb7)
               clear hrow7 hb7)
            | fail)
          go_roundw
          case rel => exact ⟨L ++ [ev], m + sz, N + sz, A7, k + 1, c7, Lib.hid (by have := HN.out; omega), by omega, by omega, by go_num, rfl, HRow7.out, HSt.out, HC6.out.go HB7.out (Nat.le_refl _), HX6.out.go HB7.out (by omega), HB6.out.trans (HB7.out.mono (by omega))⟩
          case measure => simp [intOf]; omega
      · have HS := Lib.hid hs
        have HRr := Lib.hid hr
        clear hs hr HGv
        have hfin := set8v (v0 := .int .i64 (cof l 0 : Nat)) (v1 := .int .i64 (cof l 1 : Nat)) (v2 := .int .i64 (cof l 2 : Nat)) (v3 := .int .i64 (cof l 3 : Nat)) (v4 := .int .i64 (cof l 4 : Nat)) (v5 := .int .i64 (cof l 5 : Nat)) (v6 := .int .i64 (cof l 6 : Nat)) (v7 := .int .i64 (cof l 7 : Nat)) HX6.out HB6.out (Nat.le_refl _)
        obtain ⟨k0, k1, k2, k3, k4, k5, k6, k7⟩ := HC6.out.cells8
        obtain ⟨z0, z1, z2, z3, z4, z5, z6, z7⟩ := HX6.out.cells8
        obtain ⟨f0, f1, f2, f3, f4, f5, f6, f7⟩ := HX6.out.free8
        go_wp2
        generalize World.setCell _ _ _ = W at hfin ⊢
        obtain ⟨r0, r1, r2, r3, r4, r5, r6, r7⟩ := hfin.1.cells8
        have hD := d_read (w := w) (w' := W) (by rw [HLen.out]; omega) (by rw [HLen.out]; omega) HR.out (by rw [HG.out]; exact hfin.2.1) HN.out (by rw [HG.out]; exact (HRow6.out.keep hfin.2.2 (fun b (hb : b = g) => by omega)).mono (by omega)) (HSo.out.form HMl.out (by rw [HDr.out]; exact HS.out) (by rw [HDr.out]; exact HRr.out))
        exact bodyPost_ret (by simp [results, go_sem, r0, r1, r2, r3, r4, r5, r6, r7]; rfl) rfl hD
    · obtain rfl : N = n := by omega
      have hd : decide ((N : Int) < (N : Int)) = false := by simp
      obtain ⟨z0, z1, z2, z3, z4, z5, z6, z7⟩ := HX.out.cells8
      obtain ⟨f0, f1, f2, f3, f4, f5, f6, f7⟩ := HX.out.free8
      obtain ⟨k0, k1, k2, k3, k4, k5, k6, k7⟩ := HC.out.cells8
      clear hlt
      have hfin := set8v (v0 := .int .i64 (cof l 0 : Nat)) (v1 := .int .i64 (cof l 1 : Nat)) (v2 := .int .i64 (cof l 2 : Nat)) (v3 := .int .i64 (cof l 3 : Nat)) (v4 := .int .i64 (cof l 4 : Nat)) (v5 := .int .i64 (cof l 5 : Nat)) (v6 := .int .i64 (cof l 6 : Nat)) (v7 := .int .i64 (cof l 7 : Nat)) HX.out HB.out (Nat.le_refl _)
      have hrw := (HRow.out.mono (base' := g) (by omega))
      go_wp2
      generalize World.setCell _ _ _ = W at hfin ⊢
      obtain ⟨r0, r1, r2, r3, r4, r5, r6, r7⟩ := hfin.1.cells8
      have hD := d_read (w := w) (w' := W) (by rw [HLen.out]; omega) (by rw [HLen.out]; omega) HR.out (by rw [HG.out]; exact hfin.2.1) HN.out (by rw [HG.out]; exact (HRow.out.keep hfin.2.2 (fun b (hb : b = g) => by omega)).mono (by omega)) (HSo.out.ok (by have := HRl.out; have := HN.out; omega))
      exact bodyPost_ret (by simp [results, go_sem, r0, r1, r2, r3, r4, r5, r6, r7]; rfl) rfl hD

end Go.Proofs.Ytflfchcncmpnbaa
