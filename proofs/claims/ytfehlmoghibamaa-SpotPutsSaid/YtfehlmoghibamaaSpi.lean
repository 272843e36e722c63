/- What the program's own functions of layer 7 answer: put, Put, At. -/
import Derived.Test.YtfehlmoghibamaaSpk
namespace Go.Proofs.Ytfehlmoghibamaa
open Go.RowKit
open Sp

theorem SpotIs.seq {g : Nat} {w : World} {s : Sp} (h : SpotIs g w s) (q : Int) : SpotIs g (w.setCell ⟨g, 2, none⟩ (.int .i64 q)) { s with q := q } := by
  obtain ⟨hl, x, y, hr, hx⟩ := h
  exact ⟨by simpa using hl, x, y, hr, hx.set 2 _⟩

theorem SpotIs.quit {g : Nat} {w : World} {s : Sp} (h : SpotIs g w s) : SpotIs g (w.setCell ⟨g, 2, none⟩ (.int .i64 0)) { s with q := 0 } := h.seq 0

theorem only_seq (g : Nat) (w : World) (v : Value) : Only (fun b => b = g) w (w.setCell ⟨g, 2, none⟩ v) := (Only.refl (fun b => b = g) w).setCell (p := ⟨g, 2, none⟩) rfl _

set_option maxRecDepth 100000 in
theorem put_0 (g : Nat) (s : Sp) (n b : Nat) (w : World) (hs : SpotIs g w s) (hok : Ok s n) (hn : n ≤ 1000000000) (h8 : b < 256) (hq : s.q = 0) :
    Calls Try.prog 14 #[.pointer (some ⟨g, 0, none⟩), .int .u8 b] w (SGives g w (Sp.lone { s with q := 0 } b)) := by
  have HS1 := Lib.hid (hs.quit)
  have HK := Lib.hid (hok.seq 0 (.inl rfl))
  have HN := Lib.hid hn
  obtain ⟨hl, x, y, hr, hx⟩ := hs
  have d2 : w.cell? ⟨g, 2, none⟩ = some (.int .i64 s.q) := hx.cell 2 _ rfl
  have f2 := hx.free 2
  have HX := Lib.hid (And.intro hl (And.intro hr hx))
  clear hl hr hx hok hn
  rw [hq] at d2
  clear hq
  go_enter Try.func14, Try.ntmps14
  go_wp2_with fail
  refine (one_any g { s with q := 0 } n b _ HS1.out HK.out HN.out h8).mono ?_
  rintro e w1 ⟨rfl, ho1, hs1⟩
  have HO := Lib.hid (And.intro ho1 hs1)
  clear ho1 hs1
  go_wp2
  exact bodyPost_ret (v := .tuple #[]) (by simp [results, Try.results14, go_sem]) rfl ⟨rfl, (only_seq g w _).trans HO.out.1, HO.out.2⟩

set_option maxRecDepth 100000 in
theorem put_2 (g : Nat) (s : Sp) (n b : Nat) (w : World) (hs : SpotIs g w s) (hok : Ok s n) (hn : n ≤ 1000000000) (h8 : b < 256) (hq : s.q = 2) :
    Calls Try.prog 14 #[.pointer (some ⟨g, 0, none⟩), .int .u8 b] w (SGives g w (Sp.way { s with q := 0 } b)) := by
  have HS1 := Lib.hid (hs.quit)
  have HK := Lib.hid (hok.seq 0 (.inl rfl))
  have HN := Lib.hid hn
  obtain ⟨hl, x, y, hr, hx⟩ := hs
  have d2 : w.cell? ⟨g, 2, none⟩ = some (.int .i64 s.q) := hx.cell 2 _ rfl
  have f2 := hx.free 2
  have HX := Lib.hid (And.intro hl (And.intro hr hx))
  clear hl hr hx hok hn
  rw [hq] at d2
  clear hq
  go_enter Try.func14, Try.ntmps14
  go_wp2_with fail
  refine (arrow_any g { s with q := 0 } n b _ HS1.out HK.out HN.out h8).mono ?_
  rintro e w1 ⟨rfl, ho1, hs1⟩
  have HO := Lib.hid (And.intro ho1 hs1)
  clear ho1 hs1
  go_wp2
  exact bodyPost_ret (v := .tuple #[]) (by simp [results, Try.results14, go_sem]) rfl ⟨rfl, (only_seq g w _).trans HO.out.1, HO.out.2⟩

set_option maxRecDepth 100000 in
theorem put_1 (g : Nat) (s : Sp) (n b : Nat) (w : World) (hs : SpotIs g w s) (hok : Ok s n) (hn : n ≤ 1000000000) (h8 : b < 256) (hq : s.q = 1) (hb : b = 91) :
    Calls Try.prog 14 #[.pointer (some ⟨g, 0, none⟩), .int .u8 b] w (SGives g w ({ s with q := 2 })) := by
  have HS1 := Lib.hid (hs.quit)
  have HK := Lib.hid (hok.seq 0 (.inl rfl))
  have HN := Lib.hid hn
  obtain ⟨hl, x, y, hr, hx⟩ := hs
  have d2 : w.cell? ⟨g, 2, none⟩ = some (.int .i64 s.q) := hx.cell 2 _ rfl
  have f2 := hx.free 2
  have HX := Lib.hid (And.intro hl (And.intro hr hx))
  clear hl hr hx hok hn
  subst hb
  rw [hq] at d2
  clear hq
  go_enter Try.func14, Try.ntmps14
  go_wp2
  exact bodyPost_ret (v := .tuple #[]) (by simp [results, Try.results14, go_sem]) rfl ⟨rfl, (only_seq g w _).trans (only_seq g _ _), HS1.out.seq 2⟩

set_option maxRecDepth 100000 in
theorem put_1b (g : Nat) (s : Sp) (n b : Nat) (w : World) (hs : SpotIs g w s) (hok : Ok s n) (hn : n ≤ 1000000000) (_h8 : b < 256) (hq : s.q = 1) (hb : b ≠ 91) :
    Calls Try.prog 14 #[.pointer (some ⟨g, 0, none⟩), .int .u8 b] w (SGives g w ({ s with q := 0 })) := by
  have HS1 := Lib.hid (hs.quit)
  have HK := Lib.hid (hok.seq 0 (.inl rfl))
  have HN := Lib.hid hn
  obtain ⟨hl, x, y, hr, hx⟩ := hs
  have d2 : w.cell? ⟨g, 2, none⟩ = some (.int .i64 s.q) := hx.cell 2 _ rfl
  have f2 := hx.free 2
  have HX := Lib.hid (And.intro hl (And.intro hr hx))
  clear hl hr hx hok hn
  have n91 : ((b : Int) == 91) = false := by simp; omega
  rw [hq] at d2
  clear hq
  go_enter Try.func14, Try.ntmps14
  go_wp2
  exact bodyPost_ret (v := .tuple #[]) (by simp [results, Try.results14, go_sem]) rfl ⟨rfl, only_seq g w _, HS1.out⟩

theorem put_any (g : Nat) (s : Sp) (n b : Nat) (w : World) (hs : SpotIs g w s) (hok : Ok s n) (hn : n ≤ 1000000000) (h8 : b < 256) :
    Calls Try.prog 14 #[.pointer (some ⟨g, 0, none⟩), .int .u8 b] w (SGives g w (nxt s b)) := by
  unfold nxt
  rcases hok.q0 with h | h | h
  · rw [if_neg (by omega), if_neg (by omega)]
    have h2 := put_0 g s n b w hs hok hn h8 h
    rwa [show ({ s with q := 0 } : Sp) = s by rw [← h]] at h2
  · rw [if_pos h]
    by_cases hb : b = 91
    · rw [if_pos hb]; exact put_1 g s n b w hs hok hn h8 h hb
    · rw [if_neg hb]; exact put_1b g s n b w hs hok hn h8 h hb
  · rw [if_neg (by omega), if_pos h]
    exact put_2 g s n b w hs hok hn h8 h

theorem nxts_take (s : Sp) (l : Bs) (k : Nat) (h : k < l.length) : nxts s (l.take (k + 1)) = nxt (nxts s (l.take k)) (l[k]?.getD 0#8).toNat := by
  rw [List.take_add_one, List.getElem?_eq_getElem h]
  exact nxts_snoc s (l.take k) l[k]

theorem sput_gives (g : Nat) (s : Sp) (n : Nat) (a : Option Addr) (m cap B : Nat) (l : Bs) (w : World) (hs : SpotIs g w s) (hok : Ok s n) (hn : n + m ≤ 1000000) (hl : Bytes w B a m l) (hB : B ≤ w.heap.size) (hne : 0 < m → ∀ p, a = some p → ¬ p.block = g) :
    Calls Try.prog 11 #[.pointer (some ⟨g, 0, none⟩), .slice a m cap] w (SGives g w (nxts s l)) := by
  have HS := Lib.hid hs
  have HK := Lib.hid hok
  have HL := Lib.hid (And.intro hl hne)
  clear hs hok hl hne
  have hm : m ≤ 1000000 := by omega
  go_enter Try.func11, Try.ntmps11
  go_wp2
  go_loopw [8] (fun i wr => ∃ k : Nat, k ≤ m ∧ i = .int .i64 k ∧ Only (fun b => b = g) w wr ∧ SpotIs g wr (nxts s (l.take k))) (fun i _ => m - (intOf i).toNat)
  case atStart => exact ⟨0, by omega, rfl, Only.refl _ _, HS.out⟩
  case round =>
    obtain ⟨k, hk, rfl, ho, hs⟩ := hrel
    have HO := Lib.hid ho
    have HS1 := Lib.hid hs
    clear ho hs
    by_cases hlt : k < m
    · have HLw := HL.out.1.only HO.out hB HL.out.2
      obtain ⟨hlen, hcl⟩ := HLw
      obtain ⟨bb, off, rfl, hbB, hc⟩ := hcl (by omega)
      have hc0 := hc k hlt
      have hkl : k < l.length := by omega
      have HT := Lib.hid (nxts_take s l k hkl)
      have h8 : (l[k]?.getD 0#8).toNat < 256 := (l[k]?.getD 0#8).isLt
      have HC := Lib.hid hlen
      clear hc hcl hlen
      generalize (l[k]?.getD 0#8).toNat = x at *
      go_wp2_with fail
      refine (put_any g _ (n + (l.take k).length) x wr HS1.out (HK.out.nxts _) (by rw [List.length_take]; omega) h8).mono ?_
      rw [← HT.out]
      rintro e w1 ⟨rfl, ho1, hs1⟩
      have HO1 := Lib.hid (And.intro ho1 hs1)
      clear ho1 hs1
      go_wp2
      go_roundw
      case rel => exact ⟨k + 1, by omega, by go_num, HO.out.trans HO1.out.1, HO1.out.2⟩
      case measure => simp [intOf]; omega
    · obtain rfl : k = m := by omega
      go_wp2
      exact bodyPost_ret (v := .tuple #[]) (by simp [results, Try.results11, go_sem]) rfl ⟨rfl, HO.out, by have := HS1.out; rwa [List.take_of_length_le (by have := HL.out.1.1; omega)] at this⟩

theorem sput_any (g : Nat) (s : Sp) (n : Nat) (a : Option Addr) (m cap B : Nat) (l : Bs) (w : World) (hs : SpotIs g w s) (hok : Ok s n) (hn : n + m ≤ 1000000) (hl : Bytes w B a m l) (hB : B ≤ w.heap.size) (hne : 0 < m → ∀ p, a = some p → ¬ p.block = g) :
    Calls Try.prog 11 #[.pointer (some ⟨g, 0, none⟩), .slice a m cap] w fun e w' => e = .returned (.tuple #[]) ∧ Only (fun b => b = g) w w' ∧ SpotIs g w' (nxts s l) :=
  sput_gives g s n a m cap B l w hs hok hn hl hB hne

theorem sat_any (g : Nat) (s : Sp) (n : Nat) (w : World) (hs : SpotIs g w s) (hok : Ok s n) (hn : n ≤ 1000000) :
    Calls Try.prog 13 #[.pointer (some ⟨g, 0, none⟩)] w fun e w' => e = .returned (.tuple #[.int .i64 s.c, .int .i64 s.r]) ∧ Below w.heap.size w w' := by
  obtain ⟨hl, a, b, hr, hx⟩ := hs
  have d0 : w.cell? ⟨g, 0, none⟩ = some (.complex .f64 a b) := hx.cell 0 _ rfl
  have hc1 := conv_i64 a s.c hr.1 hok.c0 (by have := hok.c1; have := hok.w1; omega)
  have hc2 := conv_i64 b s.r hr.2 hok.r0 (by have := hok.r1; omega)
  clear hl hr hx hok hn
  go_enter Try.func13, Try.ntmps13
  go_upto_region 1 with fail
  go_quiet (fail)
  go_wp2
  exact bodyPost_ret (v := .tuple #[.int .i64 s.c, .int .i64 s.r]) (by simp [results, Try.results13, go_sem]) rfl ⟨rfl, below_drewN (Below.refl _ _) _⟩

end Go.Proofs.Ytfehlmoghibamaa
