/- What the laws' own helpers of layer 3 answer: Bytes, Get, head. -/
import Derived.Test.YtlifnjihnppckaaGetw
import Derived.Laws.IdiomStrings
import Derived.Deep.RegionHeld3
import Derived.IntWalk
namespace Go.Proofs.Ytlifnjihnppckaa
open Go.RowKit
open Fr
open Crc (more)

theorem bytes_any (k : BitVec 8) (a : Option Addr) (m c B : Nat) (body : Bs) (w : World) (hl : Bytes w B a m body) (hB : B ≤ w.heap.size) (hm : m ≤ 60000) :
    Calls Try.prog 29 #[.int .u8 k.toNat, .slice a m c] w fun e w' => ∃ A c', e = .returned (.slice A (m + 5) c') ∧ Own w.heap.size w' A (m + 5) c' (fr k body) ∧ Below w.heap.size w w' := by
  have HL := Lib.hid hl
  clear hl
  go_enter Try.func29, Try.ntmps29
  go_wp2_with (first
    | (at_builtin
       refine wpList_put rfl (.tmp 19) (.tmp 20) rfl w.heap.size _ 3 3 [_, _, _] rfl (three_new w (BitVec.ofNat 8 ((m + 1) / 256)) (BitVec.ofNat 8 (m + 1)) k _ _ _ (num_hi (m + 1) (by omega)) (num_lo (m + 1)) rfl w.heap.size (Nat.le_refl _)) B a m c body rfl (HL.out.below ((Below.refl _ _).alloc hB _)) (by omega) (by simp) ?_
       intro A1 c1 w1 hown hbel
       have HO1 := Lib.hid hown
       have HB1 := Lib.hid (Below.trans ((Below.refl _ _).alloc (Nat.le_refl _) _) hbel)
       obtain ⟨g1, rfl, hg1, hgg1⟩ := hown.form (by omega)
       have hcap := hown.cap
       have hne : ¬ c1 = 2 := by omega
       clear hown hbel))
  have hby := HO1.out.bytes.cut2 (cap := c1) (j := 2) (by omega) hcap hne
  rw [Nat.zero_add] at hby
  have HBy := Lib.hid hby
  clear hby
  refine (lawof_any 0xffff#16 _ _ _ w1.heap.size (k :: body) w1 (by omega) HBy.out).mono ?_
  rintro e w2 ⟨rfl, rfl⟩
  have hs := sum_lt (k :: body)
  have hand := u16_and_nat (sum (k :: body)) 255 hs (by decide)
  rw [show (((255 : Nat)) : Int) = 255 from rfl, show sum (k :: body) &&& 255 = sum (k :: body) % 256 from Nat.and_two_pow_sub_one_eq_mod _ 8] at hand
  rw [show ((more 0xffff#16 (k :: body)).toNat) = sum (k :: body) from rfl]
  generalize hS : sum (k :: body) = S at *
  have HS := Lib.hid hS
  clear hS
  go_wp2_with (first
    | (at_builtin
       refine wpList_put rfl (.tmp 25) (.tmp 32) rfl w.heap.size _ (3 + m) c1 _ rfl (HO1.out.below ((Below.refl _ _).alloc (Nat.le_refl _) _)) (w1.heap.size + 1) (some ⟨w1.heap.size, 0, none⟩) 2 2 (num S) rfl (two_new w1 _ _ _ _ (num_hi S hs) (num_lo S)) (by omega) (by have := HB1.out.size; simp; omega) ?_
       intro A2 c2 w2 hown hbel
       have HO2 := Lib.hid hown
       have HB2 := Lib.hid (Below.trans (HB1.out.alloc HB1.out.size _) hbel)
       clear hown hbel))
  go_ret
  have hS := HS.out
  have h2 := HO2.out
  have hbl := HL.out.1
  rw [← hS, show [BitVec.ofNat 8 ((m + 1) / 256), BitVec.ofNat 8 (m + 1), k] ++ body ++ num (sum (k :: body)) = fr k body by simp [fr, pre, num, hbl], show 3 + m + 2 = m + 5 by omega] at h2
  exact ⟨A2, c2, slice_ret rfl (by omega) rfl, h2, HB2.out⟩

/-- what the law's own Get ends with -/
def LGives (B : Nat) (w : World) (g : Got) (e : Ending) (w' : World) : Prop :=
  ∃ A c, e = .returned (.tuple #[.int .u8 g.k.toNat, .slice A g.body.length c, .int .i64 g.n, .int .i64 g.err]) ∧ Bytes w' B A g.body.length g.body ∧ Below w.heap.size w w'

theorem lgives_no {B : Nat} {w w' : World} {l : Bs} {er : Nat} (h : err l = er) (he : er ≠ 0) (hb : Below w.heap.size w w') :
    LGives B w (get l) (.returned (.tuple #[.int .u8 0, .slice none 0 0, .int .i64 0, .int .i64 er])) w' := by
  rw [get_no h he]
  exact ⟨none, 0, rfl, Bytes.nil _, hb⟩

theorem lget_short (a : Option Addr) (n cap B : Nat) (l : Bs) (w : World) (hl : l.length = n) (hn : n < 2) :
    Calls Try.prog 24 #[.slice a n cap] w (LGives B w (get l)) := by
  have H := Lib.hid (err_short (l := l) (by omega))
  clear hl
  go_enter Try.func24, Try.ntmps24
  go_wp2
  refine bodyPost_ret (v := .tuple #[.int .u8 0, .slice none 0 0, .int .i64 0, .int .i64 (5 : Nat)]) (by simp [results, Try.results24, go_sem]) rfl (lgives_no H.out (by omega) (Below.refl _ _))

theorem lget_long (a : Option Addr) (n cap B : Nat) (l : Bs) (w : World) (hl : Bytes w B a n l) (hn : 2 ≤ n) (h : num2 l = 0 ∨ 2049 < num2 l) :
    Calls Try.prog 24 #[.slice a n cap] w (LGives B w (get l)) := by
  have H := Lib.hid (err_long (l := l) (by rw [hl.1]; omega) h)
  obtain ⟨b, off, rfl, hb, hcell⟩ := hl.2 (by omega)
  have hc0 := hcell 0 (by omega)
  have hc1 := hcell 1 (by omega)
  rw [Nat.add_zero] at hc0
  have hnum : Hid (256 * ((l[0]?.getD 0#8).toNat : Int) + ((l[1]?.getD 0#8).toNat : Int) = (num2 l : Nat)) := Lib.hid (by unfold num2; omega)
  have hlt := num2_lt l
  generalize num2 l = v at *
  generalize l[0]?.getD 0#8 = x0 at *
  generalize l[1]?.getD 0#8 = x1 at *
  have h8 := x0.isLt
  have h9 := x1.isLt
  have i0 : (0 : Int) < (n : Int) := by omega
  have i1 : (1 : Int) < (n : Int) := by omega
  clear hl hcell
  go_enter Try.func24, Try.ntmps24
  go_wp2
  go_quiet (fail)
  rw [hnum.out]
  clear hc0 hc1
  rcases h with rfl | h
  · go_wp2
    refine bodyPost_ret (v := .tuple #[.int .u8 0, .slice none 0 0, .int .i64 0, .int .i64 (6 : Nat)]) (by simp [results, Try.results24, go_sem]) rfl (lgives_no H.out (by omega) (below_drewN (Below.refl _ _) _))
  · have hv0 : decide ((v : Int) < 1) = false := by simp; omega
    have hv1 : decide (2049 < (v : Int)) = true := by simp; omega
    go_wp2
    refine bodyPost_ret (v := .tuple #[.int .u8 0, .slice none 0 0, .int .i64 0, .int .i64 (6 : Nat)]) (by simp [results, Try.results24, go_sem]) rfl (lgives_no H.out (by omega) (below_drewN (Below.refl _ _) _))

theorem lget_cut (a : Option Addr) (n cap B : Nat) (l : Bs) (w : World) (hl : Bytes w B a n l) (hn : 2 ≤ n) (hn2 : n ≤ 140737488355328) (h0 : 0 < num2 l) (h1 : num2 l ≤ 2049) (h2 : n < num2 l + 4) :
    Calls Try.prog 24 #[.slice a n cap] w (LGives B w (get l)) := by
  have H := Lib.hid (err_cut (l := l) (by rw [hl.1]; omega) h0 h1 (by rw [hl.1]; omega))
  obtain ⟨b, off, rfl, hb, hcell⟩ := hl.2 (by omega)
  have hc0 := hcell 0 (by omega)
  have hc1 := hcell 1 (by omega)
  rw [Nat.add_zero] at hc0
  have hnum : Hid (256 * ((l[0]?.getD 0#8).toNat : Int) + ((l[1]?.getD 0#8).toNat : Int) = (num2 l : Nat)) := Lib.hid (by unfold num2; omega)
  generalize num2 l = v at *
  generalize l[0]?.getD 0#8 = x0 at *
  generalize l[1]?.getD 0#8 = x1 at *
  have h8 := x0.isLt
  have h9 := x1.isLt
  have i0 : (0 : Int) < (n : Int) := by omega
  have i1 : (1 : Int) < (n : Int) := by omega
  clear hl hcell
  go_enter Try.func24, Try.ntmps24
  go_wp2
  go_quiet (fail)
  rw [hnum.out]
  clear hc0 hc1
  have hv0 : decide ((v : Int) < 1) = false := by simp; omega
  have hv1 : decide (2049 < (v : Int)) = false := by simp; omega
  go_wp2
  refine bodyPost_ret (v := .tuple #[.int .u8 0, .slice none 0 0, .int .i64 0, .int .i64 (5 : Nat)]) (by simp [results, Try.results24, go_sem]) rfl (lgives_no H.out (by omega) (below_drewN (Below.refl _ _) _))

theorem lget_rest (a : Option Addr) (n cap B : Nat) (l : Bs) (w : World) (hl : Bytes w B a n l) (hB : B ≤ w.heap.size) (hcap : n ≤ cap) (hn : n ≤ 140737488355328) (h0 : 0 < num2 l) (h1 : num2 l ≤ 2049) (h2 : num2 l + 4 ≤ n) :
    Calls Try.prog 24 #[.slice a n cap] w (LGives B w (get l)) := by
  have hfr := fr_of l h0 (by rw [hl.1]; exact h2)
  have HN := Lib.hid (fun h : fr (l[2]?.getD 0#8) ((l.drop 3).take (num2 l - 1)) ≠ l.take (num2 l + 4) => err_sum (l := l) h0 h1 (by rw [hl.1]; omega) (fun e => h (hfr.2 e)))
  have HY := Lib.hid (fun h : fr (l[2]?.getD 0#8) ((l.drop 3).take (num2 l - 1)) = l.take (num2 l + 4) => get_yes (err_ok (l := l) h0 h1 (by rw [hl.1]; omega) (hfr.1 h)))
  clear hfr
  obtain ⟨b, off, rfl, hb, hcell⟩ := hl.2 (by omega)
  have hk := hcell 2 (by omega)
  have hc0 := hcell 0 (by omega)
  have hc1 := hcell 1 (by omega)
  rw [Nat.add_zero] at hc0
  have HL := Lib.hid hl
  have hbd : Bytes w B (some ⟨b, off + 3, none⟩) (num2 l - 1) ((l.drop 3).take (num2 l - 1)) := by
    exact (hl.cut2 (j := 3) (by omega) hcap (by omega)).take (by omega)
  have hall : Bytes w B (some ⟨b, off, none⟩) (num2 l + 4) (l.take (num2 l + 4)) := hl.take h2
  have hnum : Hid (256 * ((l[0]?.getD 0#8).toNat : Int) + ((l[1]?.getD 0#8).toNat : Int) = (num2 l : Nat)) := Lib.hid (by unfold num2; omega)
  have hlb : ((l.drop 3).take (num2 l - 1)).length = num2 l - 1 := hbd.1
  generalize num2 l = v at *
  generalize (l.drop 3).take (v - 1) = body at *
  generalize l[2]?.getD 0#8 = kind at *
  generalize l[0]?.getD 0#8 = x0 at *
  generalize l[1]?.getD 0#8 = x1 at *
  generalize l.take (v + 4) = all at *
  have h8 := x0.isLt
  have h9 := x1.isLt
  have HBD := Lib.hid hbd
  have HA := Lib.hid hall
  have HLB := Lib.hid hlb
  have i0 : (0 : Int) < (n : Int) := by omega
  have i1 : (1 : Int) < (n : Int) := by omega
  have i2 : (2 : Int) < (n : Int) := by omega
  clear hl hbd hall hcell hlb
  go_enter Try.func24, Try.ntmps24
  go_wp2
  go_quiet (fail)
  rw [hnum.out]
  clear hc0 hc1
  have hv0 : decide ((v : Int) < 1) = false := by simp; omega
  have hv1 : decide (2049 < (v : Int)) = false := by simp; omega
  have hb1 := below_drewN (Below.refl w.heap.size w) nq
  have hbw : b < w.heap.size := by omega
  have HK1 := Lib.hid ((hb1.cell (p := ⟨b, off + 2, none⟩) hbw).trans hk)
  have HBD1 := Lib.hid (HBD.out.below (hb1.mono hB))
  have HA1 := Lib.hid (HA.out.below (hb1.mono hB))
  have HB1 := Lib.hid hb1
  have hB1 : B ≤ (w.drewN nq).heap.size := hB
  clear hk hb1 HBD HA HL
  generalize w.drewN nq = W at *
  have hk := HK1.out
  go_wp2
  refine region_tail 7 (by kernel_rfl) (by kernel_rfl) ?_
  intro W2 hW2
  have hk2 : W2.cell? ⟨b, off + 2, none⟩ = some (.int .u8 kind.toNat) := by rw [hW2]; exact hk
  have HBD2 := Lib.hid (show Bytes W2 B (some ⟨b, off + 3, none⟩) (v - 1) body by rw [hW2]; exact HBD1.out)
  have HA2 := Lib.hid (show Bytes W2 B (some ⟨b, off, none⟩) (v + 4) all by rw [hW2]; exact HA1.out)
  have HB2 := Lib.hid (show Below w.heap.size w W2 by rw [hW2]; exact below_drew HB1.out)
  have hB2 : B ≤ W2.heap.size := by rw [hW2]; exact hB1
  have HK := Lib.hid hk2
  clear hW2 hk HBD1 HA1 HB1 hB1 HK1
  have j1 : (3 : Int) ≤ 2 + (v : Int) := by omega
  have j3 : ¬ cap = 3 := by omega
  have j4 : IntKind.i64.wrap (2 + (v : Int)) = 2 + (v : Int) := IntWalk.i64_in _ (by omega)
  have j5 : (2 + (v : Int)).toNat = 2 + v := by omega
  have j6 : 2 + (v : Int) ≤ (cap : Int) := by omega
  simp only [List.take_succ_cons, List.take_zero, List.drop_succ_cons, List.drop_zero]
  repeat still_step
  refine wpStill_nil ?_
  show wpList _ _ _ _ _ _
  clear j1 j3 j4 j5 j6 hk2
  go_wp2_with fail
  rw [show 2 + v - 3 = v - 1 by omega]
  refine (bytes_any kind (some ⟨b, off + 3, none⟩) _ _ B body _ HBD2.out hB2 (by omega)).mono ?_
  rintro e w3 ⟨A3, c3, rfl, hown, hb3⟩
  have HB3 := Lib.hid (Below.trans HB2.out (hb3.mono HB2.out.size))
  have HW := Lib.hid hown.bytes
  have HBD3 := Lib.hid (HBD2.out.below (hb3.mono hB2))
  have HA3 := Lib.hid (HA2.out.below (hb3.mono hB2))
  have hk3 : w3.cell? ⟨b, off + 2, none⟩ = some (.int .u8 kind.toNat) := (hb3.cell (p := ⟨b, off + 2, none⟩) (by have := HB2.out.size; simp; omega)).trans HK.out
  clear hown hb3 HBD2 HA2
  have hcw := fun N => conv_str (cap := c3) (HW.out.keep (w' := w3.drewN N) (fun _ _ => rfl))
  have hca := fun N => conv_str (cap := cap) (HA3.out.keep (w' := w3.drewN N) (fun _ _ => rfl))
  by_cases hq : fr kind body = all
  · have HG := Lib.hid (HY.out hq)
    subst hq
    clear HY HN
    go_wp2
    go_quiet (fail)
    have hk4 : (w3.drewN nq).cell? ⟨b, off + 2, none⟩ = some (.int .u8 kind.toNat) := hk3
    have j1 : (3 : Int) ≤ 2 + (v : Int) := by omega
    have j3 : ¬ cap = 3 := by omega
    have j4 : IntKind.i64.wrap (2 + (v : Int)) = 2 + (v : Int) := IntWalk.i64_in _ (by omega)
    have j5 : (2 + (v : Int)).toNat = 2 + v := by omega
    have j6 : 2 + (v : Int) ≤ (cap : Int) := by omega
    have j7 : IntKind.i64.wrap ((v : Int) + 4) = (v : Int) + 4 := IntWalk.i64_in _ (by omega)
    have HB4 := Lib.hid (below_drewN HB3.out nq)
    have HBD4 := Lib.hid (HBD3.out.drewN nq)
    clear hcw hca hk3 HB3 HBD3
    generalize w3.drewN nq = w4 at *
    go_wp2
    go_quiet (fail)
    go_wp2
    refine bodyPost_ret (v := .tuple #[.int .u8 kind.toNat, .slice (some ⟨b, off + 3, none⟩) (v - 1) (cap - 3), .int .i64 (v + 4 : Nat), .int .i64 (0 : Nat)]) (by simp [results, Try.results24, go_sem]; omega) rfl ?_
    unfold LGives
    rw [HG.out]
    simp only [HLB.out]
    exact ⟨_, _, rfl, HBD4.out.drewN _, below_drewN HB4.out _⟩
  · have HG := Lib.hid (HN.out hq)
    have hne := str_ne hq
    clear hq HY HN
    go_wp2
    go_quiet (fail)
    go_wp2
    refine bodyPost_ret (v := .tuple #[.int .u8 0, .slice none 0 0, .int .i64 0, .int .i64 (7 : Nat)]) (by simp [results, Try.results24, go_sem]) rfl (lgives_no HG.out (by omega) (below_drewN HB3.out _))

theorem lget_any (a : Option Addr) (n cap B : Nat) (l : Bs) (w : World) (hl : Bytes w B a n l) (hB : B ≤ w.heap.size) (hcap : n ≤ cap) (hn : n ≤ 140737488355328) :
    Calls Try.prog 24 #[.slice a n cap] w (LGives B w (get l)) := by
  by_cases h : n < 2
  · exact lget_short a n cap B l w hl.1 h
  by_cases h2 : num2 l = 0 ∨ 2049 < num2 l
  · exact lget_long a n cap B l w hl (by omega) h2
  by_cases h3 : n < num2 l + 4
  · exact lget_cut a n cap B l w hl (by omega) hn (by omega) (by omega) h3
  · exact lget_rest a n cap B l w hl hB hcap hn (by omega) (by omega) (by omega)

/-- Get of a frame's bytes, with whatever behind -/
theorem get_yes_any (a : Option Addr) (n cap B : Nat) (k : BitVec 8) (body r : Bs) (m : Nat) (hm : body.length = m) (h2 : m ≤ 2048) (w : World) (hl : Bytes w B a n (fr k body ++ r)) (hB : B ≤ w.heap.size) (hcap : n ≤ cap) (hn : n ≤ 140737488355328) :
    Calls Try.prog 22 #[.slice a n cap] w fun e w' => ∃ A c, e = .returned (.tuple #[.agg #[.int .u8 k.toNat, .slice A m c], .int .i64 ((m : Int) + 5), .int .i64 0]) ∧ Bytes w' w'.heap.size A m body ∧ Below w.heap.size w w' := by
  subst hm
  refine (get_any a n cap B _ w hl hB hcap hn).mono ?_
  rintro e w' ⟨A, c, he, hb, hbel⟩
  rw [get_fr k body r h2] at he hb
  exact ⟨A, c, he, hb, hbel⟩

theorem get_no_any (a : Option Addr) (n cap B : Nat) (l : Bs) (er : Nat) (her : err l = er) (he0 : er ≠ 0) (w : World) (hl : Bytes w B a n l) (hB : B ≤ w.heap.size) (hcap : n ≤ cap) (hn : n ≤ 140737488355328) :
    Calls Try.prog 22 #[.slice a n cap] w fun e w' => ∃ A c, e = .returned (.tuple #[.agg #[.int .u8 0, .slice A 0 c], .int .i64 0, .int .i64 er]) ∧ Below w.heap.size w w' := by
  refine (get_any a n cap B _ w hl hB hcap hn).mono ?_
  rintro e w' ⟨A, c, he, hb, hbel⟩
  rw [get_no her he0] at he
  exact ⟨A, c, he, hbel⟩

/-- Put of a frame that can be written, its bytes counted -/
theorem put_eq (a : Option Addr) (n cap B : Nat) (l : Bs) (k : BitVec 8) (a2 : Option Addr) (m c2 : Nat) (body L : Bs) (N : Nat) (hN : n + m + 5 = N) (hL : l ++ fr k body = L) (w : World) (hl : Bytes w B a n l) (hl2 : Bytes w B a2 m body) (hB : B ≤ w.heap.size) (hn : n ≤ 1000000) (hm : m ≤ 2048) :
    Calls Try.prog 15 #[.slice a n cap, .agg #[.int .u8 k.toNat, .slice a2 m c2]] w fun e w' => ∃ A c, e = .returned (.slice A N c) ∧ Own w.heap.size w' A N c L ∧ Below w.heap.size w w' := by
  subst hN hL
  exact put_yes a n cap B l k a2 m c2 body w hl hl2 hB hn hm

end Go.Proofs.Ytlifnjihnppckaa
