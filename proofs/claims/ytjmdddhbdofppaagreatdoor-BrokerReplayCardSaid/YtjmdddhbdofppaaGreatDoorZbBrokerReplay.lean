/- BrokerReplay: for every input the law answers true, and its arguments read as before. Conditions: none. -/
import Derived.Test.YtjmdddhbdofppaaGreatDoorZb10
import Derived.Test.YtjmdddhbdofppaaGreatDoorZb23
import Derived.Test.YtjmdddhbdofppaaGreatDoorZb42
import Derived.Test.YtjmdddhbdofppaaGreatDoorZbIta
import Derived.Test.YtjmdddhbdofppaaGreatDoorZbQj

namespace Go.Proofs.YtjmdddhbdofppaaGreatDoor.brokerReplay
open Go.ChangeShapes Go.WideShapes Go.ChangeAt Go.RowKit
open Fr Bk
theorem rpOut_ok {t : Bs} (ht : t.length ≤ 400) (q : Nat) : ∀ m ∈ (if min q t.length = 0 then [] else [dataM (t.length - min q t.length) (t.drop (t.length - min q t.length))] : List M), m.ok = true := by
  intro m hm
  split at hm
  · cases hm
  · rw [List.mem_singleton.1 hm]
    unfold M.ok dataM
    rw [Ms.rt_iff]
    refine ⟨rfl, ?_, rfl, ?_⟩
    · show Ms.okN (((t.length - min q t.length : Nat)) : Int) true = true
      unfold Ms.okN; simp; omega
    · show (t.drop _).length ≤ 2042
      rw [List.length_drop]; omega
theorem esc_replay (q : Nat) : str ([29#8, 58#8, 114#8, 101#8, 112#8, 108#8, 97#8, 121#8, 32#8] ++ Dgs.dgs q ++ [10#8]) = str (esc (Orm.tx 10 (q : Int))) := by
  unfold esc Orm.tx
  rw [if_neg (by decide), show ((q : Nat) : Int).toNat = q by omega]
  rfl
theorem rp_ev (t : Bs) (ht : t.length ≤ 400) (q : Nat) (hq : q ≤ 1000) : EvOk rp1 0 2076 0 ∧ EvOk (outputB rp1 t) 0 2076 400 ∧ EvOk (Bk.lone (rpB t) 1 (rpC t)) 0 2076 400 ∧ EvOk (rp4 t q) 0 5000 400 := by
  have h1 : EvOk rp1 0 2076 0 := by rw [← rp1_is]; exact dn1_ev
  have h2 : EvOk (outputB rp1 t) 0 2076 400 := (h1.output t (by omega)) |> fun h => ⟨h.ok, h.cn, h.tot, Nat.le_trans h.len (by omega), h.sp⟩
  have h3 : EvOk (Bk.lone (rpB t) 1 (rpC t)) 0 2076 400 := by rw [← (rp3 ht).1]; exact h2.write 1 5000
  refine ⟨h1, h2, h3, ?_⟩
  have h4 := h3.bytes 1 (enc (keys 1 (esc (Orm.tx 10 (q : Int)))))
  refine ⟨h4.ok, h4.cn, Nat.le_trans h4.tot ?_, h4.len, h4.sp⟩
  have hr : Orm.Rt 10 (q : Nat) := ⟨by decide, by decide, by omega, by omega, fun h => absurd h (by decide)⟩
  have := Orm.tx_len hr
  rw [enc_len5]
  show 2076 + 2052 + (6 * 1 + (esc (Orm.tx 10 (q : Int))).length + 5) ≤ 5000
  unfold esc
  simp only [List.length_append, List.length_cons, List.length_nil]
  omega
set_option maxRecDepth 100000 in
set_option maxHeartbeats 1000000 in
theorem walk (a0 : Option Addr) (len0 cap0 : Nat) (z0 : List Int) (a1 : Int) (w : World) (w0 : IsRow .u8 w a0 len0 cap0 z0) (w1 : (Lit.int .i64 a1).wf = true) (ht : TI w) :
    Calls Tryz.prog 17 #[.slice a0 len0 cap0, .int .i64 a1] w fun e w' => e = .returned (.bool true) ∧ Below w.heap.size w w' := by
  have hmix : Tryz.prog.follows .mixedOrders = true := by kernel_rfl
  obtain ⟨q, hq, hand⟩ := bits_any a1 511 (by decide)
  have hand : bits .and .i64 a1 511 = (q : Int) := hand
  obtain ⟨t, hl, _⟩ := w0.bytes
  obtain ⟨hcap, hmax⟩ := w0.cap
  have hlen : t.length = len0 := hl.1
  have HL := Lib.hid hl
  have HTI := Lib.hid ht
  have hid1 : wf64 1 := by decide
  have HA1 := Lib.hid w1
  clear hl w0 w1 ht hmax HA1
  go_enter Tryz.func17, Tryz.ntmps17
  go_wp2_with fail
  refine (bhead_any w HTI.out).mono ?_
  rintro e w1 ⟨rfl, hb1⟩
  have HB1 := Lib.hid hb1
  clear hb1
  by_cases h400 : 400 < len0
  · have hd0 : decide ((len0 : Int) > 400) = true := by simp; omega
    have hd1 : decide (400 < (len0 : Int)) = true := by simp; omega
    go_wp2
    go_ret
    exact ⟨rfl, HB1.out⟩
  have ht4 : t.length ≤ 400 := by omega
  have hd0 : decide ((len0 : Int) > 400) = false := by simp; omega
  have hd1 : decide (400 < (len0 : Int)) = false := by simp; omega
  have HEV := Lib.hid (rp_ev t ht4 q (by omega))
  go_wp2_with fail
  refine (default_any _).mono ?_
  rintro e w2 ⟨rfl, hb2⟩
  have HB2 := Lib.hid (Below.trans HB1.out (hb2.mono HB1.out.size))
  clear hb2
  go_wp2_with fail
  refine (lb_new cfd_right w2 (HTI.out.below HB2.out)).mono ?_
  rintro e w3 ⟨g, rfl, hl3, hb3⟩
  have HL3 := Lib.hid hl3
  have HB3 := Lib.hid (Below.trans HB2.out (hb3.mono HB2.out.size))
  have hn0 : w.heap.size ≤ w2.heap.size := HB2.out.size
  clear hl3 hb3
  generalize w2.heap.size = n0 at *
  obtain ⟨k1, k2, k3⟩ := idle_hello 0
  go_wp2_with fail
  refine (lb_connect HL3.out cfd_ok.ok 1 hid1).mono ?_
  rintro e w4 ⟨rfl, hl4, hb4⟩
  have HL4 := Lib.hid hl4
  have HB4 := Lib.hid (Below.trans HB3.out (hb4.mono hn0))
  clear hl4 hb4
  go_wp2_with fail
  refine (lhello_any [97#8] (by decide) w4).mono ?_
  rintro e w5 ⟨A5, c5, rfl, hy5, hn5, _, hb5⟩
  have HW5 := Lib.hid (LAway.made (n := (enc (helloM [97#8])).length) HL4.out hb5 hn5)
  have HY5 := Lib.hid hy5
  have HB5 := Lib.hid (Below.trans HB4.out (hb5.mono HB4.out.size))
  clear hy5 hn5 hb5
  go_wp2_with fail
  refine (lb_bytes HW5.out (cfd_ok.connect 1) (by decide) 1 hid1 c5 HY5.out (by rw [enc_len5]; decide)).mono ?_
  rintro e w6 ⟨rfl, hl6, hb6⟩
  have HL6 := Lib.hid (show LBx n0 g w6 rp1 by rw [← rp1_is]; exact hl6)
  have HB6 := Lib.hid (Below.trans HB5.out (hb6.mono hn0))
  clear hl6 hb6 HL3 HL4 HW5 HY5 HB3 HB4 HB5 k1 k2 k3
  have HA0 := Lib.hid (show 0 < len0 → ∀ p, a0 = some p → p.block < n0 from fun hp p e => by
    obtain ⟨b, off, e2, hlt, _⟩ := HL.out.2 hp
    rw [e] at e2
    injection e2 with e2
    subst e2
    show b < n0
    omega)
  go_wp2_with fail
  refine (lb_output (LAway.old HL6.out HA0.out) HEV.out.1 (HL.out.below HB6.out) HB6.out.size hcap (by omega)).mono ?_
  rintro e w7 ⟨rfl, hl7, hb7⟩
  have HL7 := Lib.hid hl7
  have HB7 := Lib.hid (Below.trans HB6.out (hb7.mono hn0))
  clear hl7 hb7 HL6 HB6
  go_wp2_with fail
  refine (lb_write HL7.out HEV.out.2.1.ok 1 5000 hid1).mono ?_
  rintro e w8 ⟨A8, m8, c8, rfl, hl8, hb8, _, _, _⟩
  rw [(rp3 ht4).1] at hl8
  have HL8 := Lib.hid hl8
  have HB8 := Lib.hid (Below.trans HB7.out (hb8.mono hn0))
  clear hl8 hb8 HL7 HB7
  go_wp2_with fail
  refine (itoa_full (q : Int) (by omega) (by omega) w8 (HTI.out.below HB8.out)).mono ?_
  rintro e w9 ⟨rfl, hb9⟩
  have HL9 := Lib.hid (HL8.out.below hb9)
  have HB9 := Lib.hid (Below.trans HB8.out (hb9.mono HB8.out.size))
  clear hb9 HL8
  have hes := esc_replay q
  have htn : ((q : Nat) : Int).toNat = q := by omega
  rw [htn]
  have HT10 := Lib.hid (fun W => ltyped_any 1 (esc (Orm.tx 10 (q : Int))) (by decide) (by decide) (by
    have hr : Orm.Rt 10 (q : Nat) := ⟨by decide, by decide, by omega, by omega, fun h => absurd h (by decide)⟩
    have := Orm.tx_len hr
    unfold esc
    simp only [List.length_append, List.length_cons, List.length_nil]
    omega) W)
  have hes2 : (⟨#[29, 58, 114, 101, 112, 108, 97, 121, 32]⟩ : ByteArray) ++ str (Dgs.dgs q) ++ ⟨#[10]⟩ = str (esc (Orm.tx 10 (q : Int))) := by
    rw [← hes, str_app, str_app]
    rfl
  have hz1 : (str (Dgs.dgs q)).size ≤ 4 := by rw [str_size]; exact Dgs.dgs_len q 3 (by show q < 10000; omega)
  clear hes htn
  go_wp2_with fail
  refine (HT10.out _).mono ?_
  rintro e w10 ⟨A10, c10, rfl, hy10, hn10, _, hb10⟩
  have HW10 := Lib.hid (LAway.made (n := (enc (keys 1 (esc (Orm.tx 10 (q : Int))))).length) HL9.out hb10 hn10)
  have HY10 := Lib.hid hy10
  have HB10 := Lib.hid (Below.trans HB9.out (hb10.mono HB9.out.size))
  have hel : (enc (keys 1 (esc (Orm.tx 10 (q : Int))))).length ≤ 1000000 := by
    have hr : Orm.Rt 10 (q : Nat) := ⟨by decide, by decide, by omega, by omega, fun h => absurd h (by decide)⟩
    have := Orm.tx_len hr
    rw [enc_len5]
    show 6 * 1 + (esc (Orm.tx 10 (q : Int))).length + 5 ≤ 1000000
    unfold esc
    simp only [List.length_append, List.length_cons, List.length_nil]
    omega
  clear hy10 hn10 hb10 HL9 HB9 HT10
  go_wp2_with fail
  refine (lb_bytes HW10.out HEV.out.2.2.1 (by decide) 1 hid1 c10 HY10.out hel).mono ?_
  rintro e w11 ⟨rfl, hl11, hb11⟩
  have HL11 := Lib.hid (show LBx n0 g w11 (rp4 t q) from hl11)
  have HB11 := Lib.hid (Below.trans HB10.out (hb11.mono hn0))
  clear hl11 hb11 HW10 HY10 HB10 hel
  go_wp2_with fail
  refine (lb_write HL11.out HEV.out.2.2.2.ok 1 5000 hid1).mono ?_
  rintro e w12 ⟨A12, m12, c12, rfl, hl12, hb12, hy12, hc12, hn12⟩
  have h5 := (rp5 ht4 (back := q) (by omega)).1
  rw [h5] at hy12
  have HB12 := Lib.hid (Below.trans HB11.out (hb12.mono hn0))
  obtain ⟨p, hp⟩ : ∃ p, min q t.length = p := ⟨_, rfl⟩
  have hok := rpOut_ok ht4 q
  rw [hp] at hy12 hok
  have hm12 : m12 ≤ 1000000000 := by
    have := hy12.1
    have h9 : (encs (if p = 0 then [] else [dataM (t.length - p) (t.drop (t.length - p))])).length ≤ 1000 := by
      split
      · exact Nat.zero_le _
      · rw [encs_one, data_len, List.length_drop]; omega
    omega
  have HMs := Lib.hid (lmessages_any _ hok w12 hy12 (Nat.le_refl _) hc12 hm12)
  clear hl12 hb12 hy12 hc12 hn12 hm12 hok h5 HL11 HB11
  have hpq : p ≤ q ∧ p ≤ t.length := by omega
  have hmin : min (q : Int) (len0 : Int) = (p : Int) := by omega
  by_cases hp0 : p = 0
  · rw [if_pos hp0] at HMs
    go_wp2_with fail
    refine HMs.out.mono ?_
    rintro e w13 ⟨R, rc, rfl, hrow, hb13⟩
    have HB13 := Lib.hid (Below.trans HB12.out (hb13.mono HB12.out.size))
    subst hp0
    go_wp2
    exact bodyPost_ret (v := .bool true) (by simp [results, Tryz.results17, go_sem]) rfl ⟨rfl, HB13.out⟩
  · rw [if_neg hp0] at HMs
    go_wp2_with fail
    refine HMs.out.mono ?_
    rintro e w13 ⟨R, rc, rfl, hrow, hb13⟩
    have HB13 := Lib.hid (Below.trans HB12.out (hb13.mono HB12.out.size))
    rw [show [dataM (t.length - p) (t.drop (t.length - p))].length = 1 from rfl]
    obtain ⟨rb, off, rfl, left9, hcell⟩ := hrow.msin.outer (by simp)
    obtain ⟨y0', y1', y2', y3'⟩ := msg_cells (hcell 0 (dataM (t.length - p) (t.drop (t.length - p))) rfl) (o := off) (by omega)
    replace y0' : w13.cell? ⟨rb, off, none⟩ = some (.int .i64 6) := y0'
    replace y1' : w13.cell? ⟨rb, off + 1, none⟩ = some (.int .i64 ((t.length - p : Nat) : Int)) := y1'
    replace y2' : w13.cell? ⟨rb, off + 2, none⟩ = some (.int .i64 0) := y2'
    replace y3' : w13.cell? ⟨rb, off + 3, none⟩ = some (.string (str (t.drop (t.length - p)))) := y3'
    have dp : ((p : Int) == 0) = false := by simp; omega
    have hsub : ((len0 : Int) - (p : Int)) = ((len0 - p : Nat) : Int) := by omega
    have hcut := (HL.out.below HB13.out).cut (k := len0 - p) (by omega) hcap
    rw [hlen] at y1' y3'
    have hcv := fun W (hW : Below w13.heap.size w13 W) => conv_str (cap := cap0 - (len0 - p)) (hcut.below (hW.mono HB13.out.size))
    clear hrow hb13 hcell
    clear HMs hes2 hz1 hcut
    have HCv := Lib.hid hcv
    have hsr : ((str (t.drop (len0 - p))).toList == (str (t.drop (len0 - p))).toList) = true := by simp
    have HY := Lib.hid (And.intro y0' (And.intro y1' (And.intro y2' y3')))
    have hrb := left9
    clear hcv y0' y1' y2' y3'
    go_wp2_with fail
    refine wp_region_held (S := fun W => Below w13.heap.size w13 W) hmix ?_
    change wpAnyH _ _ _ _ _ _ _ _ (World.drew _)
    have hS0 : Below w13.heap.size w13 w13.drew := below_drew (Below.refl _ _)
    refine wpAnyH_take (i := 0) (v := .bool true) rfl (by kernel_rfl) (by kernel_rfl) (by kernel_rfl) (fun _ _ _ h => h) (.inl ⟨by kernel_rfl, fun W hW => ?_⟩) hS0 ?_
    · go_simp; try (first | exact IntWalk.i64_in _ (by omega) | rfl | (intro hh; exfalso; omega))
    refine wpAnyH_take (i := 1) (v := .bool true) rfl (by kernel_rfl) (by kernel_rfl) (by kernel_rfl) (fun _ _ _ h => h) (.inl ⟨by kernel_rfl, fun W hW => ?_⟩) hS0 ?_
    · go_simp; try (first | exact IntWalk.i64_in _ (by omega) | rfl | (intro hh; exfalso; omega))
    refine wpAnyH_take (i := 2) (v := .slice (some ⟨rb, off, none⟩) 1 rc) rfl (by kernel_rfl) (by kernel_rfl) (by kernel_rfl) (fun _ _ _ h => h) (.inl ⟨by kernel_rfl, fun W hW => ?_⟩) hS0 ?_
    · go_simp; try (first | exact IntWalk.i64_in _ (by omega) | rfl | (intro hh; exfalso; omega))
    refine wpAnyH_take (i := 3) (v := .int .i64 1) rfl (by kernel_rfl) (by kernel_rfl) (by kernel_rfl) (fun _ _ _ h => h) (.inl ⟨by kernel_rfl, fun W hW => ?_⟩) hS0 ?_
    · go_simp; try (first | exact IntWalk.i64_in _ (by omega) | rfl | (intro hh; exfalso; omega))
    refine wpAnyH_take (i := 4) (v := .bool true) rfl (by kernel_rfl) (by kernel_rfl) (by kernel_rfl) (fun _ _ _ h => h) (.inl ⟨by kernel_rfl, fun W hW => ?_⟩) hS0 ?_
    · go_simp; try (first | exact IntWalk.i64_in _ (by omega) | rfl | (intro hh; exfalso; omega))
    refine wpAnyH_take (i := 5) (v := .bool true) rfl (by kernel_rfl) (by kernel_rfl) (by kernel_rfl) (fun _ _ _ h => h) (.inl ⟨by kernel_rfl, fun W hW => ?_⟩) hS0 ?_
    · go_simp; try (first | exact IntWalk.i64_in _ (by omega) | rfl | (intro hh; exfalso; omega))
    refine wpAnyH_take (i := 6) (v := .bool true) rfl (by kernel_rfl) (by kernel_rfl) (by kernel_rfl) (fun _ _ _ h => h) (.inl ⟨by kernel_rfl, fun W hW => ?_⟩) hS0 ?_
    · go_simp; try (first | exact IntWalk.i64_in _ (by omega) | rfl | (intro hh; exfalso; omega))
    refine wpAnyH_take (i := 7) (v := .slice (some ⟨rb, off, none⟩) 1 rc) rfl (by kernel_rfl) (by kernel_rfl) (by kernel_rfl) (fun _ _ _ h => h) (.inl ⟨by kernel_rfl, fun W hW => ?_⟩) hS0 ?_
    · go_simp; try (first | exact IntWalk.i64_in _ (by omega) | rfl | (intro hh; exfalso; omega))
    refine wpAnyH_take (i := 8) (v := .pointer (some ⟨rb, off, none⟩)) rfl (by kernel_rfl) (by kernel_rfl) (by kernel_rfl) (fun _ _ _ h => h) (.inl ⟨by kernel_rfl, fun W hW => ?_⟩) hS0 ?_
    · go_simp; try (first | exact IntWalk.i64_in _ (by omega) | rfl | (intro hh; exfalso; omega))
    refine wpAnyH_take (i := 9) (v := .agg #[.int .i64 6, .int .i64 ((len0 - p : Nat) : Int), .int .i64 0, .string (str (t.drop (len0 - p)))]) rfl (by kernel_rfl) (by kernel_rfl) (by kernel_rfl) (fun _ _ _ h => h) (.inl ⟨by kernel_rfl, fun W hW => ?_⟩) hS0 ?_
    · have hb9 : Below w13.heap.size w13 W := hW; have l0 := (hb9.cell (p := ⟨rb, off, none⟩) hrb).trans HY.out.1; have l1 := (hb9.cell (p := ⟨rb, off + 1, none⟩) hrb).trans HY.out.2.1; have l2 := (hb9.cell (p := ⟨rb, off + 2, none⟩) hrb).trans HY.out.2.2.1; have l3 := (hb9.cell (p := ⟨rb, off + 3, none⟩) hrb).trans HY.out.2.2.2; go_simp; try (first | exact IntWalk.i64_in _ (by omega) | rfl | (intro hh; exfalso; omega))
    refine wpAnyH_take (i := 10) (v := .slice a0 len0 cap0) rfl (by kernel_rfl) (by kernel_rfl) (by kernel_rfl) (fun _ _ _ h => h) (.inl ⟨by kernel_rfl, fun W hW => ?_⟩) hS0 ?_
    · go_simp; try (first | exact IntWalk.i64_in _ (by omega) | rfl | (intro hh; exfalso; omega))
    refine wpAnyH_take (i := 11) (v := .int .i64 (len0 : Nat)) rfl (by kernel_rfl) (by kernel_rfl) (by kernel_rfl) (fun _ _ _ h => h) (.inl ⟨by kernel_rfl, fun W hW => ?_⟩) hS0 ?_
    · go_simp; try (first | exact IntWalk.i64_in _ (by omega) | rfl | (intro hh; exfalso; omega))
    refine wpAnyH_take (i := 12) (v := .int .i64 (p : Nat)) rfl (by kernel_rfl) (by kernel_rfl) (by kernel_rfl) (fun _ _ _ h => h) (.inl ⟨by kernel_rfl, fun W hW => ?_⟩) hS0 ?_
    · go_simp; try (first | exact IntWalk.i64_in _ (by omega) | rfl | (intro hh; exfalso; omega))
    refine wpAnyH_take (i := 13) (v := .int .i64 ((len0 - p : Nat) : Int)) rfl (by kernel_rfl) (by kernel_rfl) (by kernel_rfl) (fun _ _ _ h => h) (.inl ⟨by kernel_rfl, fun W hW => ?_⟩) hS0 ?_
    · go_simp; try (first | exact IntWalk.i64_in _ (by omega) | rfl | (intro hh; exfalso; omega))
    refine wpAnyH_take (i := 14) (v := .slice a0 len0 cap0) rfl (by kernel_rfl) (by kernel_rfl) (by kernel_rfl) (fun _ _ _ h => h) (.inl ⟨by kernel_rfl, fun W hW => ?_⟩) hS0 ?_
    · go_simp; try (first | exact IntWalk.i64_in _ (by omega) | rfl | (intro hh; exfalso; omega))
    refine wpAnyH_take (i := 15) (v := .slice a0 len0 cap0) rfl (by kernel_rfl) (by kernel_rfl) (by kernel_rfl) (fun _ _ _ h => h) (.inl ⟨by kernel_rfl, fun W hW => ?_⟩) hS0 ?_
    · go_simp; try (first | exact IntWalk.i64_in _ (by omega) | rfl | (intro hh; exfalso; omega))
    refine wpAnyH_take (i := 16) (v := .int .i64 (len0 : Nat)) rfl (by kernel_rfl) (by kernel_rfl) (by kernel_rfl) (fun _ _ _ h => h) (.inl ⟨by kernel_rfl, fun W hW => ?_⟩) hS0 ?_
    · go_simp; try (first | exact IntWalk.i64_in _ (by omega) | rfl | (intro hh; exfalso; omega))
    refine wpAnyH_take (i := 17) (v := .int .i64 (p : Nat)) rfl (by kernel_rfl) (by kernel_rfl) (by kernel_rfl) (fun _ _ _ h => h) (.inl ⟨by kernel_rfl, fun W hW => ?_⟩) hS0 ?_
    · go_simp; try (first | exact IntWalk.i64_in _ (by omega) | rfl | (intro hh; exfalso; omega))
    refine wpAnyH_take (i := 18) (v := .int .i64 ((len0 - p : Nat) : Int)) rfl (by kernel_rfl) (by kernel_rfl) (by kernel_rfl) (fun _ _ _ h => h) (.inl ⟨by kernel_rfl, fun W hW => ?_⟩) hS0 ?_
    · go_simp; try (first | exact IntWalk.i64_in _ (by omega) | rfl | (intro hh; exfalso; omega))
    refine wpAnyH_take (i := 19) (v := .slice (cutA a0 cap0 (len0 - p)) (len0 - (len0 - p)) (cap0 - (len0 - p))) rfl (by kernel_rfl) (by kernel_rfl) (by kernel_rfl) (fun _ _ _ h => h) (.inl ⟨by kernel_rfl, fun W hW => ?_⟩) hS0 ?_
    · go_simp; try (first | exact IntWalk.i64_in _ (by omega) | rfl | (intro hh; exfalso; omega))
    refine wpAnyH_take (i := 20) (v := .string (str (t.drop (len0 - p)))) rfl (by kernel_rfl) (by kernel_rfl) (by kernel_rfl) (fun _ _ _ h => h) (.inl ⟨by kernel_rfl, fun W hW => ?_⟩) hS0 ?_
    · have hcv := HCv.out W hW; go_simp; try (first | exact IntWalk.i64_in _ (by omega) | rfl | (intro hh; exfalso; omega))
    refine wpAnyH_take (i := 21) (v := .agg #[.int .i64 6, .int .i64 ((len0 - p : Nat) : Int), .int .i64 0, .string (str (t.drop (len0 - p)))]) rfl (by kernel_rfl) (by kernel_rfl) (by kernel_rfl) (fun _ _ _ h => h) (.inl ⟨by kernel_rfl, fun W hW => ?_⟩) hS0 ?_
    · go_simp; try (first | exact IntWalk.i64_in _ (by omega) | rfl | (intro hh; exfalso; omega))
    refine wpAnyH_take (i := 22) (v := .bool true) rfl (by kernel_rfl) (by kernel_rfl) (by kernel_rfl) (fun _ _ _ h => h) (.inl ⟨by kernel_rfl, fun W hW => ?_⟩) hS0 ?_
    · go_simp; try (first | exact IntWalk.i64_in _ (by omega) | rfl | (intro hh; exfalso; omega))
    refine wpAnyH_take (i := 23) (v := .bool true) rfl (by kernel_rfl) (by kernel_rfl) (by kernel_rfl) (fun _ _ _ h => h) (.inl ⟨by kernel_rfl, fun W hW => ?_⟩) hS0 ?_
    · go_simp; try (first | exact IntWalk.i64_in _ (by omega) | rfl | (intro hh; exfalso; omega))
    refine wpAnyH_take (i := 24) (v := .bool true) rfl (by kernel_rfl) (by kernel_rfl) (by kernel_rfl) (fun _ _ _ h => h) (.inl ⟨by kernel_rfl, fun W hW => ?_⟩) hS0 ?_
    · go_simp; try (first | exact IntWalk.i64_in _ (by omega) | rfl | (intro hh; exfalso; omega))
    refine wpAnyH_done (by kernel_rfl) ?_ _
    go_simp
    go_wp2
    exact bodyPost_ret (v := .bool true) (by simp [results, Tryz.results17, go_sem]) rfl ⟨rfl, below_drew HB13.out⟩
theorem w_in : Tryz.checked.prog.inits.idxOf? 17 = none := by kernel_rfl
theorem w_ok (os : Os) : Input.okWideB Tryz.prog ((World.doorLaid Tryz.prog 400 os).forCall (fun _ _ => 0) ⟨#[], #[.slice none 0 0, .int .i64 0], []⟩) 17 ⟨#[], #[.slice none 0 0, .int .i64 0], []⟩ = true := by kernel_rfl
theorem w_pre (os : Os) (H : Type) (enc : TypeId × Value → H) : Rows.brokerReplaySpec.preB enc Tryz.prog Tryz.f17 [] false ((World.doorLaid Tryz.prog 400 os).forCall (fun _ _ => 0) ⟨#[], #[.slice none 0 0, .int .i64 0], []⟩).memory #[.slice none 0 0, .int .i64 0] 8 = true := by kernel_rfl
theorem w_sz (os : Os) (H : Type) (enc : TypeId × Value → H) : Rows.brokerReplaySpec.sizedB enc Tryz.prog Tryz.f17 false ((World.doorLaid Tryz.prog 400 os).forCall (fun _ _ => 0) ⟨#[], #[.slice none 0 0, .int .i64 0], []⟩).memory #[.slice none 0 0, .int .i64 0] 8 = true := by kernel_rfl
set_option maxRecDepth 100000 in
theorem lifted (os : Os) (started : os.Started) (H : Type) (enc : TypeId × Value → H) :
    ReturnsInHanded {} Tryz.checked os 17 .any (fun w args => (Rows.brokerReplaySpec.pre enc Tryz.prog Tryz.f17 [] false w args ∧ laidMetH Tryz.prog laidL w) ∧ sizedMet enc Tryz.prog Tryz.f17 (OpenSpec.ofChange Rows.brokerReplaySpec) false w args)
      (Rows.brokerReplaySpec.post enc Tryz.prog Tryz.f17 false true false false) := by
  refine returnsInHanded_of_change_and (C := Tryz.checked) (X := fun w _ => laidMetH Tryz.prog laidL w) (fun _ _ _ hh h => h.of_heap hh) own started w_in Tryz.func17
    (ChangeSpec.witness_shaped (enc := enc) (C := Tryz.checked) (os := os) (X := fun w _ => laidMetH Tryz.prog laidL w) false (World.doorLaid Tryz.prog 400 os) #[.slice none 0 0, .int .i64 0] 8 rfl (door_shaped os _) (w_ok os) (w_pre os H enc) (w_sz os H enc) (door_met os _)) ?_
  intro W base args ds gs before hval0 hW hcnd hsz0 hL _
  have hti := ti_of hL
  have hval : ∀ (j : Nat) t v, Tryz.f17.params[j]? = some t → args[j]? = some v → Value.okWide Tryz.prog W .any base t v := hval0
  have hW' := hW
  obtain ⟨p, q, hA0, hV, rfl, hfz, hnd⟩ := hW
  have hsz : (DataW.weightsEach Tryz.prog (Tryz.f17.params.toList ++ Rows.brokerReplaySpec.plain.varTypes Tryz.prog) (ds ++ gs)).all (· ≤ reachBytes) = true := hsz0
  have hA : DataW.TrodAll enc Tryz.prog W 0 (fun _ => true) true Tryz.f17.params.toList args.toList ds p := hA0
  rw [Tryz.params17] at hA hval hsz
  obtain ⟨v0, vs0, d0, ds0, p0, q0, hargs, rfl, rfl, h0, r0⟩ := trodAll_cons hA
  obtain ⟨v1, vs1, d1, ds1, p1, q1, rfl, rfl, rfl, h1, r1⟩ := trodAll_cons r0
  obtain ⟨rfl, rfl, rfl⟩ := trodAll_nil r1
  obtain rfl : args = #[v0, v1] := by cases args; simp_all
  obtain ⟨rfl, rfl⟩ := trodVars_none hV
  obtain ⟨a0, len0, cap0, rfl⟩ := okWide_slice Tryz.underlying32 (hval 0 32 v0 rfl rfl)
  have k0 := h0
  have lt0 : ∀ x ∈ p0, x.block < W.heap.size := by obtain ⟨m, hm⟩ := k0; exact DataW.trod_lt m _ _ _ hm
  obtain ⟨z0, w0⟩ : ∃ zs, IsRow .u8 W a0 len0 cap0 zs := by
    obtain ⟨fuel, hf⟩ := h0
    exact open_brow hf
  obtain ⟨a1, rfl, rfl, rfl, w1⟩ := open_int Tryz.underlying3 (hval 1 3 v1 rfl rfl) h1
  clear hA0 hval0 hsz hsz0
  refine (walk a0 len0 cap0 z0 a1 W w0 w1 hti).mono fun e W' ⟨he, bel⟩ => ?_
  subst he
  exact ⟨_, rfl, _, _, _, [], _, [], hW', trodAll_mk1 (shut_bool Tryz.underlying4 _), (trodAll_cons_mk (Below.trod laidOut (by kernel_rfl) (of_decide_eq_true (by kernel_rfl)) k0 bel lt0) (trodAll_cons_mk (shut_int Tryz.underlying3 w1) trodAll_mk0)), rfl, bel.frame _, fun h => by cases h⟩
theorem q0 : (Rows.brokerReplayRow.wf (OpenSpec.ofChange Rows.brokerReplaySpec)) = true := by kernel_rfl
theorem q3 : (Tryz.f17.params.all (Tryz.prog.readableRec ·)) = true := by kernel_rfl
theorem q4 : (namedTie Tryz.prog Rows.brokerReplayRow.named Rows.brokerReplaySpec.vars) = true := by kernel_rfl
theorem q5 : ((Rows.brokerReplayRow.stops == [])) = true := by kernel_rfl
theorem q7 : ((Rows.brokerReplayRow.knobs == [])) = true := by kernel_rfl
theorem q9 : ((Rows.brokerReplayRow.inPlace == Tryz.prog.inPlace 17)) = true := by kernel_rfl
theorem q10 : ((Rows.brokerReplayRow.unfollowed == Tryz.prog.unfollowed 17)) = true := by kernel_rfl
theorem q11 : ((Rows.brokerReplayRow.recurses == Tryz.prog.recurses 17)) = true := by kernel_rfl
theorem q12 : ((Rows.brokerReplayRow.named == Tryz.prog.varsNamed 17)) = true := by kernel_rfl
theorem q13 : ((Rows.brokerReplayRow.maps == (Tryz.f17.params.toList ++ Rows.brokerReplaySpec.plain.varTypes Tryz.prog).any (Tryz.prog.mapsRec ·))) = true := by kernel_rfl
theorem q14 : ((Rows.brokerReplayRow.ifaces == (Tryz.f17.params.toList ++ Rows.brokerReplaySpec.plain.varTypes Tryz.prog).any (Tryz.prog.ifacesRec ·))) = true := by kernel_rfl
theorem q15 : ((Rows.brokerReplayRow.mapsOut == Tryz.prog.mapsAmong Tryz.f17.resultTypes.toList)) = true := by kernel_rfl
theorem q16 : ((Rows.brokerReplayRow.loops == (Tryz.f17.params.toList ++ Rows.brokerReplaySpec.plain.varTypes Tryz.prog).any (Tryz.prog.loopsFrom ·))) = true := by kernel_rfl
theorem q17 : ((Rows.brokerReplayRow.wideKeys == (Tryz.f17.params.toList ++ Rows.brokerReplaySpec.plain.varTypes Tryz.prog ++ Tryz.f17.resultTypes.toList).any (Tryz.prog.wideKeysFrom ·))) = true := by kernel_rfl
theorem q18 : (Rows.brokerReplaySpec.vars.all (Tryz.prog.varReadable ·)) = true := by kernel_rfl
theorem q19 : (Tryz.f17.resultTypes.all (fun t => Tryz.prog.readableRec t && decide (t < Tryz.prog.types.size))) = true := by kernel_rfl
theorem q20 : ((Rows.brokerReplayRow.ifacesOut == Tryz.f17.resultTypes.toList.any (Tryz.prog.ifacesRec ·))) = true := by kernel_rfl
theorem q21 : ((Rows.brokerReplayRow.loopsOut == Tryz.f17.resultTypes.toList.any (Tryz.prog.loopsFrom ·))) = true := by kernel_rfl
theorem q22 : ((Rows.brokerReplayRow.plainKeys == Tryz.prog.plainKeys)) = true := (show Rows.brokerReplayRow.plainKeys = Rows.brokerEventsRow.plainKeys from rfl) ▸ pq22
theorem q23 : (Rows.brokerReplayRow.shortTexts.isNone) = true := by kernel_rfl
theorem q26 : ((Rows.brokerReplayRow.lifted == Tryz.prog.liftsFinal)) = true := (show Rows.brokerReplayRow.lifted = Rows.brokerEventsRow.lifted from rfl) ▸ pq26
theorem q27 : ((Tryz.prog.make == some Rows.brokerReplayRow.make)) = true := (show Rows.brokerReplayRow.make = Rows.brokerEventsRow.make from rfl) ▸ pq27
theorem q28 : kindsAre Tryz.prog Rows.brokerReplayRow Tryz.f17 = true := by kernel_rfl
theorem q29 : ((Rows.brokerReplayRow.pinned == Rows.brokerReplayRow.pinnedBy)) = true := by kernel_rfl
theorem q30 : ((Rows.brokerReplayRow.veiled == (Tryz.f17.params.toList ++ Rows.brokerReplaySpec.plain.varTypes Tryz.prog ++ Tryz.f17.resultTypes.toList).any (Tryz.prog.veiledRec ·))) = true := by kernel_rfl
theorem q31 : (Rows.brokerReplayRow.veiledFits Tryz.prog Tryz.f17.params.toList (Tryz.f17.params.toList ++ Rows.brokerReplaySpec.plain.varTypes Tryz.prog ++ Tryz.f17.resultTypes.toList)) = true := by kernel_rfl
theorem q_named : Tryz.prog.funcNamed Rows.brokerReplayRow.func = some 17 := by kernel_rfl
theorem q_inst : Tryz.f17.isInstance Tryz.prog Rows.brokerReplayRow.origin Rows.brokerReplayRow.targs := of_decide_eq_true (by kernel_rfl)
theorem q_wrap : Tryz.f17.isWrapper Tryz.prog Rows.brokerReplayRow.wrapper Rows.brokerReplayRow.mainSum := by unfold Func.isWrapper; first | (rw [if_pos (by decide +kernel)]; kernel_rfl) | (rw [if_neg (by decide +kernel)]; exact ⟨rfl, rfl⟩)
set_option maxRecDepth 100000 in
theorem q_all : joinedFacts Tryz.prog 17 Tryz.f17 Rows.brokerReplaySpec Rows.brokerReplayRow = true := joined_of (P := Tryz.prog) (f := 17) (fn := Tryz.f17) (s := Rows.brokerReplaySpec) (c := Rows.brokerReplayRow) q0 pq1 pq2 q3 q4 q5 pq6 q7 pq8 q9 q10 q11 q12 q13 q14 q15 q16 q17 q18 q19 q20 q21 q22 q23 pq24 pq25 q26 q27 q28 q29 q30 q31
theorem over : Rows.BrokerReplaySaid :=
  OpenClaim.holds_of_wide 17 Tryz.f17 rfl rfl rfl rfl rfl rfl rfl ⟨rfl, rfl, rfl, rfl, rfl⟩ rfl rfl rfl rfl rfl q_named Tryz.func17 q_all q_inst q_wrap
    (fun os started H enc _ => lifted os started H enc)
theorem c_wf : Rows.brokerReplayRow.wfByText (OpenSpec.ofChange Rows.brokerReplaySpec) = true := by kernel_rfl
theorem c_looks : true = Tryz.prog.looks [] := by kernel_rfl
theorem c_stand : ([32, 3].all fun u => !Tryz.prog.wantsStandIn u) = true := by kernel_rfl
theorem c_goes : false = Rows.brokerReplayRow.goesBy Tryz.prog := by kernel_rfl
end Go.Proofs.YtjmdddhbdofppaaGreatDoor.brokerReplay
namespace Go.Proofs.YtjmdddhbdofppaaGreatDoor
theorem brokerReplay_holds : Rows.BrokerReplayCardSaid :=
  Claim7.holds_tied_plain_at (c := Rows.brokerReplayRow) .later [] _ true _ true
    brokerReplay.over (fun _ h => by cases h) brokerReplay.c_wf (fun _ h => by cases h) brokerReplay_row_tie rfl ⟨rfl, rfl⟩ main_is rfl
    (fun f fn hf hfn => by
      obtain rfl : f = 17 := Option.some.inj (brokerReplay.q_named.symm.trans hf) |>.symm
      obtain rfl : fn = Tryz.f17 := (Option.some.inj (Tryz.func17.symm.trans hfn)).symm
      exact ⟨brokerReplay.c_looks, fun j t ht => by
        rw [Tryz.params17] at ht
        have hm : t ∈ [32, 3] := by simpa using Array.mem_of_getElem? ht
        exact (show Tryz.prog.wantsStandIn t = false by simpa using List.all_eq_true.1 brokerReplay.c_stand t hm)⟩)
    brokerReplay.c_goes
#print axioms brokerReplay_holds
end Go.Proofs.YtjmdddhbdofppaaGreatDoor
