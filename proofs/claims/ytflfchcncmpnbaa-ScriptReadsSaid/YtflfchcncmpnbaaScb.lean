/- What the law's own Bytes answers. -/
import Derived.Test.YtflfchcncmpnbaaScl
import Derived.Test.YtflfchcncmpnbaaScf
namespace Go.Proofs.Ytflfchcncmpnbaa
open Go.RowKit
open Sc

theorem cbs_len (a b c d e f g h : Int) : (cbs a b c d e f g h).length = 24 := rfl

/-- an own row that lies elsewhere stays -/
theorem Grew.far {w w1 : World} {A A1 : Option Addr} (h : Grew w w1 A A1) {g : Nat} (hg : g < w.heap.size) (hA : ¬ In A g) : ¬ In A1 g := by
  rintro ⟨p, hp, rfl⟩
  rcases h.place p hp with h' | h'
  · exact hA h'
  · omega

theorem cs_at (ai bi ci di ei fi gi hi k : Nat) (hk : k < 8) (ha : ai ≤ 65536 ∧ bi ≤ 65536 ∧ ci ≤ 65536 ∧ di ≤ 65536 ∧ ei ≤ 65536 ∧ fi ≤ 65536 ∧ gi ≤ 65536 ∧ hi ≤ 65536) :
    ∃ v : Nat, v ≤ 65536 ∧ (#[.int .i64 ai, .int .i64 bi, .int .i64 ci, .int .i64 di, .int .i64 ei, .int .i64 fi, .int .i64 gi, .int .i64 hi] : Array Value)[k]? = some (.int .i64 (v : Nat)) ∧
      cfb ([ai, bi, ci, di, ei, fi, gi, hi].take (k + 1)) = cfb ([ai, bi, ci, di, ei, fi, gi, hi].take k) ++ three v := by
  obtain ⟨h0, h1, h2, h3, h4, h5, h6, h7⟩ := ha
  rcases (show k = 0 ∨ k = 1 ∨ k = 2 ∨ k = 3 ∨ k = 4 ∨ k = 5 ∨ k = 6 ∨ k = 7 by omega) with rfl | rfl | rfl | rfl | rfl | rfl | rfl | rfl
  · exact ⟨ai, h0, rfl, rfl⟩
  · exact ⟨bi, h1, rfl, rfl⟩
  · exact ⟨ci, h2, rfl, rfl⟩
  · exact ⟨di, h3, rfl, rfl⟩
  · exact ⟨ei, h4, rfl, rfl⟩
  · exact ⟨fi, h5, rfl, rfl⟩
  · exact ⟨gi, h6, rfl, rfl⟩
  · exact ⟨hi, h7, rfl, rfl⟩

set_option maxHeartbeats 4000000 in
theorem lbytes_any (a b c d e f g h : Int) (A : Option Addr) (n cap : Nat) (L : List Ev) (w : World) (hr : rt a b c d e f g h = true) (hl : EvIn w w.heap.size A L) (hn : L.length = n) (hm : n ≤ 9000) (ha : ∀ x ∈ L, rtE x = true) :
    Calls Try.prog 14 #[.agg (cv a b c d e f g h), .slice A n cap] w fun r w' => ∃ A' c', r = .returned (.slice A' (24 + (evs L).length) c') ∧ Own w.heap.size w' A' (24 + (evs L).length) c' (cbs a b c d e f g h ++ evs L) ∧ Below w.heap.size w w' := by
  obtain ⟨⟨a0, a1⟩, ⟨b0, b1⟩, ⟨c0, c1⟩, ⟨d0, d1⟩, ⟨e0, e1⟩, ⟨f0, f1⟩, ⟨g0', g1⟩, ⟨h0, h1⟩⟩ := rt_bounds hr
  obtain ⟨ai, rfl⟩ := Int.eq_ofNat_of_zero_le (show 0 ≤ a by omega)
  obtain ⟨bi, rfl⟩ := Int.eq_ofNat_of_zero_le (show 0 ≤ b by omega)
  obtain ⟨ci, rfl⟩ := Int.eq_ofNat_of_zero_le (show 0 ≤ c by omega)
  obtain ⟨di, rfl⟩ := Int.eq_ofNat_of_zero_le (show 0 ≤ d by omega)
  obtain ⟨ei, rfl⟩ := Int.eq_ofNat_of_zero_le (show 0 ≤ e by omega)
  obtain ⟨fi, rfl⟩ := Int.eq_ofNat_of_zero_le (show 0 ≤ f by omega)
  obtain ⟨gi, rfl⟩ := Int.eq_ofNat_of_zero_le (show 0 ≤ g by omega)
  obtain ⟨hi, rfl⟩ := Int.eq_ofNat_of_zero_le (show 0 ≤ h by omega)
  have HL := Lib.hid hl
  have HN := Lib.hid hn
  have HAll := Lib.hid ha
  have HX := Lib.hid (Bx.new w w.heap.size rfl (cv ai bi ci di ei fi gi hi) 23)
  have HB := Lib.hid ((Below.refl w.heap.size w).alloc (Nat.le_refl _) (.cells (cv ai bi ci di ei fi gi hi) 23))
  clear hl hn hr ha
  unfold cv at HX HB ⊢
  go_enter Try.func14, Try.ntmps14
  go_upto_region 1 with fail
  generalize w.alloc _ = w1 at *
  obtain ⟨g0, hg⟩ : ∃ g0, w.heap.size = g0 := ⟨_, rfl⟩
  rw [hg] at HL HB HX
  simp only [hg]
  have HG := Lib.hid hg
  clear hg
  have hgw := HX.out.room
  go_upto_region 2 with fail
  have HO2 := Lib.hid (own_new w1 (g0 + 1) hgw)
  have HX2 := Lib.hid (HX.out.go ((Below.refl _ w1).alloc (Nat.le_refl _) (.cells #[] 5)) hgw)
  have HB2 := Lib.hid (HB.out.alloc (by omega) (.cells #[] 5))
  have hs2 : w1.heap.size + 1 ≤ (w1.alloc (.cells #[] 5)).heap.size := by simp
  generalize w1.alloc _ = w2 at *
  clear HX HB
  obtain ⟨k0, k1, k2, k3, k4, k5, k6, k7⟩ := HX2.out.cells8
  go_upto_region 3 with fail
  have HT3 := Lib.hid (Bx.new w2 w2.heap.size rfl #[.int .i64 ai, .int .i64 bi, .int .i64 ci, .int .i64 di, .int .i64 ei, .int .i64 fi, .int .i64 gi, .int .i64 hi] 3)
  have HO3 := Lib.hid (HO2.out.below ((Below.refl _ w2).alloc (Nat.le_refl _) (.cells #[.int .i64 ai, .int .i64 bi, .int .i64 ci, .int .i64 di, .int .i64 ei, .int .i64 fi, .int .i64 gi, .int .i64 hi] 3)))
  have HB3 := Lib.hid (HB2.out.alloc (by omega) (.cells #[.int .i64 ai, .int .i64 bi, .int .i64 ci, .int .i64 di, .int .i64 ei, .int .i64 fi, .int .i64 gi, .int .i64 hi] 3))
  generalize w2.alloc _ = w3 at *
  obtain ⟨gt, hgt⟩ : ∃ gt, w2.heap.size = gt := ⟨_, rfl⟩
  rw [hgt] at HT3 hs2
  simp only [hgt]
  obtain ⟨go, hgo⟩ : ∃ go, w1.heap.size = go := ⟨_, rfl⟩
  rw [hgo] at HO3 hgw hs2
  simp only [hgo]
  clear hgt hgo HO2 HX2 HB2 k0 k1 k2 k3 k4 k5 k6 k7
  have HNg := Lib.hid (show ¬ In (some (⟨go, 0, none⟩ : Addr)) gt by rintro ⟨p, hp, e⟩; injection hp with hp; subst hp; simp at e; omega)
  go_wp2_with fail
  go_loopw [5, 29] (fun s i wr => ∃ (k : Nat) (A : Option Addr) (N c : Nat), k ≤ 8 ∧ N = 3 * k ∧ i = .int .i64 (k : Nat) ∧ s = .slice A N c ∧ Own (g0 + 1) wr A N c (cfb ([ai, bi, ci, di, ei, fi, gi, hi].take k)) ∧ ¬ In A gt ∧ Bx gt wr #[.int .i64 ai, .int .i64 bi, .int .i64 ci, .int .i64 di, .int .i64 ei, .int .i64 fi, .int .i64 gi, .int .i64 hi] ∧ Below g0 w wr) (fun _ i _ => 8 - (intOf i).toNat)
  case atStart => exact ⟨0, _, 0, 0, by omega, rfl, rfl, rfl, HO3.out, HNg.out, HT3.out, HB3.out⟩
  case round =>
    obtain ⟨k, A1, N, c1, hk, hN, rfl, rfl, hown, hni, hx, hb⟩ := hrel
    have HO := Lib.hid hown
    have HT := Lib.hid hx
    have HB := Lib.hid hb
    have HNi := Lib.hid hni
    have hgt := hx.room
    clear hown hx hb hni HO3 HT3 HB3 HNg
    by_cases hlt : k < 8
    · obtain ⟨v, hv, hcv, hcs⟩ := cs_at ai bi ci di ei fi gi hi k hlt (by omega)
      have hc := HT.out.cell k _ hcv
      have HCs := Lib.hid hcs
      have HNN := Lib.hid hN
      have hN9 : N ≤ 24 := by omega
      have hsz : g0 + 1 ≤ wr.heap.size := by omega
      clear hcv hcs hN
      go_wp2_with (first
        | (go_at_call 24
           refine (lthree_any v (by omega) _).mono ?_
           rintro e w4 ⟨A4, c4, rfl, ho4, hb4⟩
           have HO4 := Lib.hid ho4
           have HB4 := Lib.hid hb4
           clear ho4 hb4)
        | (at_builtin
           refine wpList_putg rfl (.tmp 33) (.tmp 35) rfl (g0 + 1) A1 N c1 _ rfl (HO.out.below HB4.out) _ A4 3 c4 (three v) rfl HO4.out.bytes (by omega) (Nat.le_trans hsz HB4.out.size) ?_
           intro A5 c5 w5 hown hg5
           have HO5 := Lib.hid hown
           have HG5 := Lib.hid (((Grew.refl wr A1).next HB4.out).trans hg5)
           clear hown hg5)
        | fail)
      go_roundw
      case rel => exact ⟨k + 1, A5, N + 3, c5, by omega, by have := HNN.out; omega, by go_num, rfl, by rw [HCs.out]; exact HO5.out, HG5.out.far hgt HNi.out, HT.out.keep HG5.out.only HNi.out, HB.out.trans (HG5.out.below (by omega) (fun b hb => by have := (HO.out.inlt hb).1; omega))⟩
      case measure => simp [intOf]; omega
    · obtain rfl : k = 8 := by omega
      obtain rfl : N = 24 := by omega
      go_upto_region 8 with fail
      have HO0 := HO.out
      rw [show cfb ([ai, bi, ci, di, ei, fi, gi, hi].take 8) = cbs ai bi ci di ei fi gi hi ++ evs (L.take 0) by simp [cbs, evs]] at HO0
      have HO1 := Lib.hid HO0
      have HNL := Lib.hid (show 24 + (evs (L.take 0)).length = 24 by simp [evs])
      have hsz0 : g0 + 1 ≤ wr.heap.size := by omega
      clear HO0 HO hN hk hlt HT HNi hgt
      go_wp2_with fail
      go_loopw [5, 40] (fun s i wr => ∃ (k : Nat) (A : Option Addr) (N c : Nat), k ≤ n ∧ Hid (N = 24 + (evs (L.take k)).length) ∧ i = .int .i64 (k : Nat) ∧ s = .slice A N c ∧ Own (g0 + 1) wr A N c (cbs ai bi ci di ei fi gi hi ++ evs (L.take k)) ∧ Below g0 w wr ∧ g0 + 1 ≤ wr.heap.size) (fun _ i _ => n - (intOf i).toNat)
      case atStart => exact ⟨0, A1, 24, c1, by omega, Lib.hid HNL.out.symm, rfl, rfl, HO1.out, HB.out, hsz0⟩
      case round =>
        obtain ⟨k, A2, N, c2, hk, HNk, rfl, rfl, hown, hb, hsz⟩ := hrel
        have HO := Lib.hid hown
        have HBk := Lib.hid hb
        clear hown hb HB HO1 HNL hsz0
        by_cases hlt : k < n
        · obtain ⟨x, hx⟩ : ∃ x, L[k]? = some x := ⟨_, List.getElem?_eq_getElem (by have := HN.out; omega)⟩
          obtain ⟨bb, off, rfl, hbB, hc⟩ := (HL.out.below HBk.out).outer (by have := HN.out; omega)
          obtain ⟨hc0, hc1, hc2, hc3⟩ := hc k x hx
          have hN9 : N ≤ 900000000 := by
            have h1 := evs_le (L := L.take k) (fun e he => HAll.out e (List.mem_of_mem_take he))
            have h2 : (L.take k).length ≤ 9000 := by simp; omega
            have := HNk.out
            omega
          obtain ⟨x1, x2, x3, x4, x5, x6, x7⟩ := rtE_in (HAll.out x (List.mem_of_getElem? hx))
          have hS0 := evs_snoc L k x hx
          have hE0 : evb x = [b8 x.k.toNat, b8 x.i.toNat] ++ three x.n.toNat ++ two x.t.length ++ x.t := rfl
          have hSl : (evs (L.take (k + 1))).length = (evs (L.take k)).length + (7 + x.t.length) := by rw [hS0, List.length_append, evb_len]
          rw [hE0] at hS0
          have HSn := Lib.hid hS0
          have HSl := Lib.hid hSl
          clear hc hx hS0 hE0 hSl
          obtain ⟨xk, xi, xn, xt⟩ := x
          simp only at hc0 hc1 hc2 hc3 x1 x2 x3 x4 x5 x6 x7 HSn HSl
          obtain ⟨xn, rfl⟩ := Int.eq_ofNat_of_zero_le x5
          rw [Int.toNat_natCast] at HSn
          have HSz := Lib.hid (str_size xt)
          have hts : (str xt).size ≤ 4000 := by rw [str_size]; exact x7
          have HE := Lib.hid (Bx.new wr wr.heap.size rfl #[.int .i64 xk, .int .i64 xi, .int .i64 xn, .string (str xt)] 30)
          have HOe := Lib.hid (HO.out.below ((Below.refl _ wr).alloc (Nat.le_refl _) (.cells #[.int .i64 xk, .int .i64 xi, .int .i64 xn, .string (str xt)] 30)))
          have HBe := Lib.hid (HBk.out.alloc (by omega) (.cells #[.int .i64 xk, .int .i64 xi, .int .i64 xn, .string (str xt)] 30))
          have HLt := Lib.hid (fun b (h : In A2 b) => (HO.out.inlt h).2)
          have HGe := Lib.hid (fun b (h : In A2 b) => (HO.out.inlt h).1)
          go_upto_region 10 with fail
          generalize wr.alloc _ = w5 at *
          obtain ⟨ge, hge⟩ : ∃ ge, wr.heap.size = ge := ⟨_, rfl⟩
          rw [hge] at HE hsz HLt
          simp only [hge]
          clear hge hc0 hc1 hc2 hc3 HO HBk
          have HNi := Lib.hid (show ¬ In A2 ge from fun h => by have := HLt.out _ h; omega)
          have hgw := HE.out.room
          obtain ⟨m0, m1, m2, m3⟩ := HE.out.ev
          go_upto_region 11 with (first
            | (at_builtin
               refine wpList_putg rfl (.tmp 44) (.tmp 51) rfl (g0 + 1) A2 N c2 _ rfl (HOe.out.below ((Below.refl _ _).alloc (Nat.le_refl _) _)) _ (some ⟨w5.heap.size, 0, none⟩) 2 2 [b8 xk.toNat, b8 xi.toNat] rfl (two_newv w5 _ _ _ _ (b8_small _ (by omega) (by omega)) (b8_small _ (by omega) (by omega))) (by omega) (by simp; omega) ?_
               intro A6 c6 w6 hown hg6
               have HO6 := Lib.hid hown
               have HG6 := Lib.hid (((Grew.refl w5 A2).alloc _).trans hg6)
               clear hown hg6)
            | fail)
          have HE6 := Lib.hid (HE.out.keep HG6.out.only HNi.out)
          have HN6 := Lib.hid (HG6.out.far hgw HNi.out)
          have hw6 : ge + 1 ≤ w6.heap.size := HE6.out.room
          clear m0 m1 m2 m3 HE HOe
          obtain ⟨m0, m1, m2, m3⟩ := HE6.out.ev
          go_upto_region 12 with (first
            | (go_at_call 24
               refine (lthree_any xn (by omega) _).mono ?_
               rintro e w7 ⟨A7, c7, rfl, ho7, hb7⟩
               have HO7 := Lib.hid ho7
               have HB7 := Lib.hid hb7
               clear ho7 hb7)
            | (at_builtin
               refine wpList_putg rfl (.tmp 53) (.tmp 56) rfl (g0 + 1) A6 (N + 2) c6 _ rfl (HO6.out.below HB7.out) _ A7 3 c7 (three xn) rfl HO7.out.bytes (by omega) (by have := HB7.out.size; omega) ?_
               intro A8 c8 w8 hown hg8
               have HO8 := Lib.hid hown
               have HG8 := Lib.hid (((Grew.refl w6 A6).next HB7.out).trans hg8)
               clear hown hg8)
            | fail)
          have HE8 := Lib.hid (HE6.out.keep HG8.out.only HN6.out)
          have HN8 := Lib.hid (HG8.out.far hw6 HN6.out)
          have HT8 := Lib.hid (HG6.out.trans HG8.out)
          have hw8 : ge + 1 ≤ w8.heap.size := HE8.out.room
          clear m0 m1 m2 m3 HE6 HO6 HO7 HB7
          obtain ⟨m0, m1, m2, m3⟩ := HE8.out.ev
          go_upto_region 13 with (first
            | (at_builtin
               refine wpList_putg rfl (.tmp 58) (.tmp 69) rfl (g0 + 1) A8 (N + 2 + 3) c8 _ rfl (HO8.out.below ((Below.refl _ _).alloc (Nat.le_refl _) _)) _ (some ⟨w8.heap.size, 0, none⟩) 2 2 (two (str xt).size) rfl (two_newv w8 _ _ _ _ (by rw [← b8_int]; try (simp; try omega)) (by rw [← b8_int]; try (simp; try omega))) (by omega) (by simp; omega) ?_
               intro A9 c9 w9 hown hg9
               have HO9 := Lib.hid hown
               have HG9 := Lib.hid (((Grew.refl w8 A8).alloc _).trans hg9)
               clear hown hg9)
            | fail)
          have HE9 := Lib.hid (HE8.out.keep HG9.out.only HN8.out)
          have HT9 := Lib.hid (HT8.out.trans HG9.out)
          have hw9 : ge + 1 ≤ w9.heap.size := HE9.out.room
          clear m0 m1 m2 m3 HE8 HO8
          obtain ⟨m0, m1, m2, m3⟩ := HE9.out.ev
          go_wp2_with (first
            | (at_builtin
               refine wpList_puts rfl (.tmp 71) (.tmp 73) rfl (g0 + 1) A9 (N + 2 + 3 + 2) c9 _ rfl HO9.out xt rfl (by omega) (by omega) ?_
               intro A10 c10 w10 hown hb10
               have HO10 := Lib.hid hown
               have HB10 := Lib.hid hb10
               clear hown hb10)
            | fail)
          go_roundw
          case rel => exact ⟨k + 1, A10, N + 2 + 3 + 2 + xt.length, c10, by omega, Lib.hid (by rw [HSl.out, HNk.out]; omega), by go_num, rfl, by
            have h := HO10.out
            rw [HSz.out] at h
            rw [HSn.out]
            simpa using h, HBe.out.trans ((HT9.out.below (by omega) (fun b hb => by have := HGe.out _ hb; omega)).trans (HB10.out.mono (by omega))), by have := HB10.out.size; omega⟩
          case measure => simp [intOf]; omega
        · have hkn : L.take k = L := List.take_of_length_le (by have := HN.out; omega)
          have HK := Lib.hid hkn
          clear hkn
          go_wp2
          go_ret
          have hh := HNk.out
          rw [HK.out] at hh
          subst hh
          refine ⟨A2, c2, rfl, ?_, by rw [HG.out]; exact HBk.out⟩
          have := HO.out
          rw [HK.out] at this
          exact this.mono (by rw [HG.out]; omega)

end Go.Proofs.Ytflfchcncmpnbaa
