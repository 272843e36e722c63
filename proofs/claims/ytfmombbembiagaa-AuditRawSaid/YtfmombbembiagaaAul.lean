/- What the law's own may and first answer. -/
import Derived.Test.YtfmombbembiagaaAuf
namespace Go.Proofs.Ytfmombbembiagaa
open Go.RowKit
open Fr Ms Au

theorem run_bg {P : List M} (h : (run P).bg = false) : P = [] := by
  rcases P with _ | ⟨m, P⟩
  · rfl
  · have := bg_run (l := m :: P) (k := P.length) (by simp)
    rw [List.take_of_length_le (by simp)] at this
    rw [h] at this
    cases this

theorem run_bg1 {P : List M} (h : P ≠ []) : (run P).bg = true := by
  rcases hb : (run P).bg
  · exact absurd (run_bg hb) h
  · rfl

theorem take_bg {P : List M} {j : Nat} (hj : j ≤ P.length) (h : (run (P.take j)).bg = false) : j = 0 := by
  have h1 := congrArg List.length (run_bg h)
  rw [List.length_take, List.length_nil] at h1
  omega

set_option maxHeartbeats 2000000 in
set_option maxRecDepth 100000 in
theorem lmay_any {w : World} {a : Option Addr} {P : List M} (h : MsIn w w.heap.size a P) (cap : Nat) (hn : P.length ≤ 140737488355328) (o : Bs) (ho : o.length ≤ 1099511627776) (sk : Int) (hg : good o sk P P.length) (k x y : Int) (t : Bs) :
    Calls Try.prog 9 #[.slice a P.length cap, .agg #[.int .i64 k, .int .i64 x, .int .i64 y, .string (str t)], .string (str o), .int .i64 sk] w fun e w' => e = .returned (.bool (mayB o sk (run P) ⟨k, x, y, t⟩)) ∧ Below w.heap.size w w' := by
  have hb : Below w.heap.size w (w.alloc (.cells #[.int .i64 k, .int .i64 x, .int .i64 y, .string (str t)] 26)) := (Below.refl _ _).alloc (Nat.le_refl _) _
  have HN := Lib.hid (Bx.new w _ rfl #[.int .i64 k, .int .i64 x, .int .i64 y, .string (str t)] 26)
  have HB := Lib.hid hb
  have HL := Lib.hid h
  have HGd := Lib.hid hg
  have HO := Lib.hid ho
  have HR := Lib.hid (show mayB o sk (run P) ⟨k, x, y, t⟩ = (rt k x y (str t).size && (!(run P).en && (if (run P).bg then (if k ≤ 5 then false else if k = 6 then dataB o (run P) ⟨k, x, y, t⟩ else if k = 7 then gapB o sk (run P) ⟨k, x, y, t⟩ else true) else begB o ⟨k, x, y, t⟩))) by rw [str_size]; rfl)
  clear hb h hg ho
  obtain ⟨q, hq⟩ : ∃ q, mayB o sk (run P) ⟨k, x, y, t⟩ = q := ⟨_, rfl⟩
  rw [hq] at HR
  rw [hq]
  clear hq
  obtain ⟨n, hln⟩ : ∃ n, P.length = n := ⟨_, rfl⟩
  rw [hln] at hn HGd
  simp only [hln]
  have HLn := Lib.hid hln
  clear hln
  go_enter Try.func9, Try.ntmps9
  go_upto_region 1 with fail
  have hs2 : (w.alloc (.cells #[.int .i64 k, .int .i64 x, .int .i64 y, .string (str t)] 26)).heap.size = w.heap.size + 1 := by simp
  generalize w.alloc (.cells #[.int .i64 k, .int .i64 x, .int .i64 y, .string (str t)] 26) = w1 at *
  obtain ⟨gm, hgm⟩ : ∃ gm, w.heap.size = gm := ⟨_, rfl⟩
  rw [hgm] at hs2 HN HB HL
  simp only [hgm]
  have HGm := Lib.hid hgm
  have HS2 := Lib.hid hs2
  clear hs2 hgm
  have m0 := HN.out.cell 0 (.int .i64 k) rfl
  have m1 := HN.out.cell 1 (.int .i64 x) rfl
  have m2 := HN.out.cell 2 (.int .i64 y) rfl
  have m3 := HN.out.cell 3 (.string (str t)) rfl
  go_wp2_with fail
  refine (lright_any k x y (str t) w1).mono ?_
  rintro e w2 ⟨rfl, hb2⟩
  have HN2 := Lib.hid (HN.out.go hb2 (by have := HS2.out; omega))
  have HB2 := Lib.hid (HB.out.trans (hb2.mono (by have := HS2.out; omega)))
  clear hb2 m0 m1 m2 m3
  have m0 := HN2.out.cell 0 (.int .i64 k) rfl
  have m1 := HN2.out.cell 1 (.int .i64 x) rfl
  have m2 := HN2.out.cell 2 (.int .i64 y) rfl
  have m3 := HN2.out.cell 3 (.string (str t)) rfl
  have HK := Lib.hid (fun h : rt k x y (str t).size = true => (⟨rt_n h, tx_le k⟩ : (str t).size ≤ tx k ∧ tx k ≤ 2042))
  generalize rt k x y (str t).size = r at *
  cases r
  · go_wp2
    go_ret
    exact ⟨ret_bool (by rw [HR.out]; rfl), by rw [HGm.out]; exact HB2.out⟩
  have hts : (str t).size ≤ 2042 := by have := HK.out rfl; omega
  clear HK
  by_cases h4 : k ≤ 4
  · have HF := Lib.hid (show false = q by
      rw [HR.out]
      rcases (run P).en <;> rcases (run P).bg <;> simp [begB] <;> omega)
    go_wp2
    go_ret
    exact ⟨ret_bool HF.out, by rw [HGm.out]; exact HB2.out⟩
  have h5 : 5 ≤ k := by omega
  clear h4
  go_wp2_with fail
  go_loopw [9, 10, 25] (fun u p i wr => ∃ j : Nat, j ≤ n ∧ i = .int .i64 (j : Nat) ∧ u = .int .i64 ((run (P.take j)).up : Nat) ∧ p = .int .i64 ((run (P.take j)).gp : Nat) ∧ (run (P.take j)).en = false ∧ Bx gm wr #[.int .i64 k, .int .i64 x, .int .i64 y, .string (str t)] ∧ Below gm w wr) (fun _ _ i _ => n - (intOf i).toNat)
  case atStart => exact ⟨0, by omega, rfl, rfl, rfl, rfl, HN2.out, HB2.out⟩
  case round =>
    obtain ⟨j, hj, rfl, rfl, rfl, hen, hbx, hb⟩ := hrel
    have HEn := Lib.hid hen
    have HX := Lib.hid hbx
    have HBe := Lib.hid hb
    clear hen hbx hb m0 m1 m2 m3 HN2 HB2
    by_cases hlt : j < n
    · obtain ⟨m, hm⟩ : ∃ m, P[j]? = some m := ⟨_, List.getElem?_eq_getElem (by have := HLn.out; omega)⟩
      obtain ⟨b, off, ea, hbB, hc⟩ := (HL.out.below HBe.out).outer (by have := HLn.out; omega)
      subst ea
      obtain ⟨hc0, hc1, hc2, hc3⟩ := hc j m hm
      have hmay := HGd.out j m hlt hm
      have hue := up_eq hmay
      have hsum := may_sum hmay
      have hst := run_snoc P j m hm
      have hup := up_good (by have := HLn.out; omega) (good_le HGd.out (Nat.le_of_lt hlt))
      have hrtA := rt_a (mayB_iff.1 hmay).1
      clear hc
      obtain ⟨K, A, B, T⟩ := m
      simp only at hc0 hc1 hc2 hc3 hue hsum hrtA
      have hTs : (str T).size ≤ 2042 := by rw [str_size]; exact hsum.1
      have HTs := Lib.hid (str_size T)
      have HM := Lib.hid hm
      have HMay := Lib.hid hmay
      have HUe := Lib.hid hue
      have HSt := Lib.hid hst
      have HUp := Lib.hid hup
      have hgp : (run (P.take j)).gp ≤ 140737488355328 := by have := hup.2; omega
      have hgp1 : (run (P.take (j + 1))).gp = if K = 7 then (run (P.take j)).gp + 1 else (run (P.take j)).gp := by rw [hst]; rfl
      have hen1 : (run (P.take (j + 1))).en = (decide (K = 12) || decide (K = 13)) := by rw [hst]; simp [takeS, HEn.out]
      have hj0 : K = 5 → j = 0 := fun h => take_bg (by have := HLn.out; omega) (hue.1 h).1
      have HG1 := Lib.hid hgp1
      have HE1 := Lib.hid hen1
      have HJ0 := Lib.hid hj0
      rw [← hst] at hue
      have HU1 := Lib.hid hue
      clear hm hmay hue hst hup hsum hgp1 hen1 hj0
      have hgw := HX.out.room
      have HX1 := Lib.hid (HX.out.go ((Below.refl wr.heap.size wr).alloc (Nat.le_refl _) (.cells #[.int .i64 K, .int .i64 A, .int .i64 B, .string (str T)] 26)) hgw)
      have HN1 := Lib.hid (Bx.new wr _ rfl #[.int .i64 K, .int .i64 A, .int .i64 B, .string (str T)] 26)
      have HB1 := Lib.hid (HBe.out.alloc (by omega) (.cells #[.int .i64 K, .int .i64 A, .int .i64 B, .string (str T)] 26))
      go_upto_region 8 with fail
      generalize wr.alloc (.cells #[.int .i64 K, .int .i64 A, .int .i64 B, .string (str T)] 26) = w3 at *
      obtain ⟨gn, hgn⟩ : ∃ gn, wr.heap.size = gn := ⟨_, rfl⟩
      rw [hgn] at HN1
      simp only [hgn]
      clear hgn hgw hc0 hc1 hc2 hc3 HX HBe
      have n0 := HN1.out.cell 0 (.int .i64 K) rfl
      have n1 := HN1.out.cell 1 (.int .i64 A) rfl
      have n2 := HN1.out.cell 2 (.int .i64 B) rfl
      have n3 := HN1.out.cell 3 (.string (str T)) rfl
      rcases (show K = 5 ∨ K = 6 ∨ K = 7 ∨ K = 12 ∨ K = 13 ∨ (K ≠ 5 ∧ K ≠ 6 ∧ K ≠ 7 ∧ K ≠ 12 ∧ K ≠ 13) by omega) with rfl | rfl | rfl | rfl | rfl | ⟨n5, n6, n7, n12, n13⟩
      · obtain rfl := HJ0.out rfl
        go_wp2
        go_roundw
        case rel => exact ⟨1, by omega, rfl, by rw [(HU1.out.1 rfl).2], by rw [HG1.out]; rfl, by rw [HE1.out]; rfl, HX1.out, HB1.out⟩
        case measure => simp [intOf]; omega
      · go_wp2
        go_roundw
        case rel => exact ⟨j + 1, by omega, by go_num, by rw [HU1.out.2.1 rfl, HTs.out], by rw [HG1.out]; rfl, by rw [HE1.out]; rfl, HX1.out, HB1.out⟩
        case measure => simp [intOf]; omega
      · go_wp2
        go_roundw
        case rel => exact ⟨j + 1, by omega, by go_num, by rw [HU1.out.2.2.1 rfl], by rw [HG1.out]; go_num, by rw [HE1.out]; rfl, HX1.out, HB1.out⟩
        case measure => simp [intOf]; omega
      · have HF := Lib.hid (show false = q by
          rw [HR.out]
          have := en_mono (l := P) (j := j + 1) (by rw [HE1.out]; rfl) (show j + 1 ≤ P.length by have := HLn.out; omega)
          rw [List.take_length] at this
          rw [this]; rfl)
        go_wp2
        go_ret
        exact ⟨ret_bool HF.out, by rw [HGm.out]; exact HB1.out⟩
      · have HF := Lib.hid (show false = q by
          rw [HR.out]
          have := en_mono (l := P) (j := j + 1) (by rw [HE1.out]; rfl) (show j + 1 ≤ P.length by have := HLn.out; omega)
          rw [List.take_length] at this
          rw [this]; rfl)
        go_wp2
        go_ret
        exact ⟨ret_bool HF.out, by rw [HGm.out]; exact HB1.out⟩
      · have e1 : (K == 5) = false := by simp [n5]
        have e2 : (K == 6) = false := by simp [n6]
        have e3 : (K == 7) = false := by simp [n7]
        have e4 : (K == 12) = false := by simp [n12]
        have e5 : (K == 13) = false := by simp [n13]
        have HF := Lib.hid (show (run (P.take (j + 1))).up = (run (P.take j)).up ∧ (run (P.take (j + 1))).gp = (run (P.take j)).gp ∧ (run (P.take (j + 1))).en = false by
          rw [HE1.out, HG1.out]
          exact ⟨by rw [HSt.out]; exact HUe.out.2.2.2 n5 n6 n7, by simp [n7], by simp [n12, n13]⟩)
        clear n5 n6 n7 n12 n13
        go_wp2
        go_roundw
        case rel => exact ⟨j + 1, by omega, by go_num, by rw [HF.out.1], by rw [HF.out.2.1], HF.out.2.2, HX1.out, HB1.out⟩
        case measure => simp [intOf]; omega
    · obtain rfl : j = n := by omega
      have hP : P.take j = P := by rw [← HLn.out, List.take_length]
      rw [hP] at HEn
      rw [HEn.out] at HR
      simp only [hP]
      have hup : (run P).up ≤ o.length ∧ (run P).gp ≤ j := by
        have := up_good (show j ≤ P.length by have := HLn.out; omega) HGd.out
        rw [hP] at this
        exact this
      have HUp := Lib.hid hup
      have hgp : (run P).gp ≤ 140737488355328 := by have := hup.2; omega
      have hul : (run P).up ≤ 1099511627776 := by have := HO.out; omega
      have HOs := Lib.hid (str_size o)
      have HTs := Lib.hid (str_size t)
      have m0 := HX.out.cell 0 (.int .i64 k) rfl
      have m1 := HX.out.cell 1 (.int .i64 x) rfl
      have m2 := HX.out.cell 2 (.int .i64 y) rfl
      have m3 := HX.out.cell 3 (.string (str t)) rfl
      clear hup hP hlt hj
      by_cases hk5 : k = 5
      · subst hk5
        by_cases hj : j = 0
        · subst hj
          have hPn : P = [] := List.eq_nil_of_length_eq_zero HLn.out
          have HF := Lib.hid (show decide (y ≤ ((str o).size : Nat)) = q by rw [HR.out, hPn, HOs.out]; simp [run, st0, begB])
          clear hPn
          go_wp2
          go_ret
          exact ⟨ret_bool HF.out, by rw [HGm.out]; exact HBe.out⟩
        · have HF := Lib.hid (show false = q by
            rw [HR.out, run_bg1 (P := P) (by intro h; rw [h] at HLn; exact hj HLn.out.symm)]; rfl)
          go_wp2
          go_ret
          exact ⟨ret_bool HF.out, by rw [HGm.out]; exact HBe.out⟩
      have e5 : (k == 5) = false := by simp [hk5]
      by_cases hj : j = 0
      · subst hj
        have hPn : P = [] := List.eq_nil_of_length_eq_zero HLn.out
        have HF := Lib.hid (show (k == 13) = q by rw [HR.out, hPn]; simp [run, st0, begB, hk5]; rfl)
        clear hPn hk5
        go_wp2
        go_ret
        exact ⟨ret_bool HF.out, by rw [HGm.out]; exact HBe.out⟩
      have hbg := run_bg1 (P := P) (by intro h; rw [h] at HLn; exact hj HLn.out.symm)
      rw [hbg, if_pos rfl] at HR
      have hk6 : ¬ k ≤ 5 := by omega
      rw [if_neg hk6] at HR
      clear hbg hk5 hk6
      by_cases h6 : k = 6
      · subst h6
        have HF := Lib.hid (show q = (decide (x = (run P).up) && (!decide (t = []) && decide ((o.drop (run P).up).take t.length = t))) by rw [HR.out]; rfl)
        obtain ⟨up, hu⟩ : ∃ u, (run P).up = u := ⟨_, rfl⟩
        rw [hu] at hul HUp HF
        simp only [hu]
        clear hu HR
        by_cases ha : x = up
        · have hd1 : (x == (up : Nat)) = true := by simp [ha]
          by_cases ht : t = []
          · have HF2 := Lib.hid (show false = q by rw [HF.out, ht]; simp)
            subst ht
            have hx : (str ([] : Bs)).toList = [] := by simp [str]
            clear ha
            go_wp2_with fail
            go_quiet (fail)
            go_wp2
            go_ret
            exact ⟨ret_bool HF2.out, by rw [HGm.out]; exact below_drewN HBe.out _⟩
          have hx : (str t).toList.isEmpty = false := by
            rcases t with _ | ⟨c, t⟩
            · exact absurd rfl ht
            · rw [ByteArray.toList_eq]; rfl
          have HF2 := Lib.hid (show q = decide ((o.drop up).take t.length = t) by rw [HF.out]; simp [ha, ht])
          clear HF ha ht
          by_cases hl : up + t.length ≤ o.length
          · have hcut : (str o).extract up (up + (str t).size) = str ((o.drop up).take t.length) := by rw [HTs.out, s_cut, List.drop_take]; simp
            have hl2 : up + (str t).size ≤ (str o).size := by rw [HTs.out, HOs.out]; exact hl
            clear hl
            have HF3 := Lib.hid (show ((str ((o.drop up).take t.length)).toList == (str t).toList) = q by rw [HF2.out, str_beq])
            go_wp2_with fail
            rw [show ((up : Int) + ((str t).size : Nat)) = ((up + (str t).size : Nat) : Int) by push_cast; rfl]
            have hle : up ≤ up + (str t).size := Nat.le_add_right _ _
            generalize up + (str t).size = E at *
            go_quiet (fail)
            go_wp2
            go_ret
            exact ⟨ret_bool HF3.out, by rw [HGm.out]; exact below_drewN HBe.out _⟩
          · have hl2 : ¬ up + (str t).size ≤ (str o).size := by rw [HTs.out, HOs.out]; exact hl
            have HF3 := Lib.hid (show false = q by
              rw [HF2.out]
              symm
              simp
              intro h
              have := congrArg List.length h
              rw [List.length_take, List.length_drop] at this
              have := HUp.out.1
              omega)
            clear hl
            go_wp2_with fail
            rw [show ((up : Int) + ((str t).size : Nat)) = ((up + (str t).size : Nat) : Int) by push_cast; rfl]
            have hle : up ≤ up + (str t).size := Nat.le_add_right _ _
            generalize up + (str t).size = E at *
            go_quiet (fail)
            go_wp2
            go_ret
            exact ⟨ret_bool HF3.out, by rw [HGm.out]; exact below_drewN HBe.out _⟩
        · have hd1 : (x == (up : Nat)) = false := by simp [ha]
          have HF2 := Lib.hid (show false = q by rw [HF.out]; simp [ha])
          clear ha
          go_wp2_with fail
          go_quiet (fail)
          go_wp2
          go_ret
          exact ⟨ret_bool HF2.out, by rw [HGm.out]; exact below_drewN HBe.out _⟩
      by_cases h7 : k = 7
      · subst h7
        have HF := Lib.hid (show q = (decide (x = (run P).up) && (decide (x < y) && (decide (y ≤ o.length) && decide (((run P).gp : Int) < sk)))) by rw [HR.out]; rfl)
        rw [← HOs.out] at HF
        obtain ⟨up, hu⟩ : ∃ u, (run P).up = u := ⟨_, rfl⟩
        rw [hu] at hul HUp HF
        simp only [hu]
        obtain ⟨gp, hp⟩ : ∃ u, (run P).gp = u := ⟨_, rfl⟩
        rw [hp] at hgp HUp HF
        simp only [hp]
        clear hu hp HR
        by_cases ha : x = up
        · have hd1 : (x == (up : Nat)) = true := by simp [ha]
          have HF2 := Lib.hid (show (decide (y > (up : Nat)) && (decide (y ≤ ((str o).size : Nat)) && decide ((gp : Int) < sk))) = q by rw [HF.out, ha]; simp)
          clear HF ha
          obtain ⟨d2, h2⟩ : ∃ d, decide (y > (up : Nat)) = d := ⟨_, rfl⟩
          obtain ⟨d3, h3⟩ : ∃ d, decide (y ≤ ((str o).size : Nat)) = d := ⟨_, rfl⟩
          rw [h2, h3] at HF2
          cases d2
          · go_wp2
            go_ret
            exact ⟨ret_bool (by rw [← HF2.out]; rfl), by rw [HGm.out]; exact HBe.out⟩
          cases d3
          · go_wp2
            go_ret
            exact ⟨ret_bool (by rw [← HF2.out]; rfl), by rw [HGm.out]; exact HBe.out⟩
          · go_wp2
            go_ret
            exact ⟨ret_bool (by rw [← HF2.out]; simp), by rw [HGm.out]; exact HBe.out⟩
        · have hd1 : (x == (up : Nat)) = false := by simp [ha]
          have HF2 := Lib.hid (show false = q by rw [HF.out]; simp [ha])
          clear ha
          go_wp2
          go_ret
          exact ⟨ret_bool HF2.out, by rw [HGm.out]; exact HBe.out⟩
      · have e6 : (k == 6) = false := by simp [h6]
        have e7 : (k == 7) = false := by simp [h7]
        have HF := Lib.hid (show true = q by rw [HR.out]; simp [h6, h7])
        clear h6 h7
        go_wp2
        go_ret
        exact ⟨ret_bool HF.out, by rw [HGm.out]; exact HBe.out⟩

end Go.Proofs.Ytfmombbembiagaa
