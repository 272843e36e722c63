/- LexCommands: for every input the law answers true, and its arguments read as before. Conditions: none. -/
import Derived.Test.YtceomegglopbcaaLxh
import Derived.Test.YtceomegglopbcaaInq
import Derived.Test.YtceomegglopbcaaTob
namespace Go.Proofs.Ytceomegglopbcaa.lexCommands
open Go.ChangeShapes Go.WideShapes Go.ChangeAt Go.RowKit
open Lx

theorem plain_l (t : Bs) (h : ∀ c ∈ t, c.toNat ≠ 29) : lrun lx0 t = lx0 ∧ lkeys lx0 t = t ∧ lcmds lx0 t = [] := by
  induction t with
  | nil => exact ⟨rfl, rfl, rfl⟩
  | cons c t ih =>
    obtain ⟨h1, h2, h3⟩ := ih (fun x hx => h x (List.mem_cons_of_mem _ hx))
    have hc := h c List.mem_cons_self
    have hs : lstep lx0 c = lx0 := by simp [lstep, lx0, hc]
    refine ⟨?_, ?_, ?_⟩
    · show lrun (lstep lx0 c) t = _
      rw [hs, h1]
    · show lkey lx0 c ++ lkeys (lstep lx0 c) t = _
      rw [hs, h2]
      simp [lkey, lx0, hc]
    · show lcmd lx0 c ++ lcmds (lstep lx0 c) t = _
      rw [hs, h3]
      simp [lcmd, lx0]

theorem in_l (b u : Bs) (h : ∀ c ∈ u, c.toNat ≠ 10) : lrun ⟨2, b⟩ u = ⟨2, b ++ u⟩ ∧ lkeys ⟨2, b⟩ u = [] ∧ lcmds ⟨2, b⟩ u = [] := by
  induction u generalizing b with
  | nil => exact ⟨by show (⟨2, b⟩ : Lx) = ⟨2, b ++ []⟩; rw [List.append_nil], rfl, rfl⟩
  | cons c u ih =>
    have hc := h c List.mem_cons_self
    have hs : lstep ⟨2, b⟩ c = ⟨2, b ++ [c]⟩ := by simp [lstep, hc]
    obtain ⟨h1, h2, h3⟩ := ih (b ++ [c]) (fun x hx => h x (List.mem_cons_of_mem _ hx))
    refine ⟨?_, ?_, ?_⟩
    · show lrun (lstep ⟨2, b⟩ c) u = _
      rw [hs, h1, List.append_assoc]
      rfl
    · show lkey _ _ ++ lkeys (lstep ⟨2, b⟩ c) u = _
      rw [hs, h2]
      simp [lkey]
    · show lcmd _ _ ++ lcmds (lstep ⟨2, b⟩ c) u = _
      rw [hs, h3]
      simp [lcmd, hc]

theorem cmd_l (u : Bs) (h : ∀ c ∈ u, c.toNat ≠ 10) (hl : u.length ≤ 80) : lrun lx0 ([29#8, 58#8] ++ u ++ [10#8]) = lx0 ∧ lkeys lx0 ([29#8, 58#8] ++ u ++ [10#8]) = [] ∧ lcmds lx0 ([29#8, 58#8] ++ u ++ [10#8]) = [u] := by
  obtain ⟨h1, h2, h3⟩ := in_l [] u h
  have e0 : lrun lx0 [29#8, 58#8] = ⟨2, []⟩ := by simp [lrun, lstep, lx0]
  have e1 : lkeys lx0 [29#8, 58#8] = [] := by simp [lkeys, lkey, lstep, lx0]
  have e2 : lcmds lx0 [29#8, 58#8] = [] := by simp [lcmds, lcmd, lstep, lx0]
  rw [List.append_assoc]
  refine ⟨?_, ?_, ?_⟩
  · rw [lrun_app, lrun_app, e0, h1]
    simp [lrun, lstep, lx0]
  · rw [lkeys_app, lkeys_app, e0, e1, h1, h2]
    simp [lkeys, lkey]
  · rw [lcmds_app, lcmds_app, e0, e2, h1, h3]
    simp [lcmds, lcmd, shut, show ¬ 80 < u.length by omega]

theorem mem_at {t : Bs} {P : Nat → Prop} (h : ∀ r, r < t.length → P (at_ t r).toNat) : ∀ c ∈ t, P c.toNat := by
  intro c hc
  obtain ⟨r, hr⟩ := List.getElem?_of_mem hc
  have hlt : r < t.length := by
    rcases Nat.lt_or_ge r t.length with h' | h'
    · exact h'
    · rw [List.getElem?_eq_none h'] at hr; cases hr
  have := h r hlt
  unfold at_ at this
  rw [hr] at this
  exact this

/-- behind k of the pieces: what is to come, and what that tells -/
structure CI (X Y : Bs) (L : List Bs) (k : Nat) : Prop where
  run : lrun lx0 X = lx0
  keys : lkeys lx0 X = Y
  cmds : lcmds lx0 X = L.take k
  len : X.length ≤ 143 * k

theorem CI.key {X Y t : Bs} {L : List Bs} {k : Nat} (h : CI X Y L k) (ht : ∀ c ∈ t, c.toNat ≠ 29) (hl : t.length ≤ 60) (hk : L.length ≤ k) : CI (X ++ t) (Y ++ t) L (k + 1) := by
  obtain ⟨h1, h2, h3⟩ := plain_l t ht
  refine ⟨by rw [lrun_app, h.run, h1], by rw [lkeys_app, h.run, h.keys, h2], ?_, by have := h.len; rw [List.length_append]; omega⟩
  rw [lcmds_app, h.run, h.cmds, h3, List.append_nil, List.take_of_length_le hk, List.take_of_length_le (by omega)]

theorem CI.both {X Y t u : Bs} {L : List Bs} {k : Nat} (h : CI X Y L k) (ht : ∀ c ∈ t, c.toNat ≠ 29) (hl : t.length ≤ 60) (hk : k < L.length) (hu : u = L.getD k []) (hun : ∀ c ∈ u, c.toNat ≠ 10) (hul : u.length ≤ 80) :
    CI (X ++ t ++ [29#8, 58#8] ++ u ++ [10#8]) (Y ++ t) L (k + 1) := by
  obtain ⟨h1, h2, h3⟩ := plain_l t ht
  obtain ⟨g1, g2, g3⟩ := cmd_l u hun hul
  have e : X ++ t ++ [29#8, 58#8] ++ u ++ [10#8] = X ++ (t ++ ([29#8, 58#8] ++ u ++ [10#8])) := by simp
  rw [e]
  refine ⟨by rw [lrun_app, lrun_app, h.run, h1, g1], by rw [lkeys_app, lkeys_app, h.run, h.keys, h1, h2, g2, List.append_nil], ?_, ?_⟩
  · rw [lcmds_app, lcmds_app, h.run, h.cmds, h1, h3, g3, List.take_add_one, List.getElem?_eq_getElem hk, hu, List.getD_eq_getElem?_getD, List.getElem?_eq_getElem hk]
    rfl
  · have := h.len
    simp only [List.length_append, List.length_cons, List.length_nil]
    omega

theorem str_at (l : Bs) (j : Nat) (h : j < (str l).size) : ((str l)[j]'h).toNat = (at_ l j).toNat := by
  have hl : j < l.length := by rw [str_size] at h; exact h
  unfold at_
  rw [List.getElem?_eq_getElem hl]
  show ((str l).data[j]'h).toNat = _
  simp [str]

/-- where it is cut -/
theorem at_cut (a : Int) (n : Nat) (hn : n ≤ 2860) : ∃ c : Nat, c ≤ n ∧ wrap64 ((IntKind.u64.wrap a).tmod ((n : Int) + 1)) = c := by
  have h0 : 0 ≤ IntKind.u64.wrap a := by rw [IntKind.wrap_u64]; omega
  rw [Int.tmod_eq_emod_of_nonneg h0]
  have h1 := Int.emod_nonneg (IntKind.u64.wrap a) (show ((n : Int) + 1) ≠ 0 by omega)
  have h2 := Int.emod_lt_of_pos (IntKind.u64.wrap a) (show (0 : Int) < (n : Int) + 1 by omega)
  generalize IntKind.u64.wrap a % ((n : Int) + 1) = u at *
  refine ⟨u.toNat, by omega, ?_⟩
  unfold wrap64
  omega

theorem str_extract (l : Bs) (i j : Nat) : (str l).extract i j = str ((l.take j).drop i) := by
  unfold str
  apply ByteArray.ext
  rw [ByteArray.data_extract]
  apply Array.toList_inj.1
  simp [List.map_take, List.map_drop, List.drop_take]

set_option maxRecDepth 100000 in
set_option maxHeartbeats 2000000 in
theorem walk (a0 : Option Addr) (len0 cap0 : Nat) (T0 : List Bs) (a1 : Option Addr) (len1 cap1 : Nat) (T1 : List Bs) (a2 : Int) (w : World) (w0 : Vals w w.heap.size a0 len0 (strs T0)) (g0 : len0 ≤ cap0 ∧ cap0 ≤ maxLen ∧ ∀ t ∈ T0, t.length ≤ maxLen) (w1 : Vals w w.heap.size a1 len1 (strs T1)) (g1 : len1 ≤ cap1 ∧ cap1 ≤ maxLen ∧ ∀ t ∈ T1, t.length ≤ maxLen) (w2 : (Lit.int .i64 a2).wf = true) :
    Calls Try.prog 6 #[.slice a0 len0 cap0, .slice a1 len1 cap1, .int .i64 a2] w fun e w' => e = .returned (.bool true) ∧ Below w.heap.size w w' := by
  have HW0 := Lib.hid w0
  have HW1 := Lib.hid w1
  have HI2 := Lib.hid w2
  have HG0 := Lib.hid g0.2.2
  have HG1 := Lib.hid g1.2.2
  have hm0 : len0 ≤ 9223372036854775807 := by have := g0.1; have := g0.2.1; unfold maxLen at this; omega
  have hm1 : len1 ≤ 9223372036854775807 := by have := g1.1; have := g1.2.1; unfold maxLen at this; omega
  clear w0 w1 w2 g0 g1
  by_cases hbig : 20 < len0 ∨ 20 < len1 ∨ len0 < len1
  · have hd : (20 < (len0 : Int) ∨ 20 < (len1 : Int)) ∨ (len0 : Int) < (len1 : Int) := by omega
    go_enter Try.func6, Try.ntmps6
    go_wp2_with fail
    refine (xhead_any w).mono ?_
    rintro e v1 ⟨rfl, hb1⟩
    rcases (show 20 < len0 ∨ (¬ 20 < len0 ∧ 20 < len1) ∨ (¬ 20 < len0 ∧ ¬ 20 < len1 ∧ len0 < len1) by omega) with h | ⟨h, h2⟩ | ⟨h, h2, h3⟩
    · have hd0 : decide (20 < (len0 : Int)) = true := by simp; omega
      go_wp2
      go_ret
      exact ⟨rfl, hb1⟩
    · have hd0 : decide (20 < (len0 : Int)) = false := by simp; omega
      have hd1 : decide (20 < (len1 : Int)) = true := by simp; omega
      go_wp2
      go_ret
      exact ⟨rfl, hb1⟩
    · have hd0 : decide (20 < (len0 : Int)) = false := by simp; omega
      have hd1 : decide (20 < (len1 : Int)) = false := by simp; omega
      have hd2 : decide ((len0 : Int) < (len1 : Int)) = true := by simp; omega
      go_wp2
      go_ret
      exact ⟨rfl, hb1⟩
  · have hl0 : len0 ≤ 20 := by omega
    have hl1 : len1 ≤ 20 := by omega
    have hl01 : len1 ≤ len0 := by omega
    have hd0 : decide (20 < (len0 : Int)) = false := by simp; omega
    have hd1 : decide (20 < (len1 : Int)) = false := by simp; omega
    have hd2 : decide ((len0 : Int) < (len1 : Int)) = false := by simp; omega
    clear hbig hm0 hm1
    have hT0 : T0.length = len0 := by have := HW0.out.1; rwa [strs_len] at this
    have hT1 : T1.length = len1 := by have := HW1.out.1; rwa [strs_len] at this
    have HT := Lib.hid (And.intro hT0 hT1)
    clear hT0 hT1
    go_enter Try.func6, Try.ntmps6
    go_wp2_with fail
    refine (xhead_any w).mono ?_
    rintro e v1 ⟨rfl, hb1⟩
    have HB1 := Lib.hid hb1
    have hs1 : w.heap.size ≤ v1.heap.size := hb1.size
    have HU0 := Lib.hid (HW0.out.below hb1)
    have HU1 := Lib.hid (HW1.out.below hb1)
    clear hb1
    go_wp2
    have HC0 := Lib.hid (show CI [] [] T1 0 from ⟨rfl, rfl, rfl, by simp⟩)
    go_loop [7, 8, 38] (fun s7 s8 i => ∃ k X Y, k ≤ len0 ∧ i = .int .i64 (k : Nat) ∧ s7 = .string (str X) ∧ s8 = .string (str Y) ∧ CI X Y T1 k) (fun _ _ i => len0 - (intOf i).toNat)
    case atStart => exact ⟨0, [], [], by omega, rfl, rfl, rfl, HC0.out⟩
    case round =>
      obtain ⟨k, X, Y, hk, rfl, rfl, rfl, hci⟩ := hrel
      have HC := Lib.hid hci
      have hXl : X.length ≤ 2860 := by have := hci.len; omega
      have hYl : Y.length ≤ 2860 := by have h1 := hci.keys; have h2 := lkeys_len lx0 X; rw [h1] at h2; omega
      have hXs := str_size X
      have hYs := str_size Y
      clear hci HC0
      by_cases hlt : k < len0
      · obtain ⟨b, off, rfl, hbB, hc⟩ := HU0.out.at (by omega)
        have hc0 := hc k hlt
        obtain ⟨t, ht⟩ : ∃ t, t = T0.getD k [] := ⟨_, rfl⟩
        rw [← ht] at hc0
        have htm : t.length ≤ 9223372036854775807 := by
          have h1 := HG0.out t (by rw [ht, List.getD_eq_getElem?_getD, List.getElem?_eq_getElem (by rw [HT.out.1]; exact hlt)]; exact List.getElem_mem _)
          unfold maxLen at h1
          omega
        have hts := str_size t
        clear hc ht
        by_cases hlong : 60 < t.length
        · have hd3 : decide (60 < (t.length : Int)) = true := by simp; omega
          go_wp2
          go_ret
          exact ⟨rfl, HB1.out⟩
        · have hd3 : decide (60 < (t.length : Int)) = false := by simp; omega
          go_wp2
          go_loop [11] (fun s11 => ∃ j : Nat, j ≤ t.length ∧ s11 = .int .i64 (j : Nat) ∧ ∀ r, r < j → (at_ t r).toNat ≠ 29) (fun s11 => t.length - (intOf s11).toNat)
          case atStart => exact ⟨0, by omega, rfl, fun r hr => absurd hr (by omega)⟩
          case round =>
            obtain ⟨j, hj, rfl, hall⟩ := hrel
            have HA := Lib.hid hall
            clear hall
            by_cases hjl : j < t.length
            · have hidx := str_at t j (by rw [hts]; exact hjl)
              have hy8 := at_small t j
              by_cases hy : (at_ t j).toNat = 29
              · rw [hy] at hidx
                clear hy
                go_wp2
                go_ret
                exact ⟨rfl, HB1.out⟩
              · have hne : (((at_ t j).toNat : Int) == 29) = false := by simp; omega
                have HY := Lib.hid hy
                clear hy
                go_wp2
                go_round
                case rel => exact ⟨j + 1, by omega, by go_num, fun r hr => by
                  rcases (show r < j ∨ r = j by omega) with h | rfl
                  · exact HA.out r h
                  · exact HY.out⟩
                case measure => simp [intOf]; omega
            · obtain rfl : j = t.length := by omega
              have HNO := Lib.hid (mem_at (P := fun x => x ≠ 29) HA.out)
              clear HA
              by_cases hkl : len1 ≤ k
              · have HC2 := Lib.hid (HC.out.key HNO.out (by omega) (by rw [HT.out.2]; exact hkl))
                have hkl' : (len1 : Int) ≤ (k : Int) := by omega
                go_wp2
                go_round
                case rel => exact ⟨_, _, _, _, _, _, _, _, ⟨k + 1, by omega, by go_num, X ++ t, by rw [str_app], Y ++ t, by rw [str_app], HC2.out⟩, rfl, rfl, rfl, rfl, rfl, rfl, rfl, rfl⟩
                case measure => simp [intOf]; omega
              · have hkl' : (k : Int) < (len1 : Int) := by omega
                obtain ⟨b1, off1, rfl, hbB1, hd⟩ := HU1.out.at (by omega)
                have hd3' := hd k (by omega)
                obtain ⟨u, hu⟩ : ∃ u, u = T1.getD k [] := ⟨_, rfl⟩
                rw [← hu] at hd3'
                have hum : u.length ≤ 9223372036854775807 := by
                  have h1 := HG1.out u (by rw [hu, List.getD_eq_getElem?_getD, List.getElem?_eq_getElem (by rw [HT.out.2]; omega)]; exact List.getElem_mem _)
                  unfold maxLen at h1
                  omega
                have hus := str_size u
                have HU := Lib.hid hu
                clear hd hu hj hjl
                by_cases hul : 80 < u.length
                · have hd4 : decide (80 < (u.length : Int)) = true := by simp; omega
                  go_wp2
                  go_ret
                  exact ⟨rfl, HB1.out⟩
                · have hd4 : decide (80 < (u.length : Int)) = false := by simp; omega
                  go_wp2
                  go_loop [12] (fun s12 => ∃ j : Nat, j ≤ u.length ∧ s12 = .int .i64 (j : Nat) ∧ ∀ r, r < j → (at_ u r).toNat ≠ 10) (fun s12 => u.length - (intOf s12).toNat)
                  case atStart => exact ⟨0, by omega, rfl, fun r hr => absurd hr (by omega)⟩
                  case round =>
                    obtain ⟨j, hj, rfl, hall⟩ := hrel
                    have HA := Lib.hid hall
                    clear hall
                    by_cases hjl : j < u.length
                    · have hidx := str_at u j (by rw [hus]; exact hjl)
                      have hy8 := at_small u j
                      by_cases hy : (at_ u j).toNat = 10
                      · rw [hy] at hidx
                        clear hy
                        go_wp2
                        go_ret
                        exact ⟨rfl, HB1.out⟩
                      · have hne : (((at_ u j).toNat : Int) == 10) = false := by simp; omega
                        have HY := Lib.hid hy
                        clear hy
                        go_wp2
                        go_round
                        case rel => exact ⟨j + 1, by omega, by go_num, fun r hr => by
                          rcases (show r < j ∨ r = j by omega) with h | rfl
                          · exact HA.out r h
                          · exact HY.out⟩
                        case measure => simp [intOf]; omega
                    · obtain rfl : j = u.length := by omega
                      have HNU := Lib.hid (mem_at (P := fun x => x ≠ 10) HA.out)
                      have HC2 := Lib.hid (HC.out.both HNO.out (by omega) (by rw [HT.out.2]; omega) HU.out HNU.out (by omega))
                      clear HA
                      go_wp2
                      go_round
                      case rel => exact ⟨_, _, _, _, _, _, _, _, ⟨k + 1, by omega, by go_num, X ++ t ++ [29#8, 58#8] ++ u ++ [10#8], by rw [str_app, str_app, str_app, str_app]; rfl, Y ++ t, by rw [str_app], HC2.out⟩, rfl, rfl, rfl, rfl, rfl, rfl, rfl, rfl⟩
                      case measure => simp [intOf]; omega
      · obtain rfl : k = len0 := by omega
        have HKX := Lib.hid (show lcmds lx0 X = T1 by rw [HC.out.cmds]; exact List.take_of_length_le (by rw [HT.out.2]; exact hl01))
        obtain ⟨c, hc, hwr⟩ := at_cut a2 X.length hXl
        go_wp2_with fail
        refine (xnew_any v1).mono ?_
        rintro e w2 ⟨F, g, rfl, hx, hF, hb2⟩
        have HX := Lib.hid hx
        have HF := Lib.hid (fun b hb => Nat.le_trans hs1 (hF b hb))
        have HB2 := Lib.hid (Below.trans HB1.out (hb2.mono hs1))
        have hs2 : w.heap.size ≤ w2.heap.size := HB2.out.size
        clear hx hF hb2
        have hex := str_extract X 0 c
        rw [List.drop_zero] at hex
        have hex2 := str_extract X c X.length
        rw [List.take_length] at hex2
        have hXX := Lib.hid (show X.take c ++ X.drop c = X from List.take_append_drop c X)
        have hlp : (X.take c).length = c := by rw [List.length_take]; omega
        have hlq : (X.drop c).length = X.length - c := List.length_drop
        obtain ⟨P, hP⟩ : ∃ P, P = X.take c := ⟨_, rfl⟩
        obtain ⟨R, hR⟩ : ∃ R, R = X.drop c := ⟨_, rfl⟩
        rw [← hP] at hex hXX hlp
        rw [← hR] at hex2 hXX hlq
        clear hP hR
        obtain ⟨c3, w3, hcv, hbv, hbel, hle, hsz3⟩ := conv_tob w2 P
        have HX3 := Lib.hid (HX.out.keep (only_of_below hbel) (fun _ _ h => h))
        have HB3 := Lib.hid (Below.trans HB2.out (hbel.mono hs2))
        have HV3 := Lib.hid hbv
        have HLT := Lib.hid HX.out.lt
        have hs3 : w.heap.size ≤ w3.heap.size := HB3.out.size
        clear hbv hbel HX
        go_wp2_with fail
        refine (xpush_any F g lx0 _ c c3 _ P w3 HX3.out (by have := HV3.out; rw [hlp] at this; exact this) hsz3 (fun _ b hb hFb => by have := in_one hb; have := HLT.out b hFb; omega) (by omega) (by simp [lx0])).mono ?_
        rintro e w4 ⟨F2, KA, kn, kc, RA, rn, rc, rfl, hx, hf, ho, h1, h2, h3, h4⟩
        have HX4 := Lib.hid hx
        have HF4 := Lib.hid (show ∀ b, F2 b → w.heap.size ≤ b from fun b hb => by rcases hf b hb with h | h; exact HF.out b h; omega)
        have HB4 := Lib.hid (only_self HB3.out hs3 ho HF.out)
        have hs4 : w.heap.size ≤ w4.heap.size := HB4.out.size
        have HLT4 := Lib.hid hx.lt
        have HK4 := Lib.hid h1
        have HR4 := Lib.hid h2
        have HKF := Lib.hid h3
        have HRF := Lib.hid h4
        have hkn : kn ≤ 2860 := by have := h1.1; have := lkeys_len lx0 P; omega
        have hrn : rn ≤ 2860 := by have := h2.1; rw [strs_len] at this; have := lcmds_len lx0 P; omega
        have hsb : (lrun lx0 P).b.length ≤ 1000000 := by have := lb_len lx0 P; have h0 : lx0.b.length = 0 := rfl; omega
        clear hx hf ho h1 h2 h3 h4 HX3 HV3 HB3 HLT hcv
        obtain ⟨c5, w5, hcv, hbv, hbel, hle5, hsz5⟩ := conv_tob w4 R
        have HX5 := Lib.hid (HX4.out.keep (only_of_below hbel) (fun _ _ h => h))
        have HB5 := Lib.hid (Below.trans HB4.out (hbel.mono hs4))
        have HV5 := Lib.hid hbv
        have HK5 := Lib.hid ((HK4.out.below hbel).more (B' := w5.heap.size) (by omega))
        have HR5 := Lib.hid ((HR4.out.below hbel).more (k := w5.heap.size) (by omega))
        have hs5 : w.heap.size ≤ w5.heap.size := HB5.out.size
        clear hbv hbel HX4 HK4 HR4
        go_wp2_with fail
        refine (xpush_any F2 g _ _ (X.length - c) c5 _ R w5 HX5.out (by have := HV5.out; rw [hlq] at this; exact this) hsz5 (fun _ b hb hFb => by have := in_one hb; have := HLT4.out b hFb; omega) (by omega) hsb).mono ?_
        rintro e w6 ⟨F3, KB, kn2, kc2, RB, rn2, rc2, rfl, hx, hf, ho, h1, h2, h3, h4⟩
        have HB6 := Lib.hid (only_self HB5.out hs5 ho HF4.out)
        have hs6 : w.heap.size ≤ w6.heap.size := HB6.out.size
        have HR6 := Lib.hid (HR5.out.only ho (Nat.le_refl _) (fun hn p hp hS => (HRF.out hn p.block ⟨p, hp, rfl⟩).2 hS))
        have HK6 := Lib.hid (HK5.out.only ho (Nat.le_refl _) (fun hn p hp hS => (HKF.out hn p.block ⟨p, hp, rfl⟩).2 hS))
        have hs56 : w5.heap.size ≤ w6.heap.size := ho.size
        have hkn2 : kn2 ≤ 2860 := by have := h1.1; have := lkeys_len (lrun lx0 P) R; omega
        have hrn2 : rn2 ≤ 2860 := by have := h2.1; rw [strs_len] at this; have := lcmds_len (lrun lx0 P) R; omega
        have hY : lkeys lx0 P ++ lkeys (lrun lx0 P) R = Y := by rw [← lkeys_app, hXX.out]; exact HC.out.keys
        have hL : lcmds lx0 P ++ lcmds (lrun lx0 P) R = T1 := by rw [← lcmds_app, hXX.out]; exact HKX.out
        have hv1 := conv_str (cap := kc) HK6.out
        have hv2 := conv_str (cap := kc2) h1
        have hcat : str (lkeys lx0 P) ++ str (lkeys (lrun lx0 P) R) = str Y := by rw [← str_app, hY]
        have HR6b := Lib.hid h2
        have hz1 := str_size (lkeys lx0 P)
        have hz2 := str_size (lkeys (lrun lx0 P) R)
        have hz1' : (lkeys lx0 P).length = kn := HK6.out.1
        have hz2' : (lkeys (lrun lx0 P) R).length = kn2 := h1.1
        have HL := Lib.hid hL
        have HE := Lib.hid (show rowsEq T1 T1 = true by unfold rowsEq; simp)
        have HU6 := Lib.hid (HW1.out.below (HB6.out))
        clear hx hf ho h1 h2 h3 h4 HX5 HV5 HB5 hcv HK5 HR5 hY hL
        rw [hz1'] at hz1
        rw [hz2'] at hz2
        have hzz : ((str Y).toList == (str Y).toList) = true := by simp
        generalize str (lkeys lx0 P) = Z1 at *
        generalize str (lkeys (lrun lx0 P) R) = Z2 at *
        generalize str Y = Z at *
        have HF0 := Lib.hid (rw_fresh w6 w.heap.size hs6)
        have hal : Below w6.heap.size w6 (w6.alloc (.cells #[] 9)) := below_lit _ _
        have HR7 := Lib.hid (HR6.out.below (hal.mono hs56))
        have HR7b := Lib.hid (HR6b.out.below hal)
        have HB7 := Lib.hid (Below.trans HB6.out (hal.mono hs6))
        have hsz7 : (w6.alloc (.cells #[] 9)).heap.size = w6.heap.size + 1 := by simp
        clear hal
        go_wp2_with (first
          | (at_builtin
             refine wpList_rwg elem_str rfl (.tmp 132) (.tmp 133) rfl w.heap.size rfl HF0.out rfl HR7.out (by omega) (by omega) ?_
             intro A8 c8 w8 hm ho hp2
             rw [Nat.zero_add] at hm
             have HM8 := Lib.hid hm
             have HV8 := Lib.hid (HR7b.out.only ho (by omega) (fun hn p hp hS => by
               obtain ⟨b9, o9, e9, h9, _⟩ := HR7b.out.2.2 hn
               rw [hp] at e9
               injection e9 with e9
               subst e9
               have := in_one hS
               simp at this
               omega))
             have HB8 := Lib.hid (only_self HB7.out (by omega) ho (fun b hb => by have := in_one hb; omega))
             have hs8 : w6.heap.size ≤ w8.heap.size := by have := ho.size; omega
             have HPP := Lib.hid hp2
             clear hm ho hp2)
          | (at_builtin
             refine wpList_rwg elem_str rfl (.tmp 134) (.tmp 135) rfl w.heap.size rfl HM8.out rfl HV8.out (by omega) (by omega) ?_
             intro A9 c9 w9 hm ho hp2
             have HM9 := Lib.hid hm
             have HB9 := Lib.hid (only_self HB8.out (by omega) ho (fun b hb => (HM8.out.inlt hb).1))
             clear hm ho hp2))
        have hs9 : w.heap.size ≤ w9.heap.size := HB9.out.size
        have h9 := HM9.out.vals
        rw [show strs [] ++ strs (lcmds lx0 P) ++ strs (lcmds (lrun lx0 P) R) = strs T1 by rw [← HL.out, strs_app]; rfl] at h9
        have hsm := same8_any w9 _ _ (rn + rn2) c9 len1 cap1 A9 a1 T1 T1 h9 (HW1.out.below HB9.out) (Nat.le_refl _) hs9 (by omega) (by omega)
        rw [HE.out] at hsm
        refine hsm.mono ?_
        rintro e w10 ⟨rfl, hb10⟩
        have HB10 := Lib.hid (Below.trans HB9.out (hb10.mono hs9))
        clear hb10 hsm h9 hv1 hv2
        go_wp2
        go_ret
        exact ⟨rfl, HB10.out⟩

set_option maxRecDepth 100000 in
theorem lifted (os : Os) (started : os.Started) (H : Type) (enc : TypeId × Value → H) :
    ReturnsInHanded {} Try.checked os 6 .any (Rows.lexCommandsSpec.pre6 enc Try.prog Try.f6 Rows.lexCommandsRow.domain false) (Rows.lexCommandsSpec.post enc Try.prog Try.f6 false true false false) := by
  refine returnsInHanded_of_change_sized (C := Try.checked) own started (by kernel_rfl) Try.func6
    (ChangeSpec.witness6 (enc := enc) (C := Try.checked) false ⟨#[], #[.slice none 0 0, .slice none 0 0, .int .i64 0], []⟩ 8 (by kernel_rfl) (by kernel_rfl) (by kernel_rfl) (by kernel_rfl)) ?_
  intro W base args ds gs before hval0 hW hcnd hsz0 _
  have hval : ∀ (j : Nat) t v, Try.f6.params[j]? = some t → args[j]? = some v → Value.okWide Try.prog W .any base t v := hval0
  have hW' := hW
  obtain ⟨p, q, hA0, hV, rfl, hfz, hnd⟩ := hW
  have hsz : (DataW.weightsEach Try.prog (Try.f6.params.toList ++ Rows.lexCommandsSpec.plain.varTypes Try.prog) (ds ++ gs)).all (· ≤ reachBytes) = true := hsz0
  have hA : DataW.TrodAll enc Try.prog W 0 (fun _ => true) true Try.f6.params.toList args.toList ds p := hA0
  rw [Try.params6] at hA hval hsz
  obtain ⟨v0, vs0, d0, ds0, p0, q0, hargs, rfl, rfl, h0, r0⟩ := trodAll_cons hA
  obtain ⟨v1, vs1, d1, ds1, p1, q1, rfl, rfl, rfl, h1, r1⟩ := trodAll_cons r0
  obtain ⟨v2, vs2, d2, ds2, p2, q2, rfl, rfl, rfl, h2, r2⟩ := trodAll_cons r1
  obtain ⟨rfl, rfl, rfl⟩ := trodAll_nil r2
  obtain rfl : args = #[v0, v1, v2] := by cases args; simp_all
  obtain ⟨rfl, rfl⟩ := trodVars_none hV
  obtain ⟨a0, len0, cap0, rfl⟩ := okWide_slice Try.underlying27 (hval 0 27 v0 rfl rfl)
  have k0 := h0
  have lt0 : ∀ x ∈ p0, x.block < W.heap.size := by obtain ⟨m, hm⟩ := k0; exact DataW.trod_lt m _ _ _ hm
  obtain ⟨T0, w0, g0⟩ : ∃ T, Vals W W.heap.size a0 len0 (strs T) ∧ len0 ≤ cap0 ∧ cap0 ≤ maxLen ∧ ∀ t ∈ T, t.length ≤ maxLen := by
    obtain ⟨fuel, hf⟩ := h0
    exact open_strs hf
  obtain ⟨a1, len1, cap1, rfl⟩ := okWide_slice Try.underlying27 (hval 1 27 v1 rfl rfl)
  have k1 := h1
  have lt1 : ∀ x ∈ p1, x.block < W.heap.size := by obtain ⟨m, hm⟩ := k1; exact DataW.trod_lt m _ _ _ hm
  obtain ⟨T1, w1, g1⟩ : ∃ T, Vals W W.heap.size a1 len1 (strs T) ∧ len1 ≤ cap1 ∧ cap1 ≤ maxLen ∧ ∀ t ∈ T, t.length ≤ maxLen := by
    obtain ⟨fuel, hf⟩ := h1
    exact open_strs hf
  obtain ⟨a2, rfl, rfl, rfl, w2⟩ := open_int Try.underlying3 (hval 2 3 v2 rfl rfl) h2
  clear hA0 hval0 hsz hsz0
  refine (walk a0 len0 cap0 T0 a1 len1 cap1 T1 a2 W w0 g0 w1 g1 w2).mono fun e W' ⟨he, bel⟩ => ?_
  subst he
  exact ⟨_, rfl, _, _, _, [], _, [], hW', trodAll_mk1 (shut_bool Try.underlying4 _), (trodAll_cons_mk (Below.trod laidOut (by kernel_rfl) (of_decide_eq_true (by kernel_rfl)) k0 bel lt0) (trodAll_cons_mk (Below.trod laidOut (by kernel_rfl) (of_decide_eq_true (by kernel_rfl)) k1 bel lt1) (trodAll_cons_mk (shut_int Try.underlying3 w2) trodAll_mk0))), rfl, bel.frame _, fun h => by cases h⟩

theorem over : Rows.lexCommandsRow.holds Try.pinned (OpenSpec.ofChange Rows.lexCommandsSpec) :=
  OpenClaim.holds_of_wide 6 Try.f6 rfl rfl rfl rfl rfl rfl rfl ⟨rfl, rfl, rfl, rfl, rfl⟩ rfl rfl rfl rfl rfl (by kernel_rfl) Try.func6 (by kernel_rfl)
    (of_decide_eq_true (by kernel_rfl)) (by unfold Func.isWrapper; first | (rw [if_pos (by decide +kernel)]; kernel_rfl) | (rw [if_neg (by decide +kernel)]; exact ⟨rfl, rfl⟩))
    (fun os started H enc _ => lifted os started H enc)

end Go.Proofs.Ytceomegglopbcaa.lexCommands
namespace Go.Proofs.Ytceomegglopbcaa
theorem lexCommands_holds : Rows.LexCommandsSaid := lexCommands.over
#print axioms lexCommands_holds
end Go.Proofs.Ytceomegglopbcaa
