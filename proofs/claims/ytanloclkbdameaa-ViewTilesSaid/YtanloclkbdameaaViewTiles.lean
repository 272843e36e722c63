/- ViewTiles: for every input the law answers true, and its arguments read as before. Conditions: none. -/
import Derived.Test.YtanloclkbdameaaVh
import Derived.Test.YtanloclkbdameaaSz
import Derived.Test.YtanloclkbdameaaIns
import Derived.Deep.DeepCutAuto
import Derived.BigQuiet
namespace Go.Proofs.Ytanloclkbdameaa.viewTiles
open Go.ChangeShapes Go.WideShapes Go.ChangeAt Go.RowKit
open Fr Ms

/-- pieces one behind the other -/
def joined (T : Nat → Bs) : Nat → Bs
  | 0 => []
  | k + 1 => joined T k ++ T k

theorem joined_len {T : Nat → Bs} {m : Nat} : ∀ k, (∀ r, r < k → (T r).length ≤ m) → (joined T k).length ≤ k * m
  | 0, _ => Nat.zero_le _
  | k + 1, h => by
    have h1 := joined_len (T := T) (m := m) k (fun r hr => h r (by omega))
    have h2 := h k (by omega)
    simp only [joined, List.length_append, Nat.succ_mul]
    omega

theorem str_extract (l : Bs) (i j : Nat) : (str l).extract i j = str ((l.take j).drop i) := by
  unfold str
  apply ByteArray.ext
  rw [ByteArray.data_extract]
  apply Array.toList_inj.1
  simp [List.map_take, List.map_drop, List.drop_take]

theorem cut_out (l : Bs) (p c : Nat) : (str l).extract p (p + c) = str ((l.drop p).take c) := by
  rw [str_extract, List.drop_take]
  congr 2
  omega

theorem str_some {t : Bs} (h : ¬ t.length = 0) : (str t).toList.isEmpty = false := by
  rw [ByteArray.toList_eq]
  rcases hh : (str t).data.toList with _ | ⟨x, r⟩
  · exfalso
    apply h
    have h2 := congrArg List.length hh
    unfold str at h2
    simpa using h2
  · rfl

theorem rt_data {p n : Nat} (h1 : p ≤ 1099511627776) (h2 : n ≤ 2042) : rt 6 p 0 n = true := by
  rw [rt_iff]
  refine ⟨by decide, ?_, ?_, ?_⟩
  · simp [okN, nu]; omega
  · simp [okN, nu]
  · simp [tx]; omega

theorem count_le (n p rm : Nat) : countOf n p (rm : Int) 30 ≤ 30 ∧ countOf n p (rm : Int) 30 ≤ n - p ∧ (0 < countOf n p (rm : Int) 30 → countOf n p (rm : Int) 30 + 11 ≤ rm) := by
  unfold countOf
  omega

set_option maxRecDepth 100000 in
set_option maxHeartbeats 4000000 in
theorem walk (a0 : Int) (a1 : Option Addr) (len1 cap1 : Nat) (A1 : Nat → Option Addr) (L1 C1 : Nat → Nat) (T1 : Nat → Bs) (a2 : Int) (a3 : Option Addr) (len3 cap3 : Nat) (z3 : List Int) (w : World) (w0 : (Lit.int .i64 a0).wf = true) (w1 : Pcs w w.heap.size a1 len1 A1 L1 C1 T1) (g1 : len1 ≤ cap1 ∧ cap1 ≤ maxLen) (w2 : (Lit.int .i64 a2).wf = true) (w3 : IsRow .i64 w a3 len3 cap3 z3) :
    Calls Try.prog 6 #[.int .i64 a0, .slice a1 len1 cap1, .int .i64 a2, .slice a3 len3 cap3] w fun e w' => e = .returned (.bool true) ∧ Below w.heap.size w w' := by
  obtain ⟨p0, hp0, ep0⟩ := rest_any a0 200 (by decide) (by decide)
  have hback := (i64_bounds w2).2
  have HW1 := Lib.hid w1
  have hm1 : len1 ≤ 9223372036854775807 := by have := g1.1; have := g1.2; unfold maxLen at this; omega
  have hm3 : len3 ≤ 9223372036854775807 := by rcases w3 with ⟨_, rfl, _⟩ | ⟨_, _, h1, h2, _⟩ <;> (try unfold maxLen at h2) <;> omega
  have HW3 := Lib.hid w3
  have HA0 := Lib.hid (And.intro w0 (And.intro w2 g1))
  have HRoom := Lib.hid (show roomOf ((1 : Int) + (p0 : Int)) = 1 + p0 from by unfold roomOf; omega)
  clear HA0 w0 w1 w2 w3 g1
  by_cases hl1 : 40 < len1
  · go_enter Try.func6, Try.ntmps6
    go_wp2_with fail
    refine (vhead_any w).mono ?_
    rintro e w1 ⟨rfl, hb1⟩
    go_wp2
    go_ret
    exact ⟨rfl, hb1⟩
  by_cases hl3 : 40 < len3
  · have hd1 : decide ((len1 : Int) > 40) = false := by simp; omega
    go_enter Try.func6, Try.ntmps6
    go_wp2_with fail
    refine (vhead_any w).mono ?_
    rintro e w1 ⟨rfl, hb1⟩
    go_wp2
    go_ret
    exact ⟨rfl, hb1⟩
  have hd1 : decide ((len1 : Int) > 40) = false := by simp; omega
  have hd3 : decide ((len3 : Int) > 40) = false := by simp; omega
  have hl1' : len1 ≤ 40 := by omega
  have hl3' : len3 ≤ 40 := by omega
  clear hl1 hl3
  go_enter Try.func6, Try.ntmps6
  go_wp2_with fail
  refine (vhead_any w).mono ?_
  rintro e w1 ⟨rfl, hb1⟩
  have HB1 := Lib.hid hb1
  clear hb1
  go_wp2_with fail
  refine (new_ring _ w1).mono ?_
  rintro e w2 ⟨rfl, hr2, hb2, hs2⟩
  rw [HRoom.out] at hr2
  have HR2 := Lib.hid hr2
  have HB2 := Lib.hid (Below.trans HB1.out (hb2.mono HB1.out.size))
  have hs1 := HB1.out.size
  clear hr2 hb2
  go_wp2_with fail
  refine (vnew_no HR2.out a2 hback).mono ?_
  rintro e w3 ⟨rfl, hx3, ho3⟩
  have hlt3 := HR2.out.lt
  rw [show startOf ([] : Bs).length (1 + p0) a2 = 0 from by unfold startOf; simp] at hx3
  have HV := Lib.hid (show VR w.heap.size w w3 (w1.heap.size + 1) w1.heap.size (1 + p0) w2.heap.size 0 0 [] from
    ⟨HR2.out.keep ho3 (fun h => h) (fun h => h), hx3, Below.trans HB2.out (ho3.below HB2.out.size (fun _ _ h => h)), by omega, by omega, by omega, by omega, by omega, Nat.le_trans HB2.out.size ho3.size⟩)
  clear hx3 ho3 HR2 HB2 HB1 hlt3
  generalize w2.heap.size = g at *
  generalize w1.heap.size = gk at *
  clear hs2
  go_wp2_with fail
  refine (vat_any HV.out.vw).mono ?_
  rintro e w4 ⟨rfl, rfl⟩
  go_wp2
  go_loopw [11, 12, 13, 45] (fun s11 s12 s13 i wr => ∃ (k p s : Nat), k ≤ len1 ∧ i = .int .i64 (k : Nat) ∧ s11 = .string (str (joined T1 k)) ∧ s12 = .int .i64 (p : Nat) ∧ s13 = .int .i64 (s : Nat) ∧ s ≤ 3 * k ∧ p ≤ (joined T1 k).length ∧ (∀ r, r < k → (T1 r).length ≤ 300) ∧
    VR w.heap.size w wr (gk + 1) gk (1 + p0) g p s (joined T1 k)) (fun _ _ _ i _ => len1 - (intOf i).toNat)
  case atStart => exact ⟨0, 0, 0, Nat.zero_le _, rfl, rfl, rfl, rfl, Nat.le_refl _, Nat.le_refl _, fun r hr => absurd hr (by omega), HV.out⟩
  case round =>
    obtain ⟨k, p, s, hk, rfl, rfl, rfl, rfl, hs, hp, hle, hv⟩ := hrel
    have HVr := Lib.hid hv
    have HLe := Lib.hid hle
    have hjl := joined_len k hle
    have hjs := str_size (joined T1 k)
    have hj40 : (joined T1 k).length ≤ 12000 := by
      have : k * 300 ≤ 40 * 300 := Nat.mul_le_mul_right _ (by omega)
      omega
    clear hv hle HV hjl
    by_cases hlt : k < len1
    · obtain ⟨b, off, rfl, hbB, hc⟩ := (HW1.out.below HVr.out.bel).outer (by omega)
      have hck := hc k hlt
      obtain ⟨hwb, hw1, hw2⟩ := HW1.out.inner k hlt
      have hbl := hwb.1
      have HBy := Lib.hid hwb
      have hLk : L1 k ≤ 9223372036854775807 := by unfold most at hw2; omega
      clear hc hwb hw2
      by_cases h300 : 300 < L1 k
      · go_wp2
        go_ret
        exact ⟨rfl, HVr.out.bel⟩
      have hd4 : decide (300 < (L1 k : Int)) = false := by simp; omega
      have h300' : L1 k ≤ 300 := by omega
      clear h300
      go_wp2_with fail
      refine (append_ring HVr.out.ring (A1 k) (L1 k) (C1 k) (T1 k) (HBy.out.below HVr.out.bel) ((HBy.out.below HVr.out.bel).away HVr.out.b1 HVr.out.b2) hw1 HVr.out.hs (by omega)).mono ?_
      rintro e w5 ⟨rfl, hr5, ho5⟩
      have HV5 := Lib.hid (show VR w.heap.size w w5 (gk + 1) gk (1 + p0) g p s (joined T1 (k + 1)) from HVr.out.came hr5 ho5)
      have hcv := conv_str (cap := C1 k) (HBy.out.below HV5.out.bel)
      have hts : (str (T1 k)).size = L1 k := by rw [str_size]; exact hbl
      have hov : ¬ (9223372036854775807 < (joined T1 k).length + L1 k) := by omega
      have hJ : str (joined T1 k) ++ str (T1 k) = str (joined T1 (k + 1)) := by rw [← str_app]; rfl
      have hp2 : p ≤ (joined T1 (k + 1)).length := by simp only [joined, List.length_append]; omega
      have hj2 : (joined T1 (k + 1)).length ≤ 12300 := by simp only [joined, List.length_append]; omega
      have HLe2 := Lib.hid (show ∀ r, r < k + 1 → (T1 r).length ≤ 300 from fun r hr => by
        rcases Nat.lt_or_ge r k with h | h
        · exact HLe.out r h
        · obtain rfl : r = k := by omega
          omega)
      clear hr5 ho5 HVr HLe hck hbB
      go_upto_region 18 with fail
      clear hcv hov hts hJ hjs
      obtain ⟨L, hL⟩ : ∃ L, joined T1 (k + 1) = L := ⟨_, rfl⟩
      rw [hL] at HV5 hp2 hj2 ⊢
      have HLL := Lib.hid hL
      have hls := str_size L
      clear hL
      go_upto_if 63 with fail
      go_cut [16] (fun s16 wx => ∃ rm : Nat, s16 = .int .i64 (rm : Nat) ∧ rm ≤ 127 ∧ wx = w5)
      case first =>
        by_cases hk3 : k < len3
        · rcases HW3.out with ⟨_, h0, _⟩ | ⟨x, rfl, h1, h2, h3, h4, h5⟩
          · omega
          · obtain ⟨b3, off3, rfl, hb3⟩ := spot_of (h4 0 (by omega))
            have hc3 := h4 k (by omega)
            rw [add_none] at hc3
            have hc3' := (HV5.out.bel.cell (p := ⟨b3, off3 + k, none⟩) hb3).trans hc3
            obtain ⟨rm, hrm, hand⟩ := bits_any (z3.getD k 0) 127 (by decide)
            have hand : bits .and .i64 (z3.getD k 0) 127 = (rm : Int) := hand
            generalize z3.getD k 0 = zk at *
            clear h4 h5 hc3
            go_wp2
            go_meet
            exact ⟨rm, rfl, hrm, rfl⟩
        · go_wp2
          go_meet
          exact ⟨40, rfl, by omega, rfl⟩
      case rest =>
        obtain ⟨rm, rfl, hrm, rfl⟩ := hcut
        go_wp2
        go_loopw [12, 13, 17] (fun s12 s13 s17 wr => ∃ (j p s : Nat), j ≤ 3 ∧ s17 = .int .i64 (j : Nat) ∧ s12 = .int .i64 (p : Nat) ∧ s13 = .int .i64 (s : Nat) ∧ s ≤ 3 * k + j ∧ p ≤ L.length ∧ VR w.heap.size w wr (gk + 1) gk (1 + p0) g p s L) (fun _ _ s17 _ => 3 - (intOf s17).toNat)
        case atStart => exact ⟨0, p, s, by omega, rfl, rfl, rfl, by omega, hp2, HV5.out⟩
        case round =>
          obtain ⟨j, p, s, hj, rfl, rfl, rfl, hsj, hpl, hv⟩ := hrel
          have HVr := Lib.hid hv
          clear hv HV5
          by_cases hj3 : j < 3
          · by_cases hb : p < L.length - (1 + p0)
            · by_cases h17 : rm < 17
              · as_aux_lemma =>
                  go_wp2_with fail
                  refine (vnext_no HVr.out.ring HVr.out.vw (rm : Int) 30 1000 hb (.inr (by omega))).mono ?_
                  rintro e w6 ⟨rfl, ho6⟩
                  have HV6 := Lib.hid (HVr.out.keep ho6)
                  clear ho6 HVr
                  go_upto_region 26 with fail
                  have HD := Lib.hid (Bx.new w6 w6.heap.size rfl #[.int .i64 12, .int .i64 0, .int .i64 0, .string (str [])] 63)
                  have HV7 := Lib.hid (HV6.out.alloc (.cells #[.int .i64 12, .int .i64 0, .int .i64 0, .string (str [])] 63))
                  clear HV6
                  generalize w6.alloc (.cells #[.int .i64 12, .int .i64 0, .int .i64 0, .string (str [])] 63) = w7 at *
                  generalize w6.heap.size = gd at *
                  have d0 := HD.out.cell 0 _ rfl
                  have d1 := HD.out.cell 1 _ rfl
                  have d2 := HD.out.cell 2 _ rfl
                  have d3 := HD.out.cell 3 _ rfl
                  rw [show str [] = ⟨#[]⟩ from rfl] at d3
                  have hd27 : decide ((rm : Int) < 17) = true := by simp; omega
                  go_wp2_with fail
                  refine (base_ring HV7.out.ring).mono ?_
                  rintro e w8 ⟨rfl, m8, hw8⟩
                  have HV8 := Lib.hid (hw8 ▸ HV7.out.drewN m8)
                  have hdb : decide ((p : Int) < ((L.length - (1 + p0) : Nat) : Int)) = true := by simp; omega
                  clear hw8 HV7 d0 d1 d2 d3 HD
                  generalize L.length - (1 + p0) = base at *
                  go_wp2
                  go_ret
                  exact ⟨rfl, HV8.out.bel⟩
              · as_aux_lemma =>
                  go_wp2_with fail
                  refine (vnext_yes HVr.out.ring HVr.out.vw (rm : Int) 30 1000 hb (by omega) (by omega) (by omega)).mono ?_
                  rintro e w6 ⟨rfl, hx6, ho6⟩
                  have HV6 := Lib.hid (HVr.out.turn hx6 ho6)
                  clear hx6 ho6 HVr
                  go_upto_region 26 with fail
                  have HD := Lib.hid (Bx.new w6 w6.heap.size rfl #[.int .i64 7, .int .i64 p, .int .i64 (L.length - (1 + p0) : Nat), .string (str [])] 63)
                  have HV7 := Lib.hid (HV6.out.alloc (.cells #[.int .i64 7, .int .i64 p, .int .i64 (L.length - (1 + p0) : Nat), .string (str [])] 63))
                  clear HV6
                  generalize w6.alloc (.cells #[.int .i64 7, .int .i64 p, .int .i64 (L.length - (1 + p0) : Nat), .string (str [])] 63) = w7 at *
                  generalize w6.heap.size = gd at *
                  have d0 := HD.out.cell 0 _ rfl
                  have d1 := HD.out.cell 1 _ rfl
                  have d2 := HD.out.cell 2 _ rfl
                  have d3 := HD.out.cell 3 _ rfl
                  have hsz := size_yes 7 p (L.length - (1 + p0) : Nat) [] 17 rfl w7 (rt_gap (by omega) (by omega))
                  have HBs := Lib.hid (fun W (hW : Ring W (gk + 1) gk (1 + p0) L) => base_ring hW)
                  obtain ⟨base, hbase⟩ : ∃ base, L.length - (1 + p0) = base := ⟨_, rfl⟩
                  rw [hbase] at d2 hsz hb HBs HV7 HD ⊢
                  have hble : base ≤ L.length := by omega
                  clear hbase
                  have HSz := Lib.hid hsz
                  clear hsz
                  have hpp : ((p : Int) != (p : Int)) = false := by simp
                  go_wp2_with fail
                  refine HSz.out.mono ?_
                  rintro e w8 ⟨rfl, hb8⟩
                  have HV8 := Lib.hid (HV7.out.keep (only_of_below hb8))
                  have HD8 := Lib.hid (HD.out.keep (only_of_below hb8) (fun h => h))
                  clear hb8 HV7 HD HSz d0 d1 d2 d3
                  have d0 := HD8.out.cell 0 _ rfl
                  have d1 := HD8.out.cell 1 _ rfl
                  have d2 := HD8.out.cell 2 _ rfl
                  have d1n := fun n => (HD8.out.drewN n).cell 1 _ rfl
                  have d2n := fun n => (HD8.out.drewN n).cell 2 _ rfl
                  have hdr : decide ((17 : Int) > (rm : Int)) = false := by simp; omega
                  have hdg : decide ((p : Int) ≥ (base : Int)) = false := by simp; omega
                  go_upto_region 33 with fail
                  go_quiet (first | (go_at_call 34; exact Calls.quiet_of (HBs.out _ (HV8.out.drewN _).ring)) | fail)
                  have HV9 := Lib.hid (HV8.out.drewN nq)
                  have HD9 := Lib.hid (HD8.out.drewN nq)
                  clear HV8 HD8 d0 d1 d2 d1n d2n
                  generalize w8.drewN nq = w9 at *
                  have d2 := HD9.out.cell 2 _ rfl
                  go_wp2
                  go_roundw
                  case rel => exact ⟨j + 1, base, s + 1, by omega, by go_num, rfl, by go_num, by omega, by omega, HV9.out⟩
                  case measure => simp [intOf]; omega
            · as_aux_lemma =>
                go_wp2_with fail
                refine (vnext_send HVr.out.ring HVr.out.vw (rm : Int) 30 1000 (by omega) (by omega) hpl).mono ?_
                intro e w6 hs6
                obtain ⟨c1, c2, c3⟩ := count_le L.length p rm
                obtain ⟨cnt, hcn⟩ : ∃ cnt, countOf L.length p (rm : Int) 30 = cnt := ⟨_, rfl⟩
                rw [hcn] at hs6 c1 c2 c3
                by_cases hc0 : cnt = 0
                · obtain ⟨rfl, ho⟩ := hs6.1 hc0
                  have HV6 := Lib.hid (HVr.out.keep ho)
                  clear hs6 ho HVr
                  go_wp2
                  go_roundw
                  case rel => exact ⟨k + 1, p, s, by omega, by go_num, by rw [HLL.out], rfl, rfl, by omega, by rw [HLL.out]; exact hpl, HLe2.out, by rw [HLL.out]; exact HV6.out.alloc _⟩
                  case measure => simp [intOf]; omega
                · obtain ⟨rfl, hx6, ho6⟩ := hs6.2 (by omega)
                  have HV6 := Lib.hid (HVr.out.turn hx6 ho6)
                  clear hs6 hx6 ho6 HVr
                  generalize ht : (L.drop p).take cnt = t at *
                  have htl : t.length = cnt := by rw [← ht, List.length_take, List.length_drop]; omega
                  have hcut := cut_out L p cnt
                  rw [ht] at hcut
                  clear ht
                  go_upto_region 26 with fail
                  have HD := Lib.hid (Bx.new w6 w6.heap.size rfl #[.int .i64 6, .int .i64 p, .int .i64 0, .string (str t)] 63)
                  have HV7 := Lib.hid (HV6.out.alloc (.cells #[.int .i64 6, .int .i64 p, .int .i64 0, .string (str t)] 63))
                  clear HV6
                  generalize w6.alloc (.cells #[.int .i64 6, .int .i64 p, .int .i64 0, .string (str t)] 63) = w7 at *
                  generalize w6.heap.size = gd at *
                  have d0 := HD.out.cell 0 _ rfl
                  have d1 := HD.out.cell 1 _ rfl
                  have d2 := HD.out.cell 2 _ rfl
                  have d3 := HD.out.cell 3 _ rfl
                  have HSz := Lib.hid (size_yes 6 p 0 t (cnt + 11) (by rw [htl]; show 6 * 1 + cnt + 5 = cnt + 11; omega) w7 (rt_data (by omega) (by omega)))
                  have hpp : ((p : Int) != (p : Int)) = false := by simp
                  have hrn : cnt + 11 ≤ rm := c3 (by omega)
                  have hts := str_size t
                  rw [htl] at hts
                  have HTL := Lib.hid htl
                  clear htl c3 hcn
                  go_wp2_with fail
                  refine HSz.out.mono ?_
                  rintro e w8 ⟨rfl, hb8⟩
                  have HV8 := Lib.hid (HV7.out.keep (only_of_below hb8))
                  have HD8 := Lib.hid (HD.out.keep (only_of_below hb8) (fun h => h))
                  clear hb8 HV7 HD HSz d0 d1 d2 d3
                  have d0 := HD8.out.cell 0 _ rfl
                  have d3 := HD8.out.cell 3 _ rfl
                  have d3n := fun n => (HD8.out.drewN n).cell 3 _ rfl
                  have hdr : decide (((cnt + 11 : Nat) : Int) > (rm : Int)) = false := by simp; omega
                  have hte := str_some (t := t) (by rw [HTL.out]; exact hc0)
                  go_upto_region 39 with fail
                  have hde : decide ((p : Int) + (cnt : Int) > (L.length : Int)) = false := by simp; omega
                  have hpc : ((p : Int) + (cnt : Int)).toNat = p + cnt := by omega
                  have hpc1 : (p : Int) ≤ (p : Int) + (cnt : Int) := by omega
                  have hpc2 : (p : Int) + (cnt : Int) ≤ (L.length : Int) := by omega
                  go_quiet (fail)
                  have HV9 := Lib.hid (HV8.out.drewN nq)
                  clear HV8 HD8 d0 d3 d3n hde hpc hpc1 hpc2 hcut
                  generalize w8.drewN nq = w9 at *
                  go_wp2
                  go_roundw
                  case rel => exact ⟨j + 1, p + cnt, s, by omega, by go_num, by go_num, rfl, by omega, by omega, HV9.out⟩
                  case measure => simp [intOf]; omega
          · obtain rfl : j = 3 := by omega
            go_wp2
            go_roundw
            case rel => exact ⟨k + 1, p, s, by omega, by go_num, by rw [HLL.out], rfl, rfl, by omega, by rw [HLL.out]; exact hpl, HLe2.out, by rw [HLL.out]; exact HVr.out⟩
            case measure => simp [intOf]; omega
    · obtain rfl : k = len1 := by omega
      go_wp2_with fail
      refine (vat_any HVr.out.vw).mono ?_
      rintro e w5 ⟨rfl, rfl⟩
      go_wp2_with fail
      refine (vstrikes_any HVr.out.vw).mono ?_
      rintro e w5 ⟨rfl, rfl⟩
      go_wp2
      go_ret
      exact ⟨rfl, HVr.out.bel⟩

set_option maxRecDepth 100000 in
theorem lifted (os : Os) (started : os.Started) (H : Type) (enc : TypeId × Value → H) :
    ReturnsInHanded {} Try.checked os 6 .any (Rows.viewTilesSpec.pre6 enc Try.prog Try.f6 Rows.viewTilesRow.domain false) (Rows.viewTilesSpec.post enc Try.prog Try.f6 false true false false) := by
  refine returnsInHanded_of_change_sized (C := Try.checked) own started (by kernel_rfl) Try.func6
    (ChangeSpec.witness6 (enc := enc) (C := Try.checked) false ⟨#[], #[.int .i64 0, .slice none 0 0, .int .i64 0, .slice none 0 0], []⟩ 8 (by kernel_rfl) (by kernel_rfl) (by kernel_rfl) (by kernel_rfl)) ?_
  intro W base args ds gs before hval0 hW hcnd hsz0 _
  have hval : ∀ (j : Nat) t v, Try.f6.params[j]? = some t → args[j]? = some v → Value.okWide Try.prog W .any base t v := hval0
  have hW' := hW
  obtain ⟨p, q, hA0, hV, rfl, hfz, hnd⟩ := hW
  have hsz : (DataW.weightsEach Try.prog (Try.f6.params.toList ++ Rows.viewTilesSpec.plain.varTypes Try.prog) (ds ++ gs)).all (· ≤ reachBytes) = true := hsz0
  have hA : DataW.TrodAll enc Try.prog W 0 (fun _ => true) true Try.f6.params.toList args.toList ds p := hA0
  rw [Try.params6] at hA hval hsz
  obtain ⟨v0, vs0, d0, ds0, p0, q0, hargs, rfl, rfl, h0, r0⟩ := trodAll_cons hA
  obtain ⟨v1, vs1, d1, ds1, p1, q1, rfl, rfl, rfl, h1, r1⟩ := trodAll_cons r0
  obtain ⟨v2, vs2, d2, ds2, p2, q2, rfl, rfl, rfl, h2, r2⟩ := trodAll_cons r1
  obtain ⟨v3, vs3, d3, ds3, p3, q3, rfl, rfl, rfl, h3, r3⟩ := trodAll_cons r2
  obtain ⟨rfl, rfl, rfl⟩ := trodAll_nil r3
  obtain rfl : args = #[v0, v1, v2, v3] := by cases args; simp_all
  obtain ⟨rfl, rfl⟩ := trodVars_none hV
  obtain ⟨a0, rfl, rfl, rfl, w0⟩ := open_int Try.underlying3 (hval 0 3 v0 rfl rfl) h0
  obtain ⟨a1, len1, cap1, rfl⟩ := okWide_slice Try.underlying52 (hval 1 52 v1 rfl rfl)
  have k1 := h1
  have lt1 : ∀ x ∈ p1, x.block < W.heap.size := by obtain ⟨m, hm⟩ := k1; exact DataW.trod_lt m _ _ _ hm
  obtain ⟨A1, L1, C1, T1, w1, g1⟩ : ∃ A L C T, Pcs W W.heap.size a1 len1 A L C T ∧ len1 ≤ cap1 ∧ cap1 ≤ maxLen := by
    obtain ⟨fuel, hf⟩ := h1
    exact open_pcs hf (fits_of hsz (j := 1) rfl rfl)
  obtain ⟨a2, rfl, rfl, rfl, w2⟩ := open_int Try.underlying2 (hval 2 2 v2 rfl rfl) h2
  obtain ⟨a3, len3, cap3, rfl⟩ := okWide_slice Try.underlying45 (hval 3 45 v3 rfl rfl)
  have k3 := h3
  have lt3 : ∀ x ∈ p3, x.block < W.heap.size := by obtain ⟨m, hm⟩ := k3; exact DataW.trod_lt m _ _ _ hm
  obtain ⟨z3, w3⟩ : ∃ zs, IsRow .i64 W a3 len3 cap3 zs := by
    obtain ⟨fuel, hf⟩ := h3
    exact open_row hf
  clear hA0 hval0 hsz hsz0
  refine (walk a0 a1 len1 cap1 A1 L1 C1 T1 a2 a3 len3 cap3 z3 W w0 w1 g1 w2 w3).mono fun e W' ⟨he, bel⟩ => ?_
  subst he
  exact ⟨_, rfl, _, _, _, [], _, [], hW', trodAll_mk1 (shut_bool Try.underlying4 _), (trodAll_cons_mk (shut_int Try.underlying3 w0) (trodAll_cons_mk (Below.trod laidOut (by kernel_rfl) (of_decide_eq_true (by kernel_rfl)) k1 bel lt1) (trodAll_cons_mk (shut_int Try.underlying2 w2) (trodAll_cons_mk (Below.trod laidOut (by kernel_rfl) (of_decide_eq_true (by kernel_rfl)) k3 bel lt3) trodAll_mk0)))), rfl, bel.frame _, fun h => by cases h⟩

theorem over : Rows.viewTilesRow.holds Try.pinned (OpenSpec.ofChange Rows.viewTilesSpec) :=
  OpenClaim.holds_of_wide 6 Try.f6 rfl rfl rfl rfl rfl rfl rfl ⟨rfl, rfl, rfl, rfl, rfl⟩ rfl rfl rfl rfl rfl (by kernel_rfl) Try.func6 (by kernel_rfl)
    (of_decide_eq_true (by kernel_rfl)) (by unfold Func.isWrapper; first | (rw [if_pos (by decide +kernel)]; kernel_rfl) | (rw [if_neg (by decide +kernel)]; exact ⟨rfl, rfl⟩))
    (fun os started H enc _ => lifted os started H enc)

end Go.Proofs.Ytanloclkbdameaa.viewTiles
namespace Go.Proofs.Ytanloclkbdameaa
theorem viewTiles_holds : Rows.ViewTilesSaid := viewTiles.over
#print axioms viewTiles_holds
end Go.Proofs.Ytanloclkbdameaa
