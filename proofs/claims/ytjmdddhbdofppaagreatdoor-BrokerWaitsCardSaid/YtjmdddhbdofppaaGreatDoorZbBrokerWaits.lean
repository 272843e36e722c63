/- BrokerWaits: for every input the law answers true, and its arguments read as before. Conditions: none. -/
import Derived.Test.YtjmdddhbdofppaaGreatDoorZb10
import Derived.Test.YtjmdddhbdofppaaGreatDoorZb42
import Derived.Test.YtjmdddhbdofppaaGreatDoorZbQj

namespace Go.Proofs.YtjmdddhbdofppaaGreatDoor.brokerWaits
open Go.ChangeShapes Go.WideShapes Go.ChangeAt Go.RowKit
open Fr Bk
theorem cfL_right {l : Nat} (h1 : 1 ≤ l) (h2 : l ≤ 1000) : CfOk (cfL l) := ⟨⟨by show 1 ≤ 4096; decide, by show 4096 ≤ 65536; decide⟩, ⟨by show 1 ≤ 512; decide, by show 512 ≤ 2042; decide⟩, ⟨by show 220 ≤ 2048; decide, by show 2048 ≤ 65536; decide⟩, ⟨by show 1 ≤ 256; decide, by show 256 ≤ 65536; decide⟩, by show 3 ≤ 9; decide, ⟨h1, h2⟩, by show 0 ≤ 1000; decide, ⟨by show 1 ≤ 80; decide, by show 80 ≤ 500; decide⟩⟩
def TurnX (l u k t : Nat) (b : Br) : Prop :=
  (t < l ∧ k < u ∧ TurnAt b l (k * l + t) (k + 1) (u - k) (l - t)) ∨ (t = l ∧ k + 1 < u ∧ TurnAt b l ((k + 1) * l) (k + 2) (u - (k + 1)) l) ∨ (t = l ∧ k + 1 = u ∧ TurnAt b l ((k + 1) * l) u 1 l)
theorem turnX_next {l u k t : Nat} {b : Br} (h : TurnX l u k t b) (ht : t < l) (hk : k < u) (hu : u ≤ 9) (hl : l ≤ 8) : TurnX l u k (t + 1) (tickB b) := by
  rcases h with ⟨_, _, h⟩ | ⟨h0, _⟩ | ⟨h0, _⟩
  · have hb : k * l + t < 72 := by
      have : (k + 1) * l ≤ 9 * 8 := Nat.mul_le_mul (by omega) hl
      rw [Nat.add_mul, Nat.one_mul] at this
      omega
    have e1 : (k + 1) * l = k * l + l := by rw [Nat.add_mul, Nat.one_mul]
    by_cases h1 : t + 1 < l
    · obtain ⟨n, hn⟩ : ∃ n, u - k = n + 1 := ⟨u - k - 1, by omega⟩
      rw [hn] at h
      have := h.tick1 hb (by omega)
      exact .inl ⟨h1, hk, by rw [hn]; rw [show k * l + (t + 1) = k * l + t + 1 by omega, show l - (t + 1) = l - t - 1 by omega]; exact this⟩
    · have h2 : l - t = 1 := by omega
      rw [h2] at h
      by_cases h3 : k + 1 < u
      · obtain ⟨n, hn⟩ : ∃ n, u - k = n + 2 := ⟨u - k - 2, by omega⟩
        rw [hn] at h
        have := h.tick2 hb
        exact .inr (.inl ⟨by omega, h3, by rw [e1, show k * l + l = k * l + t + 1 by omega, show u - (k + 1) = n + 1 by omega]; exact this⟩)
      · have hk1 : k + 1 = u := by omega
        rw [show u - k = 1 by omega] at h
        have := h.tick3 hb
        exact .inr (.inr ⟨by omega, hk1, by rw [e1, show k * l + l = k * l + t + 1 by omega, ← hk1]; exact this⟩)
  · omega
  · omega
theorem turnX_ev {l u k t : Nat} {b : Br} (h : TurnX l u k t b) : EvOk b (k * l + t) 39600 0 := by
  have e1 : (k + 1) * l = k * l + l := by rw [Nat.add_mul, Nat.one_mul]
  rcases h with ⟨_, _, h⟩ | ⟨rfl, _, h⟩ | ⟨rfl, _, h⟩
  · exact h.ev
  · rw [← e1]; exact h.ev
  · rw [← e1]; exact h.ev
theorem turnX_zero {l u : Nat} {b : Br} (h : WaitAt b l u) (hl : 1 ≤ l) (hu : 1 ≤ u) (hu9 : u ≤ 9) : TurnX l u 0 0 b := by
  obtain ⟨n, rfl⟩ : ∃ n, u = n + 1 := ⟨u - 1, by omega⟩
  have h1 := h.turn (by omega)
  refine .inl ⟨by omega, by omega, ?_⟩
  rw [Nat.zero_mul, Nat.add_zero, Nat.sub_zero, Nat.sub_zero]
  exact h1
theorem turnX_begin {l u k : Nat} {b : Br} (h : TurnX l u k l b) (hk : k + 1 < u) (hl : 0 < l) : TurnX l u (k + 1) 0 b := by
  rcases h with ⟨h0, _⟩ | ⟨_, _, h⟩ | ⟨_, h0, _⟩
  · omega
  · exact .inl ⟨hl, hk, by rw [Nat.add_zero, Nat.sub_zero]; exact h⟩
  · omega
theorem turnX_hold {l u k : Nat} {b : Br} (h : TurnX l u k 0 b) (hl : 0 < l) (hk : k < u) : fhold b.fl = ((k : Nat) : Int) + 1 := by
  rcases h with ⟨_, _, h⟩ | ⟨h0, _⟩ | ⟨h0, _⟩
  · obtain ⟨n, hn⟩ : ∃ n, u - k = n + 1 := ⟨u - k - 1, by omega⟩
    rw [hn] at h
    have := h.hold
    rw [this]
    push_cast
    rfl
  · omega
  · omega
theorem turnX_end {l u : Nat} {b : Br} (h : TurnX l u (u - 1) l b) (hu : 0 < u) : fhold b.fl = u := by
  rcases h with ⟨h0, _⟩ | ⟨_, h0, _⟩ | ⟨_, _, h⟩
  · omega
  · omega
  · exact h.hold
set_option maxRecDepth 100000 in
set_option maxHeartbeats 1000000 in
theorem walk (a0 : Int) (a1 : Int) (w : World) (w0 : (Lit.int .i64 a0).wf = true) (w1 : (Lit.int .i64 a1).wf = true) (ht : TI w) :
    Calls Tryz.prog 13 #[.int .i64 a0, .int .i64 a1] w fun e w' => e = .returned (.bool true) ∧ Below w.heap.size w w' := by
  obtain ⟨q, hq7, hand⟩ := bits_any a0 7 (by decide)
  obtain ⟨r, hr7, hand1⟩ := bits_any a1 7 (by decide)
  replace hand : bits .and .i64 a0 7 = (q : Int) := hand
  replace hand1 : bits .and .i64 a1 7 = (r : Int) := hand1
  obtain ⟨l, hl⟩ : ∃ l, 1 + q = l := ⟨_, rfl⟩
  obtain ⟨u, hu⟩ : ∃ u, 2 + r = u := ⟨_, rfl⟩
  have hl1 : 1 ≤ l := by omega
  have hl2 : l ≤ 8 := by omega
  have hu1 : 2 ≤ u := by omega
  have hu2 : u ≤ 9 := by omega
  have hadd : wrap64 ((1 : Int) + (q : Int)) = (l : Nat) := by rw [IntWalk.wrap64_in _ (by omega)]; omega
  have hadd1 : wrap64 ((2 : Int) + (r : Int)) = (u : Nat) := by rw [IntWalk.wrap64_in _ (by omega)]; omega
  have HA0 := Lib.hid w0
  have HA1 := Lib.hid w1
  have HTI := Lib.hid ht
  clear HA0 HA1 w0 w1 ht hl hu hq7 hr7
  go_enter Tryz.func13, Tryz.ntmps13
  go_wp2_with fail
  refine (bhead_any w HTI.out).mono ?_
  rintro e w1 ⟨rfl, hb1⟩
  have HB1 := Lib.hid hb1
  clear hb1
  go_wp2_with fail
  refine (default_any _).mono ?_
  rintro e w2 ⟨rfl, hb2⟩
  have HB2 := Lib.hid (Below.trans HB1.out (hb2.mono HB1.out.size))
  clear hb2
  unfold cv
  go_upto_region 6 with fail
  have hx3 := Bx.new w2 _ rfl #[.int .i64 4096, .int .i64 512, .int .i64 2048, .int .i64 256, .int .i64 3, .int .i64 100, .int .i64 0, .int .i64 80] 23
  have hb3 : Below w.heap.size w (w2.alloc (.cells #[.int .i64 4096, .int .i64 512, .int .i64 2048, .int .i64 256, .int .i64 3, .int .i64 100, .int .i64 0, .int .i64 80] 23)) := HB2.out.alloc HB2.out.size _
  generalize w2.alloc (.cells #[.int .i64 4096, .int .i64 512, .int .i64 2048, .int .i64 256, .int .i64 3, .int .i64 100, .int .i64 0, .int .i64 80] 23) = w3 at *
  have hgw : w.heap.size ≤ w2.heap.size := HB2.out.size
  generalize w2.heap.size = gc at *
  have f6 := hx3.free 5
  have c6 := hx3.cell 5 _ rfl
  have hx4 := hx3.set 5 (.int .i64 (l : Nat))
  have HB4 := Lib.hid (hb3.setCell (p := ⟨gc, 5, none⟩) (by exact hgw) (.int .i64 (l : Nat)))
  clear hx3 hb3 HB1 HB2
  have d0 := hx4.cell 0 (.int .i64 4096) rfl
  have d1 := hx4.cell 1 (.int .i64 512) rfl
  have d2 := hx4.cell 2 (.int .i64 2048) rfl
  have d3 := hx4.cell 3 (.int .i64 256) rfl
  have d4 := hx4.cell 4 (.int .i64 3) rfl
  have d5 := hx4.cell 5 (.int .i64 (l : Nat)) rfl
  have d6 := hx4.cell 6 (.int .i64 0) rfl
  have d7 := hx4.cell 7 (.int .i64 80) rfl
  clear hx4
  have HNew := Lib.hid (fun (W : World) (hW : Below w.heap.size w W) => (lb_new (cfL_right (l := l) hl1 (by omega)) W (HTI.out.below hW) : Calls Tryz.prog 21 #[.agg #[.int .i64 4096, .int .i64 512, .int .i64 2048, .int .i64 256, .int .i64 3, .int .i64 (l : Nat), .int .i64 0, .int .i64 80]] W fun e w' => ∃ g, e = .returned (.pointer (some (at0 g))) ∧ LBx W.heap.size g w' (bnew (cfL l)) ∧ Below W.heap.size W w'))
  go_wp2_with fail
  refine (HNew.out _ HB4.out).mono ?_
  rintro e w5 ⟨g, rfl, hl5, hb5⟩
  have HL5 := Lib.hid hl5
  have HB5 := Lib.hid (Below.trans HB4.out (hb5.mono HB4.out.size))
  have hn0 : w.heap.size ≤ (w3.setCell ⟨gc, 5, none⟩ (.int .i64 (l : Nat))).heap.size := HB4.out.size
  clear hl5 hb5 HNew d0 d1 d2 d3 d4 d5 d6 d7 c6 f6 HB4
  generalize (w3.setCell ⟨gc, 5, none⟩ (.int .i64 (l : Nat))).heap.size = n0 at *
  go_wp2
  clear hand hand1 hadd hadd1
  go_loopw [7] (fun v wr => ∃ (i : Nat) (b : Br), v = .int .i64 ((i : Int) + 1) ∧ i ≤ u ∧ WaitAt b l i ∧ LBx n0 g wr b ∧ Below w.heap.size w wr)
    (fun v _ => match v with | .int _ x => ((u : Int) + 1 - x).toNat | _ => 0)
  case atStart =>
    exact ⟨0, _, rfl, Nat.zero_le _, wait_begin hl1 (by omega), HL5.out, HB5.out⟩
  case round =>
    obtain ⟨i, b, rfl, hi, hwt, hlr, hbr⟩ := hrel
    have HW := Lib.hid hwt
    have HLR := Lib.hid hlr
    have HBR := Lib.hid hbr
    clear hwt hlr hbr HL5 HB5
    by_cases hiu : i = u
    · subst hiu
      have hle : ¬ ((i : Int) + 1 ≤ (i : Int)) := by omega
      have h2 := HW.out
      have hT0 := turnX_zero h2 hl1 (Nat.le_trans (by decide) hu1) hu2
      clear h2
      have HT0 := Lib.hid hT0
      clear hT0 HW
      go_wp2
      go_loopw [8] (fun v wr => ∃ (k : Nat) (b : Br), v = .int .i64 ((k : Int) + 1) ∧ k ≤ i ∧ ((k < i ∧ TurnX l i k 0 b) ∨ (k = i ∧ TurnX l i (i - 1) l b)) ∧ LBx n0 g wr b ∧ Below w.heap.size w wr)
        (fun v _ => match v with | .int _ x => ((i : Int) + 1 - x).toNat | _ => 0)
      case atStart =>
        exact ⟨0, b, rfl, Nat.zero_le _, .inl ⟨by omega, HT0.out⟩, HLR.out, HBR.out⟩
      case round =>
        obtain ⟨k, b, rfl, hk, htx, hlr, hbr⟩ := hrel
        have HLK := Lib.hid hlr
        have HBK := Lib.hid hbr
        clear hlr hbr HLR HBR HT0
        rcases htx with ⟨hki, htx⟩ | ⟨rfl, htx⟩
        · have hle : (k : Int) + 1 ≤ (i : Int) := by omega
          have hev := turnX_ev htx
          have hh := turnX_hold htx hl1 hki
          have HH := Lib.hid (lb_holder HLK.out hev.ok)
          have HTX := Lib.hid htx
          clear htx hev
          go_wp2_with fail
          refine HH.out.mono ?_
          rintro e w6 ⟨rfl, hl6, hb6⟩
          rw [hh]
          have HL6 := Lib.hid hl6
          have HB6 := Lib.hid (Below.trans HBK.out (hb6.mono HBK.out.size))
          clear hl6 hb6 hh HH
          go_wp2
          go_loopw [9] (fun v wr => ∃ (t : Nat) (b : Br), v = .int .i64 (t : Nat) ∧ t ≤ l ∧ TurnX l i k t b ∧ LBx n0 g wr b ∧ Below w.heap.size w wr)
            (fun v _ => match v with | .int _ x => ((l : Int) - x).toNat | _ => 0)
          case atStart =>
            exact ⟨0, b, rfl, Nat.zero_le _, HTX.out, HL6.out, HB6.out⟩
          case round =>
            obtain ⟨t, b, rfl, ht, htx, hlr, hbr⟩ := hrel
            have HLT := Lib.hid hlr
            have HBT := Lib.hid hbr
            clear hlr hbr HTX HL6 HB6 HLK HBK
            by_cases htl : t = l
            · subst htl
              have HTX := Lib.hid htx
              clear htx
              go_wp2
              go_roundw
              case rel =>
                refine ⟨k + 1, b, by go_num, by omega, ?_, HLT.out, HBT.out⟩
                by_cases hk1 : k + 1 < i
                · exact .inl ⟨hk1, turnX_begin HTX.out hk1 (by omega)⟩
                · exact .inr ⟨by omega, by rw [show i - 1 = k by omega]; exact HTX.out⟩
              case measure => simp; omega
            · have hlt : (t : Int) < (l : Int) := by omega
              have hev := turnX_ev htx
              have hb72 : k * l + t ≤ 1000 := by
                have : k * l ≤ 9 * 8 := Nat.mul_le_mul (by omega) hl2
                omega
              have hnx := turnX_next htx (by omega) hki hu2 hl2
              have HNX := Lib.hid hnx
              have HT := Lib.hid (lb_tick HLT.out hev (by omega))
              clear hev htx hnx
              go_wp2_with fail
              refine HT.out.mono ?_
              rintro e w7 ⟨rfl, hl7, hb7⟩
              have HL7 := Lib.hid hl7
              have HB7 := Lib.hid (Below.trans HBT.out (hb7.mono hn0))
              clear hl7 hb7 HT
              have ht1 : t + 1 ≤ 8 := by omega
              clear hb72
              go_wp2
              go_roundw
              case rel => exact ⟨t + 1, tickB b, by go_num, by omega, HNX.out, HL7.out, HB7.out⟩
              case measure => simp; omega
        · have hle : ¬ ((k : Int) + 1 ≤ (k : Int)) := by omega
          have hev := turnX_ev htx
          have hh := turnX_end htx (by omega)
          have HH := Lib.hid (lb_holder HLK.out hev.ok)
          clear htx hev
          go_wp2_with fail
          refine HH.out.mono ?_
          rintro e w6 ⟨rfl, hl6, hb6⟩
          rw [hh]
          have HB6 := Lib.hid (Below.trans HBK.out (hb6.mono HBK.out.size))
          clear hl6 hb6 hh HH
          go_wp2
          exact bodyPost_ret (v := .bool true) (by simp [results, Tryz.results13, go_sem]) rfl ⟨rfl, HB6.out⟩
    · have hle : (i : Int) + 1 ≤ (u : Int) := by omega
      obtain ⟨v1, v2, v3⟩ := HW.out.next (by omega)
      have hid1 : wf64 ((i : Int) + 1) := wf_id (k := i + 1) (by omega)
      have HV := Lib.hid (And.intro v1 (And.intro v2 v3))
      have HCn := Lib.hid (lb_connect HLR.out HW.out.ev.ok ((i : Int) + 1) hid1)
      clear v1 v2 v3
      go_wp2_with fail
      refine HCn.out.mono ?_
      rintro e w6 ⟨rfl, hl6, hb6⟩
      have HL6 := Lib.hid (show LBx n0 g w6 (wt1 b i) from hl6)
      have HB6 := Lib.hid (Below.trans HBR.out (hb6.mono hn0))
      clear hl6 hb6 HCn HBR
      go_wp2_with fail
      refine (lhello_any wU (by decide) w6).mono ?_
      rintro e w7 ⟨A7, c7, rfl, hy7, hn7, _, hb7⟩
      have HW7 := Lib.hid (LAway.made (n := (enc (helloM wU)).length) HL6.out hb7 hn7)
      have HY7 := Lib.hid hy7
      have HB7 := Lib.hid (Below.trans HB6.out (hb7.mono HB6.out.size))
      clear hy7 hn7 hb7
      have HBy := Lib.hid (lb_bytes HW7.out HV.out.1 (by omega) ((i : Int) + 1) hid1 c7 HY7.out (by rw [enc_len5]; decide))
      go_wp2_with fail
      refine HBy.out.mono ?_
      rintro e w8 ⟨rfl, hl8, hb8⟩
      have HL8 := Lib.hid (show LBx n0 g w8 (wt2 b i) from hl8)
      have HB8 := Lib.hid (Below.trans HB7.out (hb8.mono hn0))
      clear hl8 hb8 HBy HW7 HY7 HL6 HB6 HB7
      go_wp2_with fail
      refine (ltyped_any 1 (esc wFloor) (by decide) (by decide) (by decide) w8).mono ?_
      rintro e w9 ⟨A9, c9, rfl, hy9, hn9, _, hb9⟩
      have HW9 := Lib.hid (LAway.made (n := (enc (keys 1 (esc wFloor))).length) HL8.out hb9 hn9)
      have HY9 := Lib.hid hy9
      have HB9 := Lib.hid (Below.trans HB8.out (hb9.mono HB8.out.size))
      clear hy9 hn9 hb9
      have HBy := Lib.hid (lb_bytes HW9.out HV.out.2.1 (by omega) ((i : Int) + 1) hid1 c9 HY9.out (by rw [enc_len5]; decide))
      go_wp2_with fail
      refine HBy.out.mono ?_
      rintro e w10 ⟨rfl, hl10, hb10⟩
      have HL10 := Lib.hid (show LBx n0 g w10 (wt3 b i) from hl10)
      have HB10 := Lib.hid (Below.trans HB9.out (hb10.mono hn0))
      clear hl10 hb10 HBy HW9 HY9 HL8 HB8 HB9
      have hi1 : i + 1 ≤ 9 := by omega
      go_wp2
      go_roundw
      case rel => exact ⟨i + 1, wt3 b i, by go_num, by omega, HV.out.2.2, HL10.out, HB10.out⟩
      case measure => simp; omega
theorem w_in : Tryz.checked.prog.inits.idxOf? 13 = none := by kernel_rfl
theorem w_ok (os : Os) : Input.okWideB Tryz.prog ((World.doorLaid Tryz.prog 400 os).forCall (fun _ _ => 0) ⟨#[], #[.int .i64 0, .int .i64 0], []⟩) 13 ⟨#[], #[.int .i64 0, .int .i64 0], []⟩ = true := by kernel_rfl
theorem w_pre (os : Os) (H : Type) (enc : TypeId × Value → H) : Rows.brokerWaitsSpec.preB enc Tryz.prog Tryz.f13 [] false ((World.doorLaid Tryz.prog 400 os).forCall (fun _ _ => 0) ⟨#[], #[.int .i64 0, .int .i64 0], []⟩).memory #[.int .i64 0, .int .i64 0] 8 = true := by kernel_rfl
theorem w_sz (os : Os) (H : Type) (enc : TypeId × Value → H) : Rows.brokerWaitsSpec.sizedB enc Tryz.prog Tryz.f13 false ((World.doorLaid Tryz.prog 400 os).forCall (fun _ _ => 0) ⟨#[], #[.int .i64 0, .int .i64 0], []⟩).memory #[.int .i64 0, .int .i64 0] 8 = true := by kernel_rfl
set_option maxRecDepth 100000 in
theorem lifted (os : Os) (started : os.Started) (H : Type) (enc : TypeId × Value → H) :
    ReturnsInHanded {} Tryz.checked os 13 .any (fun w args => (Rows.brokerWaitsSpec.pre enc Tryz.prog Tryz.f13 [] false w args ∧ laidMetH Tryz.prog laidL w) ∧ sizedMet enc Tryz.prog Tryz.f13 (OpenSpec.ofChange Rows.brokerWaitsSpec) false w args)
      (Rows.brokerWaitsSpec.post enc Tryz.prog Tryz.f13 false true false false) := by
  refine returnsInHanded_of_change_and (C := Tryz.checked) (X := fun w _ => laidMetH Tryz.prog laidL w) (fun _ _ _ hh h => h.of_heap hh) own started w_in Tryz.func13
    (ChangeSpec.witness_shaped (enc := enc) (C := Tryz.checked) (os := os) (X := fun w _ => laidMetH Tryz.prog laidL w) false (World.doorLaid Tryz.prog 400 os) #[.int .i64 0, .int .i64 0] 8 rfl (door_shaped os _) (w_ok os) (w_pre os H enc) (w_sz os H enc) (door_met os _)) ?_
  intro W base args ds gs before hval0 hW hcnd hsz0 hL _
  have hti := ti_of hL
  have hval : ∀ (j : Nat) t v, Tryz.f13.params[j]? = some t → args[j]? = some v → Value.okWide Tryz.prog W .any base t v := hval0
  have hW' := hW
  obtain ⟨p, q, hA0, hV, rfl, hfz, hnd⟩ := hW
  have hsz : (DataW.weightsEach Tryz.prog (Tryz.f13.params.toList ++ Rows.brokerWaitsSpec.plain.varTypes Tryz.prog) (ds ++ gs)).all (· ≤ reachBytes) = true := hsz0
  have hA : DataW.TrodAll enc Tryz.prog W 0 (fun _ => true) true Tryz.f13.params.toList args.toList ds p := hA0
  rw [Tryz.params13] at hA hval hsz
  obtain ⟨v0, vs0, d0, ds0, p0, q0, hargs, rfl, rfl, h0, r0⟩ := trodAll_cons hA
  obtain ⟨v1, vs1, d1, ds1, p1, q1, rfl, rfl, rfl, h1, r1⟩ := trodAll_cons r0
  obtain ⟨rfl, rfl, rfl⟩ := trodAll_nil r1
  obtain rfl : args = #[v0, v1] := by cases args; simp_all
  obtain ⟨rfl, rfl⟩ := trodVars_none hV
  obtain ⟨a0, rfl, rfl, rfl, w0⟩ := open_int Tryz.underlying3 (hval 0 3 v0 rfl rfl) h0
  obtain ⟨a1, rfl, rfl, rfl, w1⟩ := open_int Tryz.underlying3 (hval 1 3 v1 rfl rfl) h1
  clear hA0 hval0 hsz hsz0
  refine (walk a0 a1 W w0 w1 hti).mono fun e W' ⟨he, bel⟩ => ?_
  subst he
  exact ⟨_, rfl, _, _, _, [], _, [], hW', trodAll_mk1 (shut_bool Tryz.underlying4 _), (trodAll_cons_mk (shut_int Tryz.underlying3 w0) (trodAll_cons_mk (shut_int Tryz.underlying3 w1) trodAll_mk0)), rfl, bel.frame _, fun h => by cases h⟩
theorem q0 : (Rows.brokerWaitsRow.wf (OpenSpec.ofChange Rows.brokerWaitsSpec)) = true := by kernel_rfl
theorem q3 : (Tryz.f13.params.all (Tryz.prog.readableRec ·)) = true := by kernel_rfl
theorem q4 : (namedTie Tryz.prog Rows.brokerWaitsRow.named Rows.brokerWaitsSpec.vars) = true := by kernel_rfl
theorem q5 : ((Rows.brokerWaitsRow.stops == [])) = true := by kernel_rfl
theorem q7 : ((Rows.brokerWaitsRow.knobs == [])) = true := by kernel_rfl
theorem q9 : ((Rows.brokerWaitsRow.inPlace == Tryz.prog.inPlace 13)) = true := by kernel_rfl
theorem q10 : ((Rows.brokerWaitsRow.unfollowed == Tryz.prog.unfollowed 13)) = true := by kernel_rfl
theorem q11 : ((Rows.brokerWaitsRow.recurses == Tryz.prog.recurses 13)) = true := by kernel_rfl
theorem q12 : ((Rows.brokerWaitsRow.named == Tryz.prog.varsNamed 13)) = true := by kernel_rfl
theorem q13 : ((Rows.brokerWaitsRow.maps == (Tryz.f13.params.toList ++ Rows.brokerWaitsSpec.plain.varTypes Tryz.prog).any (Tryz.prog.mapsRec ·))) = true := by kernel_rfl
theorem q14 : ((Rows.brokerWaitsRow.ifaces == (Tryz.f13.params.toList ++ Rows.brokerWaitsSpec.plain.varTypes Tryz.prog).any (Tryz.prog.ifacesRec ·))) = true := by kernel_rfl
theorem q15 : ((Rows.brokerWaitsRow.mapsOut == Tryz.prog.mapsAmong Tryz.f13.resultTypes.toList)) = true := by kernel_rfl
theorem q16 : ((Rows.brokerWaitsRow.loops == (Tryz.f13.params.toList ++ Rows.brokerWaitsSpec.plain.varTypes Tryz.prog).any (Tryz.prog.loopsFrom ·))) = true := by kernel_rfl
theorem q17 : ((Rows.brokerWaitsRow.wideKeys == (Tryz.f13.params.toList ++ Rows.brokerWaitsSpec.plain.varTypes Tryz.prog ++ Tryz.f13.resultTypes.toList).any (Tryz.prog.wideKeysFrom ·))) = true := by kernel_rfl
theorem q18 : (Rows.brokerWaitsSpec.vars.all (Tryz.prog.varReadable ·)) = true := by kernel_rfl
theorem q19 : (Tryz.f13.resultTypes.all (fun t => Tryz.prog.readableRec t && decide (t < Tryz.prog.types.size))) = true := by kernel_rfl
theorem q20 : ((Rows.brokerWaitsRow.ifacesOut == Tryz.f13.resultTypes.toList.any (Tryz.prog.ifacesRec ·))) = true := by kernel_rfl
theorem q21 : ((Rows.brokerWaitsRow.loopsOut == Tryz.f13.resultTypes.toList.any (Tryz.prog.loopsFrom ·))) = true := by kernel_rfl
theorem q22 : ((Rows.brokerWaitsRow.plainKeys == Tryz.prog.plainKeys)) = true := (show Rows.brokerWaitsRow.plainKeys = Rows.brokerEventsRow.plainKeys from rfl) ▸ pq22
theorem q23 : (Rows.brokerWaitsRow.shortTexts.isNone) = true := by kernel_rfl
theorem q26 : ((Rows.brokerWaitsRow.lifted == Tryz.prog.liftsFinal)) = true := (show Rows.brokerWaitsRow.lifted = Rows.brokerEventsRow.lifted from rfl) ▸ pq26
theorem q27 : ((Tryz.prog.make == some Rows.brokerWaitsRow.make)) = true := (show Rows.brokerWaitsRow.make = Rows.brokerEventsRow.make from rfl) ▸ pq27
theorem q28 : kindsAre Tryz.prog Rows.brokerWaitsRow Tryz.f13 = true := by kernel_rfl
theorem q29 : ((Rows.brokerWaitsRow.pinned == Rows.brokerWaitsRow.pinnedBy)) = true := by kernel_rfl
theorem q30 : ((Rows.brokerWaitsRow.veiled == (Tryz.f13.params.toList ++ Rows.brokerWaitsSpec.plain.varTypes Tryz.prog ++ Tryz.f13.resultTypes.toList).any (Tryz.prog.veiledRec ·))) = true := by kernel_rfl
theorem q31 : (Rows.brokerWaitsRow.veiledFits Tryz.prog Tryz.f13.params.toList (Tryz.f13.params.toList ++ Rows.brokerWaitsSpec.plain.varTypes Tryz.prog ++ Tryz.f13.resultTypes.toList)) = true := by kernel_rfl
theorem q_named : Tryz.prog.funcNamed Rows.brokerWaitsRow.func = some 13 := by kernel_rfl
theorem q_inst : Tryz.f13.isInstance Tryz.prog Rows.brokerWaitsRow.origin Rows.brokerWaitsRow.targs := of_decide_eq_true (by kernel_rfl)
theorem q_wrap : Tryz.f13.isWrapper Tryz.prog Rows.brokerWaitsRow.wrapper Rows.brokerWaitsRow.mainSum := by unfold Func.isWrapper; first | (rw [if_pos (by decide +kernel)]; kernel_rfl) | (rw [if_neg (by decide +kernel)]; exact ⟨rfl, rfl⟩)
set_option maxRecDepth 100000 in
theorem q_all : joinedFacts Tryz.prog 13 Tryz.f13 Rows.brokerWaitsSpec Rows.brokerWaitsRow = true := joined_of (P := Tryz.prog) (f := 13) (fn := Tryz.f13) (s := Rows.brokerWaitsSpec) (c := Rows.brokerWaitsRow) q0 pq1 pq2 q3 q4 q5 pq6 q7 pq8 q9 q10 q11 q12 q13 q14 q15 q16 q17 q18 q19 q20 q21 q22 q23 pq24 pq25 q26 q27 q28 q29 q30 q31
theorem over : Rows.BrokerWaitsSaid :=
  OpenClaim.holds_of_wide 13 Tryz.f13 rfl rfl rfl rfl rfl rfl rfl ⟨rfl, rfl, rfl, rfl, rfl⟩ rfl rfl rfl rfl rfl q_named Tryz.func13 q_all q_inst q_wrap
    (fun os started H enc _ => lifted os started H enc)
theorem c_wf : Rows.brokerWaitsRow.wfByText (OpenSpec.ofChange Rows.brokerWaitsSpec) = true := by kernel_rfl
theorem c_looks : true = Tryz.prog.looks [] := by kernel_rfl
theorem c_stand : ([3, 3].all fun u => !Tryz.prog.wantsStandIn u) = true := by kernel_rfl
theorem c_goes : false = Rows.brokerWaitsRow.goesBy Tryz.prog := by kernel_rfl
end Go.Proofs.YtjmdddhbdofppaaGreatDoor.brokerWaits
namespace Go.Proofs.YtjmdddhbdofppaaGreatDoor
theorem brokerWaits_holds : Rows.BrokerWaitsCardSaid :=
  Claim7.holds_tied_plain_at (c := Rows.brokerWaitsRow) .later [] _ true _ true
    brokerWaits.over (fun _ h => by cases h) brokerWaits.c_wf (fun _ h => by cases h) brokerWaits_row_tie rfl ⟨rfl, rfl⟩ main_is rfl
    (fun f fn hf hfn => by
      obtain rfl : f = 13 := Option.some.inj (brokerWaits.q_named.symm.trans hf) |>.symm
      obtain rfl : fn = Tryz.f13 := (Option.some.inj (Tryz.func13.symm.trans hfn)).symm
      exact ⟨brokerWaits.c_looks, fun j t ht => by
        rw [Tryz.params13] at ht
        have hm : t ∈ [3, 3] := by simpa using Array.mem_of_getElem? ht
        exact (show Tryz.prog.wantsStandIn t = false by simpa using List.all_eq_true.1 brokerWaits.c_stand t hm)⟩)
    brokerWaits.c_goes
#print axioms brokerWaits_holds
end Go.Proofs.YtjmdddhbdofppaaGreatDoor
