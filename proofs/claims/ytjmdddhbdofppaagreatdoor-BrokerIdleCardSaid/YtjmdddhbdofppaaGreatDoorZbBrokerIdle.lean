/- BrokerIdle: for every input the law answers true, and its arguments read as before. Conditions: none. -/
import Derived.Test.YtjmdddhbdofppaaGreatDoorZb10
import Derived.Test.YtjmdddhbdofppaaGreatDoorZb42
import Derived.Test.YtjmdddhbdofppaaGreatDoorZbQj

namespace Go.Proofs.YtjmdddhbdofppaaGreatDoor.brokerIdle
open Go.ChangeShapes Go.WideShapes Go.ChangeAt Go.RowKit
open Fr Bk
theorem idOut_ok : ∀ m ∈ [welcome 1 0 2, mfloor 0, pong, closed 6], m.ok = true := by
  intro m hm
  simp only [List.mem_cons, List.not_mem_nil, or_false] at hm
  rcases hm with rfl | rfl | rfl | rfl
  · exact welcome_ok 2 (by decide) (by decide)
  · exact floor_ok (by decide) (by decide)
  · decide
  · decide
theorem cfI_right {i : Nat} (h1 : i ≤ 1000) : CfOk (cfI i) := ⟨⟨by show 1 ≤ 4096; decide, by show 4096 ≤ 65536; decide⟩, ⟨by show 1 ≤ 512; decide, by show 512 ≤ 2042; decide⟩, ⟨by show 220 ≤ 2048; decide, by show 2048 ≤ 65536; decide⟩, ⟨by show 1 ≤ 256; decide, by show 256 ≤ 65536; decide⟩, by show 3 ≤ 9; decide, ⟨by show 1 ≤ 100; decide, by show 100 ≤ 1000; decide⟩, h1, ⟨by show 1 ≤ 80; decide, by show 80 ≤ 500; decide⟩⟩
theorem idS_ev (i : Nat) (hi : i ≤ 32) (p : Bool) : ∀ j, j < i → EvOk (idS i p j) j 4200 0 := by
  have h1 : EvOk (idS i false 0) 0 2076 0 := by
    rw [← (idle_hello i).1]
    exact ((cfI_ok (i := i) (by omega)).connect 1).bytes 1 (enc (helloM [97#8])) |> fun h => ⟨h.ok, h.cn, Nat.le_trans h.tot (by rw [enc_len5]; decide), h.len, h.sp⟩
  have h2 : 1 ≤ i → EvOk (idS i true 0) 0 4200 0 := fun _ => by
    rw [← (idle_ping i 0).1]
    exact h1.bytes 1 (enc ping) |> fun h => ⟨h.ok, h.cn, Nat.le_trans h.tot (by rw [enc_len5]; decide), h.len, h.sp⟩
  intro j
  induction j with
  | zero =>
    intro hj
    cases p
    · exact ⟨h1.ok, h1.cn, Nat.le_trans h1.tot (by decide), h1.len, h1.sp⟩
    · exact h2 (by omega)
  | succ j ih =>
    intro hj
    rw [← idle_tick p hj]
    exact (ih (by omega)).tick
noncomputable def idR (i j : Nat) : Br := if j < i then idS i true j else idE i
theorem idR_next {i j : Nat} (h : j < i) : tickB (idR i j) = idR i (j + 1) := by
  unfold idR
  rw [if_pos h]
  by_cases h2 : j + 1 < i
  · rw [if_pos h2]; exact idle_tick true h2
  · rw [if_neg h2]
    have : j = i - 1 := by omega
    rw [this]
    exact idle_late (by omega)
theorem idR_ev {i j : Nat} (hi : i ≤ 32) (hj : j ≤ i) (h1 : 1 ≤ i) : EvOk (idR i j) j 4200 0 := by
  by_cases h : j < i
  · unfold idR; rw [if_pos h]; exact idS_ev i hi true j h
  · have hh : idR i j = tickB (idS i true (i - 1)) := by
      unfold idR
      rw [if_neg h]
      exact (idle_late h1).symm
    rw [hh]
    have := (idS_ev i hi true (i - 1) (by omega)).tick
    rwa [show i - 1 + 1 = j by omega] at this
set_option maxRecDepth 100000 in
set_option maxHeartbeats 1000000 in
theorem walk (a0 : Int) (a1 : Int) (w : World) (w0 : (Lit.int .i64 a0).wf = true) (w1 : (Lit.int .i64 a1).wf = true) (ht : TI w) :
    Calls Tryz.prog 14 #[.int .i64 a0, .int .i64 a1] w fun e w' => e = .returned (.bool true) ∧ Below w.heap.size w w' := by
  obtain ⟨q, hq31, hand⟩ := bits_any a0 31 (by decide)
  obtain ⟨p, hp, hpe⟩ := rest_any a1 ((1 + q : Nat) : Int) (by omega) (by omega)
  obtain ⟨i, hi⟩ : ∃ i, 1 + q = i := ⟨_, rfl⟩
  have hi1 : 1 ≤ i := by omega
  have hi2 : i ≤ 32 := by omega
  have hpi : p < i := by omega
  have hand : bits .and .i64 a0 31 = (q : Int) := hand
  have hadd : wrap64 ((1 : Int) + (q : Int)) = (i : Nat) := by rw [IntWalk.wrap64_in _ (by omega)]; omega
  have hu : IntKind.u64.wrap ((i : Nat) : Int) = (i : Nat) := by rw [IntKind.wrap_u64]; omega
  have hz : (((i : Nat) : Int) == 0) = false := by simp; omega
  rw [hi] at hpe
  have HA0 := Lib.hid w0
  have HA1 := Lib.hid w1
  have HTI := Lib.hid ht
  have HI := Lib.hid (And.intro hi1 (And.intro hi2 hpi))
  have hid1 : wf64 1 := by decide
  clear HA0 HA1 w0 w1 ht hp hi hq31
  go_enter Tryz.func14, Tryz.ntmps14
  go_wp2_with fail
  refine (bhead_any w HTI.out).mono ?_
  rintro e w1 ⟨rfl, hb1⟩
  have HB1 := Lib.hid hb1
  clear hb1
  go_wp2_with fail
  refine (default_any _).mono ?_
  rintro e w2 ⟨rfl, hb2⟩
  have HB2 := Lib.hid (Below.trans HB1.out (hb2.mono HB1.out.size))
  clear hb2
  unfold cv
  go_upto_region 6 with fail
  have hx3 := Bx.new w2 _ rfl #[.int .i64 4096, .int .i64 512, .int .i64 2048, .int .i64 256, .int .i64 3, .int .i64 100, .int .i64 0, .int .i64 80] 23
  have hb3 : Below w.heap.size w (w2.alloc (.cells #[.int .i64 4096, .int .i64 512, .int .i64 2048, .int .i64 256, .int .i64 3, .int .i64 100, .int .i64 0, .int .i64 80] 23)) := HB2.out.alloc HB2.out.size _
  generalize w2.alloc (.cells #[.int .i64 4096, .int .i64 512, .int .i64 2048, .int .i64 256, .int .i64 3, .int .i64 100, .int .i64 0, .int .i64 80] 23) = w3 at *
  have hgw : w.heap.size ≤ w2.heap.size := HB2.out.size
  generalize w2.heap.size = gc at *
  have f6 := hx3.free 6
  have c6 := hx3.cell 6 _ rfl
  have hx4 := hx3.set 6 (.int .i64 (i : Nat))
  have HB4 := Lib.hid (hb3.setCell (p := ⟨gc, 6, none⟩) (by exact hgw) (.int .i64 (i : Nat)))
  clear hx3 hb3 HB1 HB2
  have d0 := hx4.cell 0 (.int .i64 4096) rfl
  have d1 := hx4.cell 1 (.int .i64 512) rfl
  have d2 := hx4.cell 2 (.int .i64 2048) rfl
  have d3 := hx4.cell 3 (.int .i64 256) rfl
  have d4 := hx4.cell 4 (.int .i64 3) rfl
  have d5 := hx4.cell 5 (.int .i64 100) rfl
  have d6 := hx4.cell 6 (.int .i64 (i : Nat)) rfl
  have d7 := hx4.cell 7 (.int .i64 80) rfl
  clear hx4
  have HNew := Lib.hid (fun (W : World) (hW : Below w.heap.size w W) => (lb_new (cfI_right (i := i) (by omega)) W (HTI.out.below hW) : Calls Tryz.prog 21 #[.agg #[.int .i64 4096, .int .i64 512, .int .i64 2048, .int .i64 256, .int .i64 3, .int .i64 100, .int .i64 (i : Nat), .int .i64 80]] W fun e w' => ∃ g, e = .returned (.pointer (some (at0 g))) ∧ LBx W.heap.size g w' (bnew (cfI i)) ∧ Below W.heap.size W w'))
  go_wp2_with fail
  refine (HNew.out _ HB4.out).mono ?_
  rintro e w5 ⟨g, rfl, hl5, hb5⟩
  have HL5 := Lib.hid hl5
  have HB5 := Lib.hid (Below.trans HB4.out (hb5.mono HB4.out.size))
  have hn0 : w.heap.size ≤ (w3.setCell ⟨gc, 6, none⟩ (.int .i64 (i : Nat))).heap.size := HB4.out.size
  clear hl5 hb5 HNew d0 d1 d2 d3 d4 d5 d6 d7 c6 f6
  generalize (w3.setCell ⟨gc, 6, none⟩ (.int .i64 (i : Nat))).heap.size = n0 at *
  obtain ⟨k1, k2, k3⟩ := idle_hello i
  have HE5 := cfI_ok (i := i) (by omega)
  go_wp2_with fail
  refine (lb_connect HL5.out HE5.ok 1 hid1).mono ?_
  rintro e w6 ⟨rfl, hl6, hb6⟩
  have HL6 := Lib.hid hl6
  have HB6 := Lib.hid (Below.trans HB5.out (hb6.mono hn0))
  have HE6 := HE5.connect 1
  clear hl6 hb6 HB4 HB5 HL5
  go_wp2_with fail
  refine (lhello_any [97#8] (by decide) w6).mono ?_
  rintro e w7 ⟨A7, c7, rfl, hy7, hn7, _, hb7⟩
  have HW7 := Lib.hid (LAway.made (n := (enc (helloM [97#8])).length) HL6.out hb7 hn7)
  have HY7 := Lib.hid hy7
  have HB7 := Lib.hid (Below.trans HB6.out (hb7.mono HB6.out.size))
  clear hy7 hn7 hb7
  go_wp2_with fail
  refine (lb_bytes HW7.out HE6 (by decide) 1 hid1 c7 HY7.out (by rw [enc_len5]; decide)).mono ?_
  rintro e w8 ⟨rfl, hl8, hb8⟩
  rw [k1] at hl8
  have HL8 := Lib.hid hl8
  have HB8 := Lib.hid (Below.trans HB7.out (hb8.mono hn0))
  clear hl8 hb8 HW7 HY7 HL6 HB6 HB7 HE5 HE6 k1 k2 k3
  go_wp2
  go_loopw [7] (fun v wr => ∃ j : Nat, v = .int .i64 (j : Nat) ∧ j ≤ p ∧ LBx n0 g wr (idS i false j) ∧ Below w.heap.size w wr)
    (fun v _ => match v with | .int _ x => ((p : Int) - x).toNat | _ => 0)
  case atStart =>
    exact ⟨0, rfl, Nat.zero_le _, HL8.out, HB8.out⟩
  case round =>
    obtain ⟨j, rfl, hj, hlr, hbr⟩ := hrel
    have HLR := Lib.hid hlr
    have HBR := Lib.hid hbr
    clear hlr hbr HL8 HB8
    by_cases hjp : j = p
    · subst hjp
      have hev := idS_ev i (by omega) false j (by omega)
      have HEV := Lib.hid hev
      obtain ⟨k1, k2⟩ := idle_ping i j
      have HPut := Lib.hid (put_new ping ping_ok wr)
      clear hev
      go_wp2_with fail
      refine HPut.out.mono ?_
      rintro e w9 ⟨A9, c9, rfl, hy9, hn9, _, hb9⟩
      have HW9 := Lib.hid (LAway.made (n := (enc ping).length) HLR.out hb9 hn9)
      have HY9 := Lib.hid hy9
      have HB9 := Lib.hid (Below.trans HBR.out (hb9.mono HBR.out.size))
      clear hy9 hn9 hb9 HPut
      have HBy := Lib.hid (lb_bytes HW9.out HEV.out (by decide) 1 hid1 c9 HY9.out (by rw [enc_len5]; decide))
      go_wp2_with fail
      refine HBy.out.mono ?_
      rintro e w10 ⟨rfl, hl10, hb10⟩
      rw [k1] at hl10
      have HL10 := Lib.hid (show LBx n0 g w10 (idR i 0) by unfold idR; rw [if_pos (by omega)]; exact hl10)
      have HB10 := Lib.hid (Below.trans HB9.out (hb10.mono hn0))
      clear hl10 hb10 HW9 HY9 HB9 HLR HBR k1 k2 HEV HBy
      go_wp2
      go_loopw [8] (fun v wr => ∃ t : Nat, v = .int .i64 ((t : Int) + 1) ∧ t ≤ i ∧ LBx n0 g wr (idR i t) ∧ Below w.heap.size w wr)
        (fun v _ => match v with | .int _ x => ((i : Int) + 1 - x).toNat | _ => 0)
      case atStart =>
        exact ⟨0, rfl, Nat.zero_le _, HL10.out, HB10.out⟩
      case round =>
        rename_i wr2 _ _
        obtain ⟨t, rfl, ht, hlr, hbr⟩ := hrel
        have HLR := Lib.hid hlr
        have HBR := Lib.hid hbr
        have HEV := Lib.hid (idR_ev (i := i) (j := t) (by omega) ht (by omega))
        clear hlr hbr HL10 HB10
        by_cases hti : t = i
        · subst hti
          have hle : ¬ ((t : Int) + 1 ≤ (t : Int)) := by omega
          obtain ⟨m1, m2, m3, m4⟩ := idle_end t
          have hie : idR t t = idE t := by unfold idR; rw [if_neg (Nat.lt_irrefl t)]
          rw [hie] at HLR HEV
          have HM := Lib.hid (And.intro m1 (And.intro m2 (And.intro m3 m4)))
          clear m1 m2 m3 m4 hie
          have HWr := Lib.hid (lb_write HLR.out HEV.out.ok 1 5000 hid1)
          go_wp2_with fail
          refine HWr.out.mono ?_
          rintro e w11 ⟨A11, m11, c11, rfl, hl11, hb11, hy11, hc11, hn11⟩
          rw [HM.out.1] at hy11
          rw [HM.out.2.2.1] at hl11
          have HE11 := Lib.hid (show EvOk (bare (setFl (idB t) (fleave (idB t).fl 1))) t 4200 0 by rw [← HM.out.2.2.1]; exact HEV.out.write 1 5000)
          have HL11 := Lib.hid hl11
          have HB11 := Lib.hid (Below.trans HBR.out (hb11.mono hn0))
          have hm11 : m11 ≤ 1000000000 := by
            have := hy11.1
            have h9 : (encs [welcome 1 0 2, mfloor 0, pong, closed 6]).length ≤ 100 := by
              unfold encs
              have := welcome_len 1 0 2
              simp [floor_len, closed_len, show (enc pong).length = 5 by rw [enc_len5]; rfl]
              omega
            omega
          have HMs := Lib.hid (lmessages_any _ idOut_ok w11 hy11 (Nat.le_refl _) hc11 hm11)
          clear hl11 hb11 hy11 hc11 hn11 hm11 HWr
          go_wp2_with fail
          refine HMs.out.mono ?_
          rintro e w12 ⟨R, rc, rfl, hrow, hb12⟩
          have HL12 := Lib.hid (HL11.out.ls (S := fun x => ∃ p, R = some p ∧ p.block = x) hb12 (fun x ⟨p, hp, e⟩ => by subst e; exact hrow.lt hp))
          have HB12 := Lib.hid (Below.trans HB11.out (hb12.mono HB11.out.size))
          have HRow := Lib.hid hrow
          clear hrow hb12 HMs
          rw [show [welcome 1 0 2, mfloor 0, pong, closed 6].length = 4 from rfl]
          have HUs := Lib.hid (ls_users HL12.out HE11.out.ok)
          go_wp2_with fail
          refine HUs.out.mono ?_
          rintro e w13 ⟨a13, n13, c13, rfl, hl13, ho13, hn13⟩
          have h0 : n13 = 0 := by rw [hn13]; exact congrArg List.length HM.out.2.2.2
          subst h0
          have HL13 := Lib.hid hl13.lbx
          have HB13 := Lib.hid (Below.trans HB12.out (ho13.below HB12.out.size fun x hx hn => by omega))
          have HRow13 := Lib.hid (HRow.out.only ho13 (fun p hp hn => hn.2 ⟨p, hp, rfl⟩))
          clear hl13 ho13 hn13 HUs
          have HCs := Lib.hid (lb_conns HL13.out)
          go_wp2_with fail
          refine HCs.out.mono ?_
          rintro e w14 ⟨a14, n14, c14, rfl, _, hb14, hn14, _, _⟩
          obtain rfl : n14 = 0 := by rw [hn14]; rfl
          have HB14 := Lib.hid (Below.trans HB13.out (hb14.mono HB13.out.size))
          obtain ⟨rb, off, rfl, _, hcell⟩ := (HRow13.out.below hb14).msin.outer (by decide)
          obtain ⟨z0, z1, z2, z3⟩ := msg_cells (hcell 3 ⟨13, 6, 0, []⟩ rfl) (o := off + 12) (by omega)
          dsimp only at z0 z1 z2
          rw [show str (⟨13, 6, 0, []⟩ : M).t = ⟨#[]⟩ from rfl] at z3
          clear hn14 hb14 HCs hcell
          go_wp2
          exact bodyPost_ret (v := .bool true) (by simp [results, Tryz.results14, go_sem]) rfl ⟨rfl, HB14.out⟩
        · have hlt : (t : Int) + 1 ≤ (i : Int) := by omega
          have hfl : (idR i t).fl.roles.length = 1 := by unfold idR; rw [if_pos (by omega)]; rfl
          have HUs := Lib.hid (lb_users HLR.out HEV.out.ok)
          go_wp2_with fail
          refine HUs.out.mono ?_
          rintro e w11 ⟨a11, n11, c11, rfl, hl11, hb11, hn11, _, _⟩
          obtain rfl : n11 = 1 := by rw [hn11]; exact hfl
          have HL11 := Lib.hid hl11
          have HB11 := Lib.hid (Below.trans HBR.out (hb11.mono hn0))
          have hnx := idR_next (i := i) (j := t) (by omega)
          have HT := Lib.hid (lb_tick HL11.out HEV.out (by omega))
          clear hl11 hb11 hn11 hfl HUs
          go_wp2_with fail
          refine HT.out.mono ?_
          rintro e w12 ⟨rfl, hl12, hb12⟩
          rw [hnx] at hl12
          have HL12 := Lib.hid hl12
          have HB12 := Lib.hid (Below.trans HB11.out (hb12.mono hn0))
          have ht1 : t + 1 ≤ 32 := by omega
          clear hl12 hb12 hnx HT
          go_wp2
          go_roundw
          case rel => exact ⟨t + 1, by go_num, by omega, HL12.out, HB12.out⟩
          case measure => simp; omega
    · have hlt : (j : Int) < (p : Int) := by omega
      have hev := idS_ev i (by omega) false j (by omega)
      have hnx := idle_tick (i := i) false (j := j) (by omega)
      have HT := Lib.hid (lb_tick HLR.out hev (by omega))
      clear hev
      go_wp2_with fail
      refine HT.out.mono ?_
      rintro e w9 ⟨rfl, hl9, hb9⟩
      rw [hnx] at hl9
      have HL9 := Lib.hid hl9
      have HB9 := Lib.hid (Below.trans HBR.out (hb9.mono hn0))
      have hj1 : j + 1 ≤ 32 := by omega
      clear hl9 hb9 hnx HT
      go_wp2
      go_roundw
      case rel => exact ⟨j + 1, by go_num, by omega, HL9.out, HB9.out⟩
      case measure => simp; omega
theorem w_in : Tryz.checked.prog.inits.idxOf? 14 = none := by kernel_rfl
theorem w_ok (os : Os) : Input.okWideB Tryz.prog ((World.doorLaid Tryz.prog 400 os).forCall (fun _ _ => 0) ⟨#[], #[.int .i64 0, .int .i64 0], []⟩) 14 ⟨#[], #[.int .i64 0, .int .i64 0], []⟩ = true := by kernel_rfl
theorem w_pre (os : Os) (H : Type) (enc : TypeId × Value → H) : Rows.brokerIdleSpec.preB enc Tryz.prog Tryz.f14 [] false ((World.doorLaid Tryz.prog 400 os).forCall (fun _ _ => 0) ⟨#[], #[.int .i64 0, .int .i64 0], []⟩).memory #[.int .i64 0, .int .i64 0] 8 = true := by kernel_rfl
theorem w_sz (os : Os) (H : Type) (enc : TypeId × Value → H) : Rows.brokerIdleSpec.sizedB enc Tryz.prog Tryz.f14 false ((World.doorLaid Tryz.prog 400 os).forCall (fun _ _ => 0) ⟨#[], #[.int .i64 0, .int .i64 0], []⟩).memory #[.int .i64 0, .int .i64 0] 8 = true := by kernel_rfl
set_option maxRecDepth 100000 in
theorem lifted (os : Os) (started : os.Started) (H : Type) (enc : TypeId × Value → H) :
    ReturnsInHanded {} Tryz.checked os 14 .any (fun w args => (Rows.brokerIdleSpec.pre enc Tryz.prog Tryz.f14 [] false w args ∧ laidMetH Tryz.prog laidL w) ∧ sizedMet enc Tryz.prog Tryz.f14 (OpenSpec.ofChange Rows.brokerIdleSpec) false w args)
      (Rows.brokerIdleSpec.post enc Tryz.prog Tryz.f14 false true false false) := by
  refine returnsInHanded_of_change_and (C := Tryz.checked) (X := fun w _ => laidMetH Tryz.prog laidL w) (fun _ _ _ hh h => h.of_heap hh) own started w_in Tryz.func14
    (ChangeSpec.witness_shaped (enc := enc) (C := Tryz.checked) (os := os) (X := fun w _ => laidMetH Tryz.prog laidL w) false (World.doorLaid Tryz.prog 400 os) #[.int .i64 0, .int .i64 0] 8 rfl (door_shaped os _) (w_ok os) (w_pre os H enc) (w_sz os H enc) (door_met os _)) ?_
  intro W base args ds gs before hval0 hW hcnd hsz0 hL _
  have hti := ti_of hL
  have hval : ∀ (j : Nat) t v, Tryz.f14.params[j]? = some t → args[j]? = some v → Value.okWide Tryz.prog W .any base t v := hval0
  have hW' := hW
  obtain ⟨p, q, hA0, hV, rfl, hfz, hnd⟩ := hW
  have hsz : (DataW.weightsEach Tryz.prog (Tryz.f14.params.toList ++ Rows.brokerIdleSpec.plain.varTypes Tryz.prog) (ds ++ gs)).all (· ≤ reachBytes) = true := hsz0
  have hA : DataW.TrodAll enc Tryz.prog W 0 (fun _ => true) true Tryz.f14.params.toList args.toList ds p := hA0
  rw [Tryz.params14] at hA hval hsz
  obtain ⟨v0, vs0, d0, ds0, p0, q0, hargs, rfl, rfl, h0, r0⟩ := trodAll_cons hA
  obtain ⟨v1, vs1, d1, ds1, p1, q1, rfl, rfl, rfl, h1, r1⟩ := trodAll_cons r0
  obtain ⟨rfl, rfl, rfl⟩ := trodAll_nil r1
  obtain rfl : args = #[v0, v1] := by cases args; simp_all
  obtain ⟨rfl, rfl⟩ := trodVars_none hV
  obtain ⟨a0, rfl, rfl, rfl, w0⟩ := open_int Tryz.underlying3 (hval 0 3 v0 rfl rfl) h0
  obtain ⟨a1, rfl, rfl, rfl, w1⟩ := open_int Tryz.underlying3 (hval 1 3 v1 rfl rfl) h1
  clear hA0 hval0 hsz hsz0
  refine (walk a0 a1 W w0 w1 hti).mono fun e W' ⟨he, bel⟩ => ?_
  subst he
  exact ⟨_, rfl, _, _, _, [], _, [], hW', trodAll_mk1 (shut_bool Tryz.underlying4 _), (trodAll_cons_mk (shut_int Tryz.underlying3 w0) (trodAll_cons_mk (shut_int Tryz.underlying3 w1) trodAll_mk0)), rfl, bel.frame _, fun h => by cases h⟩
theorem q0 : (Rows.brokerIdleRow.wf (OpenSpec.ofChange Rows.brokerIdleSpec)) = true := by kernel_rfl
theorem q3 : (Tryz.f14.params.all (Tryz.prog.readableRec ·)) = true := by kernel_rfl
theorem q4 : (namedTie Tryz.prog Rows.brokerIdleRow.named Rows.brokerIdleSpec.vars) = true := by kernel_rfl
theorem q5 : ((Rows.brokerIdleRow.stops == [])) = true := by kernel_rfl
theorem q7 : ((Rows.brokerIdleRow.knobs == [])) = true := by kernel_rfl
theorem q9 : ((Rows.brokerIdleRow.inPlace == Tryz.prog.inPlace 14)) = true := by kernel_rfl
theorem q10 : ((Rows.brokerIdleRow.unfollowed == Tryz.prog.unfollowed 14)) = true := by kernel_rfl
theorem q11 : ((Rows.brokerIdleRow.recurses == Tryz.prog.recurses 14)) = true := by kernel_rfl
theorem q12 : ((Rows.brokerIdleRow.named == Tryz.prog.varsNamed 14)) = true := by kernel_rfl
theorem q13 : ((Rows.brokerIdleRow.maps == (Tryz.f14.params.toList ++ Rows.brokerIdleSpec.plain.varTypes Tryz.prog).any (Tryz.prog.mapsRec ·))) = true := by kernel_rfl
theorem q14 : ((Rows.brokerIdleRow.ifaces == (Tryz.f14.params.toList ++ Rows.brokerIdleSpec.plain.varTypes Tryz.prog).any (Tryz.prog.ifacesRec ·))) = true := by kernel_rfl
theorem q15 : ((Rows.brokerIdleRow.mapsOut == Tryz.prog.mapsAmong Tryz.f14.resultTypes.toList)) = true := by kernel_rfl
theorem q16 : ((Rows.brokerIdleRow.loops == (Tryz.f14.params.toList ++ Rows.brokerIdleSpec.plain.varTypes Tryz.prog).any (Tryz.prog.loopsFrom ·))) = true := by kernel_rfl
theorem q17 : ((Rows.brokerIdleRow.wideKeys == (Tryz.f14.params.toList ++ Rows.brokerIdleSpec.plain.varTypes Tryz.prog ++ Tryz.f14.resultTypes.toList).any (Tryz.prog.wideKeysFrom ·))) = true := by kernel_rfl
theorem q18 : (Rows.brokerIdleSpec.vars.all (Tryz.prog.varReadable ·)) = true := by kernel_rfl
theorem q19 : (Tryz.f14.resultTypes.all (fun t => Tryz.prog.readableRec t && decide (t < Tryz.prog.types.size))) = true := by kernel_rfl
theorem q20 : ((Rows.brokerIdleRow.ifacesOut == Tryz.f14.resultTypes.toList.any (Tryz.prog.ifacesRec ·))) = true := by kernel_rfl
theorem q21 : ((Rows.brokerIdleRow.loopsOut == Tryz.f14.resultTypes.toList.any (Tryz.prog.loopsFrom ·))) = true := by kernel_rfl
theorem q22 : ((Rows.brokerIdleRow.plainKeys == Tryz.prog.plainKeys)) = true := (show Rows.brokerIdleRow.plainKeys = Rows.brokerEventsRow.plainKeys from rfl) ▸ pq22
theorem q23 : (Rows.brokerIdleRow.shortTexts.isNone) = true := by kernel_rfl
theorem q26 : ((Rows.brokerIdleRow.lifted == Tryz.prog.liftsFinal)) = true := (show Rows.brokerIdleRow.lifted = Rows.brokerEventsRow.lifted from rfl) ▸ pq26
theorem q27 : ((Tryz.prog.make == some Rows.brokerIdleRow.make)) = true := (show Rows.brokerIdleRow.make = Rows.brokerEventsRow.make from rfl) ▸ pq27
theorem q28 : kindsAre Tryz.prog Rows.brokerIdleRow Tryz.f14 = true := by kernel_rfl
theorem q29 : ((Rows.brokerIdleRow.pinned == Rows.brokerIdleRow.pinnedBy)) = true := by kernel_rfl
theorem q30 : ((Rows.brokerIdleRow.veiled == (Tryz.f14.params.toList ++ Rows.brokerIdleSpec.plain.varTypes Tryz.prog ++ Tryz.f14.resultTypes.toList).any (Tryz.prog.veiledRec ·))) = true := by kernel_rfl
theorem q31 : (Rows.brokerIdleRow.veiledFits Tryz.prog Tryz.f14.params.toList (Tryz.f14.params.toList ++ Rows.brokerIdleSpec.plain.varTypes Tryz.prog ++ Tryz.f14.resultTypes.toList)) = true := by kernel_rfl
theorem q_named : Tryz.prog.funcNamed Rows.brokerIdleRow.func = some 14 := by kernel_rfl
theorem q_inst : Tryz.f14.isInstance Tryz.prog Rows.brokerIdleRow.origin Rows.brokerIdleRow.targs := of_decide_eq_true (by kernel_rfl)
theorem q_wrap : Tryz.f14.isWrapper Tryz.prog Rows.brokerIdleRow.wrapper Rows.brokerIdleRow.mainSum := by unfold Func.isWrapper; first | (rw [if_pos (by decide +kernel)]; kernel_rfl) | (rw [if_neg (by decide +kernel)]; exact ⟨rfl, rfl⟩)
set_option maxRecDepth 100000 in
theorem q_all : joinedFacts Tryz.prog 14 Tryz.f14 Rows.brokerIdleSpec Rows.brokerIdleRow = true := joined_of (P := Tryz.prog) (f := 14) (fn := Tryz.f14) (s := Rows.brokerIdleSpec) (c := Rows.brokerIdleRow) q0 pq1 pq2 q3 q4 q5 pq6 q7 pq8 q9 q10 q11 q12 q13 q14 q15 q16 q17 q18 q19 q20 q21 q22 q23 pq24 pq25 q26 q27 q28 q29 q30 q31
theorem over : Rows.BrokerIdleSaid :=
  OpenClaim.holds_of_wide 14 Tryz.f14 rfl rfl rfl rfl rfl rfl rfl ⟨rfl, rfl, rfl, rfl, rfl⟩ rfl rfl rfl rfl rfl q_named Tryz.func14 q_all q_inst q_wrap
    (fun os started H enc _ => lifted os started H enc)
theorem c_wf : Rows.brokerIdleRow.wfByText (OpenSpec.ofChange Rows.brokerIdleSpec) = true := by kernel_rfl
theorem c_looks : true = Tryz.prog.looks [] := by kernel_rfl
theorem c_stand : ([3, 3].all fun u => !Tryz.prog.wantsStandIn u) = true := by kernel_rfl
theorem c_goes : false = Rows.brokerIdleRow.goesBy Tryz.prog := by kernel_rfl
end Go.Proofs.YtjmdddhbdofppaaGreatDoor.brokerIdle
namespace Go.Proofs.YtjmdddhbdofppaaGreatDoor
theorem brokerIdle_holds : Rows.BrokerIdleCardSaid :=
  Claim7.holds_tied_plain_at (c := Rows.brokerIdleRow) .later [] _ true _ true
    brokerIdle.over (fun _ h => by cases h) brokerIdle.c_wf (fun _ h => by cases h) brokerIdle_row_tie rfl ⟨rfl, rfl⟩ main_is rfl
    (fun f fn hf hfn => by
      obtain rfl : f = 14 := Option.some.inj (brokerIdle.q_named.symm.trans hf) |>.symm
      obtain rfl : fn = Tryz.f14 := (Option.some.inj (Tryz.func14.symm.trans hfn)).symm
      exact ⟨brokerIdle.c_looks, fun j t ht => by
        rw [Tryz.params14] at ht
        have hm : t ∈ [3, 3] := by simpa using Array.mem_of_getElem? ht
        exact (show Tryz.prog.wantsStandIn t = false by simpa using List.all_eq_true.1 brokerIdle.c_stand t hm)⟩)
    brokerIdle.c_goes
#print axioms brokerIdle_holds
end Go.Proofs.YtjmdddhbdofppaaGreatDoor
