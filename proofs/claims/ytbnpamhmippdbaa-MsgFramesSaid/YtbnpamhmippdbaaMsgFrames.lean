/- MsgFrames: for every input the law answers true, and its arguments read as before. Conditions: none. -/
import Derived.Test.YtbnpamhmippdbaaMsgz
import Derived.Test.YtbnpamhmippdbaaInsm
import Derived.Deep.RegionHeld
namespace Go.Proofs.Ytbnpamhmippdbaa.msgFrames
open Go.ChangeShapes Go.WideShapes Go.ChangeAt Go.RowKit
open Fr Ms

theorem and3 (a : Int) : ∃ r : Nat, r ≤ 3 ∧ bits .and .i64 a 3 = r := by
  have hlt : (BitVec.ofInt 64 a &&& BitVec.ofInt 64 3).toNat ≤ 3 := by
    rw [BitVec.toNat_and]
    exact Nat.and_le_right
  refine ⟨_, hlt, ?_⟩
  show IntKind.i64.wrap ((BitVec.ofInt 64 a &&& BitVec.ofInt 64 3).toNat : Int) = _
  rw [IntKind.wrap_i64]
  omega

set_option maxHeartbeats 4000000 in
set_option maxRecDepth 100000 in
theorem walk (k_0 x0 y0 : Int) (t0 : Bs) (a1 : Int) (w : World) (w0 : (Lit.int .i64 k_0).wf = true ∧ (Lit.int .i64 x0).wf = true ∧ (Lit.int .i64 y0).wf = true ∧ t0.length ≤ maxLen) (w1 : (Lit.int .i64 a1).wf = true) :
    Calls Try.prog 3 #[.agg #[.int .i64 k_0, .int .i64 x0, .int .i64 y0, .string (str t0)], .int .i64 a1] w fun e w' => e = .returned (.bool true) ∧ Below w.heap.size w w' := by
  have ht0 := w0.2.2.2
  have hlo := w1
  have HHD := Lib.hid (head_any (w.alloc (.cells #[.int .i64 k_0, .int .i64 x0, .int .i64 y0, .string (str t0)] 24)))
  clear w0 w1 hlo
  go_enter Try.func3, Try.ntmps3
  go_wp2_with fail
  have hx := Bx.new w _ rfl #[.int .i64 k_0, .int .i64 x0, .int .i64 y0, .string (str t0)] 24
  have hb : Below w.heap.size w (w.alloc (.cells #[.int .i64 k_0, .int .i64 x0, .int .i64 y0, .string (str t0)] 24)) := (Below.refl _ _).alloc (Nat.le_refl _) _
  generalize w.alloc (.cells #[.int .i64 k_0, .int .i64 x0, .int .i64 y0, .string (str t0)] 24) = W at *
  generalize hg : w.heap.size = g at *
  have HG := Lib.hid hg
  clear hg
  refine HHD.out.mono ?_
  rintro e w1 ⟨rfl, hb1⟩
  have hz0 := hx.room
  have HX1 := Lib.hid (hx.go hb1 (by omega))
  have HB1 := Lib.hid (Below.trans hb (hb1.mono (by omega)))
  clear hx hb hb1 hz0 HHD
  have hz1 := HX1.out.room
  have c3 : w1.cell? ⟨g, 3, none⟩ = some (.string (str t0)) := HX1.out.cell 3 _ rfl
  have hss := str_size t0
  by_cases h300 : 300 < t0.length
  · go_wp2
    go_ret
    have hg := HG.out
    subst hg
    exact ⟨rfl, HB1.out⟩
  go_upto_if 22 with fail
  clear hss
  go_cut [] (fun wx => ∃ T : Bs, T.length ≤ 2100 ∧ Bx g wx #[.int .i64 k_0, .int .i64 x0, .int .i64 y0, .string (str T)] ∧ Below g w wx)
  case first =>
    cases h3 : (bits BinOp.and IntKind.i64 a1 3 == 3)
    · go_wp2
      go_meet
      exact ⟨t0, by omega, HX1.out, HB1.out⟩
    · obtain ⟨r, hr3, hr⟩ := and3 (a1 / 4)
      have c0 : w1.cell? ⟨g, 0, none⟩ = some (.int .i64 k_0) := HX1.out.cell 0 _ rfl
      go_wp2_with fail
      refine (has_any k_0 _).mono ?_
      rintro e w2 ⟨nn, tt, rfl, hb2, hyes, hno⟩
      have htt : -1 ≤ tt ∧ tt ≤ 2042 := by
        cases hik : isK k_0
        · have := (hno hik).2
          omega
        · have h1 := (hyes hik).2
          have h2 := tx_le k_0
          omega
      obtain ⟨htt1, htt2⟩ := htt
      have HX2 := Lib.hid (HX1.out.go hb2 (by omega))
      have HB2 := Lib.hid (Below.trans HB1.out (hb2.mono (by omega)))
      clear hyes hno hb2 c0 c3 HX1 HB1 hz1
      have hz2 := HX2.out.room
      have hal : Below w2.heap.size w2 (w2.alloc (.cells #[] 5)) := (Below.refl _ _).alloc (Nat.le_refl _) _
      have HX3 := Lib.hid (HX2.out.go hal (by omega))
      have HB3 := Lib.hid (Below.trans HB2.out (hal.mono (by omega)))
      have HO3 := Lib.hid (own_new w2 (g + 1) (by omega))
      clear hal HX2 HB2
      go_wp2_with fail
      generalize w2.alloc (.cells #[] 5) = w3 at *
      go_loopw [7] (fun s wr => ∃ (q : Nat) (A : Option Addr) (c : Nat), q ≤ 2050 ∧ s = .slice A q c ∧ Own (g + 1) wr A q c (List.replicate q 120#8) ∧ Bx g wr #[.int .i64 k_0, .int .i64 x0, .int .i64 y0, .string (str t0)] ∧ Below g w wr) (fun s _ => match s with | .slice _ n _ => 2100 - n | _ => 0)
      case atStart => exact ⟨0, _, _, by omega, rfl, HO3.out, HX3.out, HB3.out⟩
      case round =>
        obtain ⟨q, A4, c4, hq, rfl, hown, hx, hb⟩ := hrel
        have HO4 := Lib.hid hown
        have HX4 := Lib.hid hx
        have HB4 := Lib.hid hb
        have hz4 := hx.room
        clear hown hx hb
        by_cases hlt : (q : Int) < tt - 1 + (r : Int)
        · go_wp2_with (first
            | (at_builtin
               refine wpList_put rfl (.tmp 39) (.tmp 40) rfl (g + 1) A4 q c4 (List.replicate q 120#8) rfl (HO4.out.below ((Below.refl _ _).alloc (Nat.le_refl _) _)) _ (some ⟨wr.heap.size, 0, none⟩) 1 1 [120#8] rfl (one_newv wr _ _ rfl) (by omega) (by simp; omega) ?_
               intro A5 c5 w5 hown hbel
               have HO5 := Lib.hid hown
               have HT := Lib.hid (Below.trans ((Below.refl _ _).alloc hz4 _) hbel)
               clear hown hbel))
          go_roundw
          case rel => exact ⟨q + 1, A5, c5, by omega, rfl, by rw [List.replicate_succ']; exact HO5.out, HX4.out.go HT.out (Nat.le_refl _), Below.trans HB4.out (HT.out.mono (by omega))⟩
          case measure => simp; omega
        · have d3 : wr.cell? ⟨g, 3, none⟩ = some (.string (str t0)) := HX4.out.cell 3 _ rfl
          have z3 := HX4.out.free 3
          have hcv := conv_str (cap := c4) HO4.out.bytes
          go_wp2
          go_meet
          exact ⟨List.replicate q 120#8, by simp; omega, HX4.out.set 3 _, HB4.out.setCell (by simp) _⟩
  case rest =>
    obtain ⟨T, hT, hx, hb⟩ := hcut
    have HX1 := Lib.hid hx
    have HBc := Lib.hid hb
    clear hx hb c3 hz1
    have hz1 := HX1.out.room
    have c0 : wc.cell? ⟨g, 0, none⟩ = some (.int .i64 k_0) := HX1.out.cell 0 _ rfl
    have c1 : wc.cell? ⟨g, 1, none⟩ = some (.int .i64 x0) := HX1.out.cell 1 _ rfl
    have c2 : wc.cell? ⟨g, 2, none⟩ = some (.int .i64 y0) := HX1.out.cell 2 _ rfl
    have c3 : wc.cell? ⟨g, 3, none⟩ = some (.string (str T)) := HX1.out.cell 3 _ rfl
    cases hrt : rt k_0 x0 y0 T.length
    · have HRT := Lib.hid hrt
      clear hrt
      go_wp2_with fail
      refine (frame_no k_0 x0 y0 T _ HRT.out).mono ?_
      rintro e w2 ⟨rfl, hb2⟩
      have hal : Below w2.heap.size w2 (w2.alloc (.cells #[.int .u8 0, .slice none 0 0] 31)) := (Below.refl _ _).alloc (Nat.le_refl _) _
      have hb23 := Below.trans hb2 (hal.mono hb2.size)
      have HX3 := Lib.hid (HX1.out.go hb23 (by omega))
      have HB3 := Lib.hid (Below.trans HBc.out (hb23.mono (by omega)))
      have HF3 := Lib.hid (Bx.new w2 _ rfl #[.int .u8 0, .slice none 0 0] 31)
      have hz2 : g + 1 ≤ w2.heap.size := Nat.le_trans hz1 hb2.size
      clear hb2 hal hb23 c0 c1 c2 c3 HX1 HBc
      go_wp2_with fail
      generalize w2.alloc (.cells #[.int .u8 0, .slice none 0 0] 31) = w3 at *
      generalize w2.heap.size = gf at *
      have hz3 := HF3.out.room
      go_region_held (fun w' => w'.cell? ⟨g, 0, none⟩ = some (.int .i64 k_0) ∧ w'.cell? ⟨g, 1, none⟩ = some (.int .i64 x0) ∧ w'.cell? ⟨g, 2, none⟩ = some (.int .i64 y0) ∧ w'.cell? ⟨g, 3, none⟩ = some (.string (str T)))
        (first | exact ⟨HXc.out.cell 0 _ rfl, HXc.out.cell 1 _ rfl, HXc.out.cell 2 _ rfl, HXc.out.cell 3 _ rfl⟩ | exact ⟨HXb.out.cell 0 _ rfl, HXb.out.cell 1 _ rfl, HXb.out.cell 2 _ rfl, HXb.out.cell 3 _ rfl⟩ | exact ⟨HXa.out.cell 0 _ rfl, HXa.out.cell 1 _ rfl, HXa.out.cell 2 _ rfl, HXa.out.cell 3 _ rfl⟩ | exact ⟨HX3.out.cell 0 _ rfl, HX3.out.cell 1 _ rfl, HX3.out.cell 2 _ rfl, HX3.out.cell 3 _ rfl⟩)
        (first
          | (go_at_call 9; refine (mright_any k_0 x0 y0 (str T) _).mono ?_; rintro e wa ⟨rfl, hba⟩; have hba : Below w3.heap.size w3.drew wa := hba; rw [str_size, HRT.out]; have HBa := Lib.hid (below_back hba); have HXa := Lib.hid (HX3.out.go HBa.out (by omega)); clear hba)
          | (go_at_call 10; refine (lright_any k_0 x0 y0 (str T) wa).mono ?_; rintro e wb ⟨rfl, hbb⟩; rw [str_size, HRT.out]; have HBb := Lib.hid (Below.trans HBa.out (hbb.mono HBa.out.size)); have HXb := Lib.hid (HX3.out.go HBb.out (by omega)); clear hbb)
          | (go_at_call 10; refine (lright_any k_0 x0 y0 (str T) wb).mono ?_; rintro e wd ⟨rfl, hbd⟩; rw [str_size, HRT.out]; have HBd := Lib.hid (Below.trans HBb.out (hbd.mono HBb.out.size)); have HXc := Lib.hid (HX3.out.go HBd.out (by omega)); clear hbd))
      rename_i hh
      clear hh
      have HB5 := Lib.hid (Below.trans HB3.out (HBd.out.mono (by omega)))
      have HF5 := Lib.hid (HF3.out.go HBd.out hz3)
      have hz5 := HF5.out.room
      have hal : Below wd.heap.size wd (wd.alloc (.cells #[.int .u8 1, .int .u8 2] 28)) := (Below.refl _ _).alloc (Nat.le_refl _) _
      have hs5 : (wd.alloc (.cells #[.int .u8 1, .int .u8 2] 5)).heap.size = wd.heap.size + 1 := by simp
      have HN5 := Lib.hid (two_new wd 1#8 2#8 1 2 rfl rfl)
      have hgd : g < wd.heap.size := by omega
      have c0 : wd.cell? ⟨g, 0, none⟩ = some (.int .i64 k_0) := HXc.out.cell 0 _ rfl
      have c1 : wd.cell? ⟨g, 1, none⟩ = some (.int .i64 x0) := HXc.out.cell 1 _ rfl
      have c2 : wd.cell? ⟨g, 2, none⟩ = some (.int .i64 y0) := HXc.out.cell 2 _ rfl
      have c3 : wd.cell? ⟨g, 3, none⟩ = some (.string (str T)) := HXc.out.cell 3 _ rfl
      clear hal HX3 HB3 HF3 HBa HBb HBd HXa HXb
      go_wp2_with fail
      have hal : Below wd.heap.size wd (wd.alloc (.cells #[.int .u8 1, .int .u8 2] 5)) := (Below.refl _ _).alloc (Nat.le_refl _) _
      have HF6 := Lib.hid (HF5.out.go hal hz5)
      have HB6 := Lib.hid (Below.trans HB5.out (hal.mono (by omega)))
      clear hal HF5 HB5 c0 c1 c2 c3
      generalize wd.alloc (.cells #[.int .u8 1, .int .u8 2] 5) = w6 at *
      refine (mput_no (some ⟨wd.heap.size, 0, none⟩) 2 2 (wd.heap.size + 1) [1#8, 2#8] k_0 x0 y0 T w6 HRT.out HN5.out (by omega) (by omega)).mono ?_
      rintro e w7 ⟨A7, C7, rfl, ho7, hb7⟩
      have HB7 := Lib.hid (Below.trans HB6.out (hb7.mono (by omega)))
      have HF7 := Lib.hid (HF6.out.go hb7 (by omega))
      have hcv := conv_str (cap := C7) ho7.bytes
      have hs12 : (str [1#8, 2#8]).toList = [1, 2] := by
        rw [ByteArray.toList_eq]
        rfl
      have f0 : w7.cell? ⟨gf, 0, none⟩ = some (.int .u8 0) := HF7.out.cell 0 _ rfl
      have f1 : w7.cell? ⟨gf, 1, none⟩ = some (.slice none 0 0) := HF7.out.cell 1 _ rfl
      clear ho7 hb7
      go_wp2
      go_ret
      have hg := HG.out
      subst hg
      exact ⟨rfl, HB7.out⟩
    · have HRT := Lib.hid hrt
      obtain ⟨ok1, ok2⟩ := rt_k hrt
      have hlen : (body k_0 x0 y0 T).length = 6 * nu k_0 + T.length := body_len _ _ _ _
      have hm48 : 6 * nu k_0 + T.length ≤ 2048 := by have h := body_le hrt; rwa [body_len] at h
      obtain ⟨o1, o2, o3, o4⟩ := of_body hrt
      have hkn : ((BitVec.ofInt 8 k_0).toNat : Int) = k_0 := by rw [byte_nat]; omega
      have HO1 := Lib.hid o1
      have HO2 := Lib.hid o2
      have HO3 := Lib.hid o3
      have HO4 := Lib.hid o4
      have HLE := Lib.hid hlen
      clear hrt o1 o2 o3 o4 hlen
      go_wp2_with fail
      refine (frame_yes k_0 x0 y0 T _ HRT.out).mono ?_
      obtain ⟨m, hm⟩ : ∃ m, 6 * nu k_0 + T.length = m := ⟨_, rfl⟩
      rw [hm, hkn]
      rintro e w2 ⟨A2, C2, rfl, ho2, hb2⟩
      rw [hm] at hm48
      have HM := Lib.hid hm
      have HKN := Lib.hid hkn
      have hal : Below w2.heap.size w2 (w2.alloc (.cells #[.int .u8 k_0, .slice A2 m C2] 31)) := (Below.refl _ _).alloc (Nat.le_refl _) _
      have hb23 := Below.trans hb2 (hal.mono hb2.size)
      have HX3 := Lib.hid (HX1.out.go hb23 (by omega))
      have HB3 := Lib.hid (Below.trans HBc.out (hb23.mono (by omega)))
      have HF3 := Lib.hid (Bx.new w2 _ rfl #[.int .u8 k_0, .slice A2 m C2] 31)
      have HY3 := Lib.hid (ho2.bytes.below hal)
      have hcap2 := ho2.cap
      have hz2 : g + 1 ≤ w2.heap.size := Nat.le_trans hz1 hb2.size
      clear hb2 hal hb23 c0 c1 c2 c3 HX1 HBc ho2 hm hkn
      go_wp2_with fail
      generalize w2.alloc (.cells #[.int .u8 k_0, .slice A2 m C2] 31) = w3 at *
      generalize w2.heap.size = gf at *
      have hz3 := HF3.out.room
      go_region_held (fun w' => w'.cell? ⟨g, 0, none⟩ = some (.int .i64 k_0) ∧ w'.cell? ⟨g, 1, none⟩ = some (.int .i64 x0) ∧ w'.cell? ⟨g, 2, none⟩ = some (.int .i64 y0) ∧ w'.cell? ⟨g, 3, none⟩ = some (.string (str T)))
        (first | exact ⟨HXc.out.cell 0 _ rfl, HXc.out.cell 1 _ rfl, HXc.out.cell 2 _ rfl, HXc.out.cell 3 _ rfl⟩ | exact ⟨HXb.out.cell 0 _ rfl, HXb.out.cell 1 _ rfl, HXb.out.cell 2 _ rfl, HXb.out.cell 3 _ rfl⟩ | exact ⟨HXa.out.cell 0 _ rfl, HXa.out.cell 1 _ rfl, HXa.out.cell 2 _ rfl, HXa.out.cell 3 _ rfl⟩ | exact ⟨HX3.out.cell 0 _ rfl, HX3.out.cell 1 _ rfl, HX3.out.cell 2 _ rfl, HX3.out.cell 3 _ rfl⟩)
        (first
          | (go_at_call 9; refine (mright_any k_0 x0 y0 (str T) _).mono ?_; rintro e wa ⟨rfl, hba⟩; have hba : Below w3.heap.size w3.drew wa := hba; rw [str_size, HRT.out]; have HBa := Lib.hid (below_back hba); have HXa := Lib.hid (HX3.out.go HBa.out (by omega)); clear hba)
          | (go_at_call 10; refine (lright_any k_0 x0 y0 (str T) wa).mono ?_; rintro e wb ⟨rfl, hbb⟩; rw [str_size, HRT.out]; have HBb := Lib.hid (Below.trans HBa.out (hbb.mono HBa.out.size)); have HXb := Lib.hid (HX3.out.go HBb.out (by omega)); clear hbb)
          | (go_at_call 10; refine (lright_any k_0 x0 y0 (str T) wb).mono ?_; rintro e wd ⟨rfl, hbd⟩; rw [str_size, HRT.out]; have HBd := Lib.hid (Below.trans HBb.out (hbd.mono HBb.out.size)); have HXc := Lib.hid (HX3.out.go HBd.out (by omega)); clear hbd))
      rename_i hh
      clear hh
      have HB5 := Lib.hid (Below.trans HB3.out (HBd.out.mono (by omega)))
      have HF5 := Lib.hid (HF3.out.go HBd.out hz3)
      have HY5 := Lib.hid (HY3.out.below (HBd.out.mono (by omega)))
      have hz5 := HF5.out.room
      have hs5 : (wd.alloc (.cells #[.int .u8 1, .int .u8 2] 5)).heap.size = wd.heap.size + 1 := by simp
      have HN5 := Lib.hid (two_new wd 1#8 2#8 1 2 rfl rfl)
      have hgd : g < wd.heap.size := by omega
      have c0 : wd.cell? ⟨g, 0, none⟩ = some (.int .i64 k_0) := HXc.out.cell 0 _ rfl
      have c1 : wd.cell? ⟨g, 1, none⟩ = some (.int .i64 x0) := HXc.out.cell 1 _ rfl
      have c2 : wd.cell? ⟨g, 2, none⟩ = some (.int .i64 y0) := HXc.out.cell 2 _ rfl
      have c3 : wd.cell? ⟨g, 3, none⟩ = some (.string (str T)) := HXc.out.cell 3 _ rfl
      clear HX3 HB3 HF3 HBa HBb HBd HXa HXb HY3
      go_wp2_with fail
      have hal : Below wd.heap.size wd (wd.alloc (.cells #[.int .u8 1, .int .u8 2] 5)) := (Below.refl _ _).alloc (Nat.le_refl _) _
      have HF6 := Lib.hid (HF5.out.go hal hz5)
      have HX6 := Lib.hid (HXc.out.go hal hgd)
      have HY6 := Lib.hid (HY5.out.below (hal.mono (by omega)))
      have HB6 := Lib.hid (Below.trans HB5.out (hal.mono (by omega)))
      clear hal HF5 HB5 c0 c1 c2 c3 HXc HY5
      generalize wd.alloc (.cells #[.int .u8 1, .int .u8 2] 5) = w6 at *
      obtain ⟨NB, hNB⟩ : ∃ NB, 2 + (6 * nu k_0 + T.length) + 5 = NB := ⟨_, rfl⟩
      refine (mput_yes (some ⟨wd.heap.size, 0, none⟩) 2 2 (wd.heap.size + 1) [1#8, 2#8] k_0 x0 y0 T NB _ hNB rfl w6 HRT.out HN5.out (by omega) (by omega)).mono ?_
      rintro e w7 ⟨A7, C7, rfl, ho7, hb7⟩
      have hNB2 : NB = m + 7 := by have := HM.out; omega
      have HB7 := Lib.hid (Below.trans HB6.out (hb7.mono (by omega)))
      have HF7 := Lib.hid (HF6.out.go hb7 (by omega))
      have HX7 := Lib.hid (HX6.out.go hb7 (by omega))
      have HY7 := Lib.hid (HY6.out.below (hb7.mono (by omega)))
      have HP7 := Lib.hid ho7.bytes
      have f0 : w7.cell? ⟨gf, 0, none⟩ = some (.int .u8 k_0) := HF7.out.cell 0 _ rfl
      have f1 : w7.cell? ⟨gf, 1, none⟩ = some (.slice A2 m C2) := HF7.out.cell 1 _ rfl
      clear ho7 hb7 HB6 HF6 HX6 HY6 HN5 hs5 hNB hgd hz5
      have hz7 := HF7.out.room
      subst hNB2
      have hof := mof_any (BitVec.ofInt 8 k_0) A2 m C2 gf (body k_0 x0 y0 T) w7 HY7.out (by omega) hcap2 (by omega)
      rw [HKN.out] at hof
      have HOF := Lib.hid hof
      clear hof
      have HBY := Lib.hid (fun (A : Option Addr) (c : Nat) (W : World) (h : Bytes W W.heap.size A m (body k_0 x0 y0 T)) => (by have h := bytes_any (BitVec.ofInt 8 k_0) A m c W.heap.size _ W h (Nat.le_refl _) (by omega); rwa [HKN.out] at h :
        Calls Try.prog 13 #[.int .u8 k_0, .slice A m c] W fun e w' => ∃ A c', e = .returned (.slice A (m + 5) c') ∧ Own W.heap.size w' A (m + 5) c' (fr (BitVec.ofInt 8 k_0) (body k_0 x0 y0 T)) ∧ Below W.heap.size W w'))
      generalize fr (BitVec.ofInt 8 k_0) (body k_0 x0 y0 T) = F at *
      have hlb : (body k_0 x0 y0 T).length = m := HLE.out.trans HM.out
      go_wp2_with fail
      refine HOF.out.mono ?_
      rintro e w8 ⟨hp, hb8⟩
      have he := hp.1 HO4.out
      rw [HO1.out, HO2.out, HO3.out] at he
      subst he
      have hal : Below w8.heap.size w8 (w8.alloc (.cells #[.int .i64 k_0, .int .i64 x0, .int .i64 y0, .string (str T)] 24)) := (Below.refl _ _).alloc (Nat.le_refl _) _
      have hb78 := Below.trans hb8 (hal.mono hb8.size)
      have HG9 := Lib.hid (Bx.new w8 _ rfl #[.int .i64 k_0, .int .i64 x0, .int .i64 y0, .string (str T)] 24)
      have HX9 := Lib.hid (HX7.out.go hb78 (by omega))
      have HF9 := Lib.hid (HF7.out.go hb78 (by omega))
      have HB9 := Lib.hid (Below.trans HB7.out (hb78.mono (by omega)))
      have HY9 := Lib.hid (HY7.out.below (hb78.mono (by omega)))
      have HP9 := Lib.hid (HP7.out.below hb78)
      have hz8 : w7.heap.size ≤ w8.heap.size := hb8.size
      clear hp hal hb78 hb8 HX7 HF7 HB7 HY7 HP7 f0 f1 HOF hlb
      go_wp2_with fail
      generalize w8.alloc (.cells #[.int .i64 k_0, .int .i64 x0, .int .i64 y0, .string (str T)] 24) = w9 at *
      generalize w8.heap.size = gm at *
      generalize w7.heap.size = g7 at *
      have hz9 := HG9.out.room
      have hkw : IntKind.u8.wrap k_0 = k_0 := IntWalk.u8_in _ (by omega)
      go_region_held (fun w' => w'.cell? ⟨g, 0, none⟩ = some (.int .i64 k_0) ∧ w'.cell? ⟨g, 1, none⟩ = some (.int .i64 x0) ∧ w'.cell? ⟨g, 2, none⟩ = some (.int .i64 y0) ∧ w'.cell? ⟨g, 3, none⟩ = some (.string (str T)))
        (first | exact ⟨HXb.out.cell 0 _ rfl, HXb.out.cell 1 _ rfl, HXb.out.cell 2 _ rfl, HXb.out.cell 3 _ rfl⟩ | exact ⟨HXa.out.cell 0 _ rfl, HXa.out.cell 1 _ rfl, HXa.out.cell 2 _ rfl, HXa.out.cell 3 _ rfl⟩ | exact ⟨HX9.out.cell 0 _ rfl, HX9.out.cell 1 _ rfl, HX9.out.cell 2 _ rfl, HX9.out.cell 3 _ rfl⟩)
        (first
          | (go_at_call 14; refine (body_any k_0 x0 y0 T _ HRT.out).mono ?_; rw [HM.out]; rintro e xa ⟨Aa, Ca, rfl, hoa, hba⟩; have hba : Below w9.heap.size w9.drew xa := hba; have HBa := Lib.hid (below_back hba); have HOa := Lib.hid hoa.bytes; have HXa := Lib.hid (HX9.out.go HBa.out (by omega)); clear hba hoa)
          | (go_at_call 13; refine (HBY.out Aa Ca xa HOa.out).mono ?_; rintro e xb ⟨Ab, Cb, rfl, hob, hbb⟩; have HBb := Lib.hid (Below.trans HBa.out (hbb.mono HBa.out.size)); have HXb := Lib.hid (HX9.out.go HBb.out (by omega)); have HOb := Lib.hid hob.bytes; clear hbb hob))
      rename_i hh
      clear hh
      have HXe := HXb
      have HGe := Lib.hid (HG9.out.go HBb.out hz9)
      have HFe := Lib.hid (HF9.out.go HBb.out (by omega))
      have HYe := Lib.hid (HY9.out.below (HBb.out.mono (by omega)))
      have HPe := Lib.hid (HP9.out.below (HBb.out.mono (by omega)))
      have hFlen : F.length = m + 5 := HOb.out.1
      have hss : (str ([1#8, 2#8] ++ F)).toList = ((⟨#[1, 2]⟩ : ByteArray) ++ str F).toList := by
        rw [str_app]
        rfl
      generalize [1#8, 2#8] ++ F = FB at *
      have HOe := HOb
      have HBe := Lib.hid (Below.trans HB9.out (HBb.out.mono (by omega)))
      have hze := HGe.out.room
      have hg7 : g7 ≤ xb.heap.size := by omega
      clear HX9 HG9 HF9 HY9 HP9 HB9 HXa HXb HBa HBb HOa HOb HBY
      go_wp2_with fail
      have HD := Lib.hid (show Below xb.heap.size xb xb.drew from below_drew (Below.refl _ _))
      have HXd := Lib.hid (show Bx g xb.drew #[.int .i64 k_0, .int .i64 x0, .int .i64 y0, .string (str T)] from HXe.out.drewN 1)
      have HGd := Lib.hid (show Bx gm xb.drew #[.int .i64 k_0, .int .i64 x0, .int .i64 y0, .string (str T)] from HGe.out.drewN 1)
      have HFd := Lib.hid (show Bx gf xb.drew #[.int .u8 k_0, .slice A2 m C2] from HFe.out.drewN 1)
      have HC1d := Lib.hid (conv_str (cap := C2) (HYe.out.keep (w' := xb.drew) (fun _ _ => rfl)))
      have HC2d := Lib.hid (conv_str (cap := C7) (HPe.out.keep (w' := xb.drew) (fun _ _ => rfl)))
      have HC3d := Lib.hid (conv_str (cap := Cb) (HOe.out.keep (w' := xb.drew) (fun _ _ => rfl)))
      have hsz : ¬ (9223372036854775807 < 2 + (str F).size) := by rw [str_size, hFlen]; omega
      clear hFlen
      go_region_held (fun w' => w'.cell? ⟨g, 0, none⟩ = some (.int .i64 k_0) ∧ w'.cell? ⟨g, 1, none⟩ = some (.int .i64 x0) ∧ w'.cell? ⟨g, 2, none⟩ = some (.int .i64 y0) ∧ w'.cell? ⟨g, 3, none⟩ = some (.string (str T)) ∧
          w'.cell? ⟨gm, 0, none⟩ = some (.int .i64 k_0) ∧ w'.cell? ⟨gm, 1, none⟩ = some (.int .i64 x0) ∧ w'.cell? ⟨gm, 2, none⟩ = some (.int .i64 y0) ∧ w'.cell? ⟨gm, 3, none⟩ = some (.string (str T)) ∧
          w'.cell? ⟨gf, 0, none⟩ = some (.int .u8 k_0) ∧ w'.cell? ⟨gf, 1, none⟩ = some (.slice A2 m C2) ∧ (convert 28 9 (.slice A2 m C2)).run Try.prog w' = .ok (.string (str (body k_0 x0 y0 T))) w' ∧
          (convert 28 9 (.slice A7 (m + 7) C7)).run Try.prog w' = .ok (.string (str FB)) w' ∧ (convert 28 9 (.slice Ab (m + 5) Cb)).run Try.prog w' = .ok (.string (str F)) w')
        (first | exact ⟨HXz.out.cell 0 _ rfl, HXz.out.cell 1 _ rfl, HXz.out.cell 2 _ rfl, HXz.out.cell 3 _ rfl, HGz.out.cell 0 _ rfl, HGz.out.cell 1 _ rfl, HGz.out.cell 2 _ rfl, HGz.out.cell 3 _ rfl, HFz.out.cell 0 _ rfl, HFz.out.cell 1 _ rfl, HC1z.out, HC2z.out, HC3z.out⟩ | exact ⟨HXy.out.cell 0 _ rfl, HXy.out.cell 1 _ rfl, HXy.out.cell 2 _ rfl, HXy.out.cell 3 _ rfl, HGy.out.cell 0 _ rfl, HGy.out.cell 1 _ rfl, HGy.out.cell 2 _ rfl, HGy.out.cell 3 _ rfl, HFy.out.cell 0 _ rfl, HFy.out.cell 1 _ rfl, HC1y.out, HC2y.out, HC3y.out⟩ | exact ⟨HXd.out.cell 0 _ rfl, HXd.out.cell 1 _ rfl, HXd.out.cell 2 _ rfl, HXd.out.cell 3 _ rfl, HGd.out.cell 0 _ rfl, HGd.out.cell 1 _ rfl, HGd.out.cell 2 _ rfl, HGd.out.cell 3 _ rfl, HFd.out.cell 0 _ rfl, HFd.out.cell 1 _ rfl, HC1d.out, HC2d.out, HC3d.out⟩)
        (first
          | (go_at_call 14; refine (body_any k_0 x0 y0 T _ HRT.out).mono ?_; rw [HM.out]; rintro e ya ⟨Ay, Cy, rfl, hoy, hby⟩; have hby : Below xb.heap.size xb.drew ya := hby; have HBy := Lib.hid (below_back hby); have HXy := Lib.hid (HXe.out.go HBy.out (by omega)); have HGy := Lib.hid (HGe.out.go HBy.out (by omega)); have HFy := Lib.hid (HFe.out.go HBy.out (by omega)); have HC1y := Lib.hid (conv_str (cap := C2) (HYe.out.below (HBy.out.mono (by omega)))); have HC2y := Lib.hid (conv_str (cap := C7) (HPe.out.below (HBy.out.mono (by omega)))); have HC3y := Lib.hid (conv_str (cap := Cb) (HOe.out.below HBy.out)); have qy := conv_str (cap := Cy) hoy.bytes; clear hby hoy)
          | (go_at_call 15; refine (size_yes k_0 x0 y0 T (m + 5) (by rw [HM.out]) ya HRT.out).mono ?_; rintro e yb ⟨rfl, hbz⟩; have HBz := Lib.hid (Below.trans HBy.out (hbz.mono HBy.out.size)); have HXz := Lib.hid (HXe.out.go HBz.out (by omega)); have HGz := Lib.hid (HGe.out.go HBz.out (by omega)); have HFz := Lib.hid (HFe.out.go HBz.out (by omega)); have HC1z := Lib.hid (conv_str (cap := C2) (HYe.out.below (HBz.out.mono (by omega)))); have HC2z := Lib.hid (conv_str (cap := C7) (HPe.out.below (HBz.out.mono (by omega)))); have HC3z := Lib.hid (conv_str (cap := Cb) (HOe.out.below HBz.out)); clear hbz))
      go_wp2
      go_ret
      have hg := HG.out
      subst hg
      exact ⟨rfl, Below.trans HBe.out (HBz.out.mono (by omega))⟩

set_option maxRecDepth 100000 in
theorem lifted (os : Os) (started : os.Started) (H : Type) (enc : TypeId × Value → H) :
    ReturnsInHanded {} Try.checked os 3 .any (Rows.msgFramesSpec.pre6 enc Try.prog Try.f3 Rows.msgFramesRow.domain false) (Rows.msgFramesSpec.post enc Try.prog Try.f3 false true false false) := by
  refine returnsInHanded_of_change_sized (C := Try.checked) own started (by kernel_rfl) Try.func3
    (ChangeSpec.witness6 (enc := enc) (C := Try.checked) false ⟨#[], #[.agg #[.int .i64 0, .int .i64 0, .int .i64 0, .string ⟨#[]⟩], .int .i64 0], []⟩ 8 (by kernel_rfl) (by kernel_rfl) (by kernel_rfl) (by kernel_rfl)) ?_
  intro W base args ds gs before hval0 hW hcnd hsz0 _
  have hval : ∀ (j : Nat) t v, Try.f3.params[j]? = some t → args[j]? = some v → Value.okWide Try.prog W .any base t v := hval0
  have hW' := hW
  obtain ⟨p, q, hA0, hV, rfl, hfz, hnd⟩ := hW
  have hsz : (DataW.weightsEach Try.prog (Try.f3.params.toList ++ Rows.msgFramesSpec.plain.varTypes Try.prog) (ds ++ gs)).all (· ≤ reachBytes) = true := hsz0
  have hA : DataW.TrodAll enc Try.prog W 0 (fun _ => true) true Try.f3.params.toList args.toList ds p := hA0
  rw [Try.params3] at hA hval hsz
  obtain ⟨v0, vs0, d0, ds0, p0, q0, hargs, rfl, rfl, h0, r0⟩ := trodAll_cons hA
  obtain ⟨v1, vs1, d1, ds1, p1, q1, rfl, rfl, rfl, h1, r1⟩ := trodAll_cons r0
  obtain ⟨rfl, rfl, rfl⟩ := trodAll_nil r1
  obtain rfl : args = #[v0, v1] := by cases args; simp_all
  obtain ⟨rfl, rfl⟩ := trodVars_none hV
  have k0 := h0
  have lt0 : ∀ x ∈ p0, x.block < W.heap.size := by obtain ⟨m, hm⟩ := k0; exact DataW.trod_lt m _ _ _ hm
  obtain ⟨k_0, x0, y0, t0, rfl, w0⟩ := open_msg (hval 0 24 v0 rfl rfl) h0
  obtain ⟨a1, rfl, rfl, rfl, w1⟩ := open_int Try.underlying3 (hval 1 3 v1 rfl rfl) h1
  clear hA0 hval0 hsz hsz0
  refine (walk k_0 x0 y0 t0 a1 W w0 w1).mono fun e W' ⟨he, bel⟩ => ?_
  subst he
  exact ⟨_, rfl, _, _, _, [], _, [], hW', trodAll_mk1 (shut_bool Try.underlying4 _), (trodAll_cons_mk (Below.trod laidOut (by kernel_rfl) (of_decide_eq_true (by kernel_rfl)) k0 bel lt0) (trodAll_cons_mk (shut_int Try.underlying3 w1) trodAll_mk0)), rfl, bel.frame _, fun h => by cases h⟩

theorem over : Rows.msgFramesRow.holds Try.pinned (OpenSpec.ofChange Rows.msgFramesSpec) :=
  OpenClaim.holds_of_wide 3 Try.f3 rfl rfl rfl rfl rfl rfl rfl ⟨rfl, rfl, rfl, rfl, rfl⟩ rfl rfl rfl rfl rfl (by kernel_rfl) Try.func3 (by kernel_rfl)
    (of_decide_eq_true (by kernel_rfl)) (by unfold Func.isWrapper; first | (rw [if_pos (by decide +kernel)]; kernel_rfl) | (rw [if_neg (by decide +kernel)]; exact ⟨rfl, rfl⟩))
    (fun os started H enc _ => lifted os started H enc)

end Go.Proofs.Ytbnpamhmippdbaa.msgFrames
namespace Go.Proofs.Ytbnpamhmippdbaa
theorem msgFrames_holds : Rows.MsgFramesSaid := msgFrames.over
#print axioms msgFrames_holds
end Go.Proofs.Ytbnpamhmippdbaa
