/- RingReads, where what comes in is of bulk at most 1048576: the law answers true, and its arguments read as before. Condition: that bulk alone. -/
import Derived.Test.YtnedlhejlcimoaaOpen
namespace Go.Proofs.Ytnedlhejlcimoaa.ringReads
open Go.ChangeShapes Go.WideShapes Go.ChangeAt Go.RowKit
open Rg

set_option maxHeartbeats 8000000 in
set_option maxRecDepth 100000 in
theorem walk (a0 : Int) (a1 : Option Addr) (n1 cap1 : Nat) (A : Nat → Option Addr) (Ln Cp : Nat → Nat) (T : Nat → Bs) (a2 a3 : Int) (w : World) (hp : Pieces w w.heap.size a1 n1 A Ln Cp T) (hn : n1 ≤ 1048576) (hs : (cat T n1).length ≤ 1048576) :
    Calls Try.prog 3 #[.int .i64 a0, .slice a1 n1 cap1, .int .i64 a2, .int .i64 a3] w fun e w' => e = .returned (.bool true) ∧ Below w.heap.size w w' := by
  have HP := Lib.hid hp
  have HS := Lib.hid hs
  clear hp hs
  cases hf : fewB T n1
  · have HF := Lib.hid hf
    clear hf
    go_enter Try.func3, Try.ntmps3
    go_wp2_with fail
    refine (head01_any w).mono ?_
    rintro e w1 ⟨rfl, hb1⟩
    have HB1 := Lib.hid hb1
    clear hb1
    go_wp2_with fail
    refine (few_any w1 (HP.out.below HB1.out) HB1.out.size (by omega) (by have := HS.out; omega)).mono ?_
    rintro e w2 ⟨rfl, hb2⟩
    rw [HF.out]
    have HB2 := Lib.hid (Below.trans HB1.out (hb2.mono HB1.out.size))
    clear hb2
    go_wp2
    go_ret
    exact ⟨rfl, HB2.out⟩
  · have HF := Lib.hid hf
    clear hf
    go_enter Try.func3, Try.ntmps3
    go_wp2_with fail
    refine (head01_any w).mono ?_
    rintro e w1 ⟨rfl, hb1⟩
    have HB1 := Lib.hid hb1
    clear hb1
    go_wp2_with fail
    refine (few_any w1 (HP.out.below HB1.out) HB1.out.size (by omega) (by have := HS.out; omega)).mono ?_
    rintro e w2 ⟨rfl, hb2⟩
    rw [HF.out]
    have HB2 := Lib.hid (Below.trans HB1.out (hb2.mono HB1.out.size))
    clear hb2
    go_wp2_with fail
    refine (new_ring a0 w2).mono ?_
    rintro e w3 ⟨rfl, hr3, hb3, hs3⟩
    have HR3 := Lib.hid hr3
    have HB3 := Lib.hid (Below.trans HB2.out (hb3.mono HB2.out.size))
    have HS3 := Lib.hid hs3
    clear hr3 hb3 hs3
    have hz2 := HB2.out.size
    obtain ⟨i0, hi0, hz0, hz1, hzb⟩ := byte_info
    -- LOOP
    go_wp2
    go_loopw [10, 27] (fun v i wr => ∃ k : Nat, k ≤ n1 ∧ i = .int .i64 k ∧ Ring wr (w2.heap.size + 1) w2.heap.size (roomOf a0) (cat T k) ∧ wr.ownsRow w3.heap.size 5 1 v (cat T k).length ((cat T k).map by8) ∧ w3.heap.size ≤ wr.heap.size ∧ Below w.heap.size w wr) (fun _ i _ => n1 - (intOf i).toNat)
    case atStart => exact ⟨0, by omega, rfl, HR3.out.keep ((Only.refl (fun _ => False) w3).alloc _) (fun h => h) (fun h => h), own_empty w3 5 _ (Nat.le_refl _), by simp, HB3.out.alloc HB3.out.size _⟩
    case round =>
      obtain ⟨k, hk, rfl, hra, hown, hw3, hbr⟩ := hrel
      have HRa := Lib.hid hra
      have HO := Lib.hid hown
      have HBr := Lib.hid hbr
      have hzr := hbr.size
      clear hra hown hbr
      by_cases hlt : k < n1
      · obtain ⟨b, off, rfl, hbB, hc⟩ := (HP.out.below HBr.out).outer (by omega)
        have hck := hc k hlt
        clear hc
        have HIn := Lib.hid ((HP.out.below HBr.out).inner k hlt)
        have hlen : (cat T k).length + Ln k ≤ 1048576 := by
          have h1 := cat_len T hlt
          have h2 := HS.out
          have h3 := HIn.out.1.1
          omega
        have HLen0 := Lib.hid hlen
        clear hlen
        obtain ⟨xv, cv, rfl, hvc, hvp⟩ := own_cap HO.out
        have HVp := Lib.hid hvp
        clear hvp
        go_wp2_with fail
        refine (append_ring HRa.out (A k) (Ln k) (Cp k) (T k) HIn.out.1 (HIn.out.1.away (by omega) (by omega)) HIn.out.2 hzr (by have := HLen0.out; omega)).mono ?_
        rintro e w5 ⟨rfl, hr5, ho5⟩
        have hz3 : w3.heap.size = w2.heap.size + 2 := HS3.out
        have HR5 := Lib.hid hr5
        have HO5 := Lib.hid (own_keep HO.out ho5 (fun q hq => by omega))
        have HB5 := Lib.hid (Below.trans HBr.out (ho5.below hzr (fun q hq => by omega)))
        have HIn5 := Lib.hid ((HP.out.below HB5.out).inner k hlt)
        have hw3r : w3.heap.size ≤ w5.heap.size := Nat.le_trans hw3 ho5.size
        clear hr5 ho5 hz3
        go_wp2_with (first
          | (at_builtin
             refine wpList_app rfl (.tmp 35) (.tmp 36) _ rfl w3.heap.size 5 i0 _ Try.underlying27 hi0 hz0 hz1 hzb rfl (.slice xv (cat T k).length cv) (cat T k).length (cat T k) rfl HO5.out w.heap.size (A k) (Ln k) (Cp k) (T k) rfl HIn5.out.1 (by have := HLen0.out; omega) hw3r ?_
             intro v1 w6 hown1 hg1 hat1
             have hz3 : w3.heap.size = w2.heap.size + 2 := HS3.out
             have ho6 : Only (fun q => w3.heap.size ≤ q) w5 w6 := Only.grown hg1 (by
               intro q hq _
               rcases xv with _ | p
               · simp [Value.ownBlock] at hq
               · simp [Value.ownBlock] at hq
                 have := (HVp.out p rfl).1
                 omega)
             have HR6 := Lib.hid (show Ring w6 (w2.heap.size + 1) w2.heap.size (roomOf a0) (cat T (k + 1)) from HR5.out.keep ho6 (by omega) (by omega))
             have HB6 := Lib.hid (Below.trans HB5.out (ho6.below HB5.out.size (fun q hq => by omega)))
             have hown2 : w6.ownsRow w3.heap.size 5 1 v1 (cat T (k + 1)).length ((cat T (k + 1)).map by8) := by
               have h3 := HIn.out.1.1
               simp only [cat, List.length_append, h3]
               exact hown1
             have hw6 : w3.heap.size ≤ w6.heap.size := Nat.le_trans hw3r ho6.size
             have hle6 : (cat T (k + 1)).length ≤ 1048576 := Nat.le_trans (cat_mono T (show k + 1 ≤ n1 by omega)) HS.out
             obtain ⟨x, cx, rfl, hxc, _⟩ := own_cap hown2
             have hslot : (cat T k).length + Ln k = (cat T (k + 1)).length := by
               have h3 := HIn.out.1.1
               simp only [cat, List.length_append, h3]
             have HO6 := Lib.hid hown2
             have HSlot := Lib.hid hslot
             clear hown1 hown2 hg1 hat1 ho6 hz3 hslot))
        have hrm := HR6.out.pos
        generalize hcat : cat T (k + 1) = L at *
        have HLe := Lib.hid hcat
        clear hcat
        generalize hlen : L.length = len at *
        have HLen := Lib.hid hlen
        clear hlen
        refine (room01_any a0 w6).mono ?_
        rintro e w7 ⟨rfl, rfl⟩
        generalize hrmm : roomOf a0 = rm at *
        have HRm := Lib.hid hrmm
        clear hrmm
        rcases (show len ≤ rm ∨ rm < len by omega) with hle | hle
        · have hdec : (len : Int) - (rm : Int) ≤ 0 := by omega
          have hb0 : len - rm = 0 := by omega
          have HB0 := Lib.hid hb0
          clear hb0
          go_wp2_with fail
          refine (base_ring HR6.out).mono ?_
          rintro e w7 ⟨rfl, m7, rfl⟩
          rw [HLen.out, HB0.out]
          go_wp2_with fail
          refine (end_ring (HR6.out.drewN _)).mono ?_
          rintro e w8 ⟨rfl, rfl⟩
          rw [HLen.out]
          go_wp2_with fail
          rcases (show a2 < (0 : Int) ∨ (len : Int) < a2 ∨ ∃ o : Nat, a2 = o ∧ 0 ≤ o ∧ o ≤ len by
            by_cases h1 : a2 < (0 : Int)
            · exact .inl h1
            · by_cases h2 : (len : Int) < a2
              · exact .inr (.inl h2)
              · exact .inr (.inr ⟨a2.toNat, by omega, by omega, by omega⟩)) with hlo | hhi | ⟨o, rfl, hob, hol⟩
          · refine (read_ring_no (HR6.out.drewN m7) a2 a3 (.inl (by rw [HLen.out, HB0.out]; exact hlo))).mono ?_
            rintro e w8 ⟨rfl, m8, rfl⟩
            have HR9 := Lib.hid (HR6.out.drewN (m7 + m8))
            have HO9 := Lib.hid (own_drewN HO6.out (m7 + m8))
            have HB9 := Lib.hid (below_drewN HB6.out (m7 + m8))
            have HW9 := Lib.hid (show w3.heap.size ≤ (w6.drewN (m7 + m8)).heap.size from hw6)
            go_wp2
            all_goals
              go_roundw
              case rel => exact ⟨k + 1, by omega, by go_num, by rw [HLe.out]; first | exact HR9.out | (rw [HRm.out]; exact HR9.out), by rw [HLe.out, HLen.out]; exact HO9.out, HW9.out, HB9.out⟩
              case measure => first | (simp [intOf]; done) | (simp [intOf]; omega)
          · refine (read_ring_no (HR6.out.drewN m7) a2 a3 (.inr (by rw [HLen.out]; exact hhi))).mono ?_
            rintro e w8 ⟨rfl, m8, rfl⟩
            have HR9 := Lib.hid (HR6.out.drewN (m7 + m8))
            have HO9 := Lib.hid (own_drewN HO6.out (m7 + m8))
            have HB9 := Lib.hid (below_drewN HB6.out (m7 + m8))
            have HW9 := Lib.hid (show w3.heap.size ≤ (w6.drewN (m7 + m8)).heap.size from hw6)
            go_wp2
            all_goals
              go_roundw
              case rel => exact ⟨k + 1, by omega, by go_num, by rw [HLe.out]; first | exact HR9.out | (rw [HRm.out]; exact HR9.out), by rw [HLe.out, HLen.out]; exact HO9.out, HW9.out, HB9.out⟩
              case measure => first | (simp [intOf]; done) | (simp [intOf]; omega)
          · rcases (show (o < len ∧ a3 < 0) ∨ (o < len ∧ ∃ m : Nat, a3 = m ∧ m < len - o) ∨ (o < len ∧ ((len - o : Nat) : Int) ≤ a3) ∨ (o = len ∧ a3 < 0) ∨ (o = len ∧ 0 ≤ a3) by
              by_cases h1 : o < len
              · by_cases h2 : a3 < 0
                · exact .inl ⟨h1, h2⟩
                · by_cases h3 : ((len - o : Nat) : Int) ≤ a3
                  · exact .inr (.inr (.inl ⟨h1, h3⟩))
                  · exact .inr (.inl ⟨h1, a3.toNat, by omega, by omega⟩)
              · by_cases h2 : a3 < 0
                · exact .inr (.inr (.inr (.inl ⟨by omega, h2⟩)))
                · exact .inr (.inr (.inr (.inr ⟨by omega, by omega⟩)))) with ⟨h1, h2⟩ | ⟨h1, m, rfl, h2⟩ | ⟨h1, h2⟩ | ⟨rfl, h2⟩ | ⟨rfl, h2⟩
            · refine (read_ring (HR6.out.drewN m7) o a3 0 (by rw [HLen.out]; have := HB0.out; omega) (by rw [HLen.out]; omega) (by rw [HLen.out]; omega)).mono ?_
              rintro e w8 ⟨xg, rfl, hbg, _, ho8⟩
              have HR9 := Lib.hid ((HR6.out.drewN m7).keep ho8 (fun h => h) (fun h => h))
              have HO9 := Lib.hid (own_keep (own_drewN HO6.out m7) ho8 (fun _ _ h => h))
              have HB9 := Lib.hid (Below.trans (below_drewN HB6.out m7) (ho8.below HB6.out.size (fun _ _ h => h)))
              have HW9 := Lib.hid (show w3.heap.size ≤ w8.heap.size from Nat.le_trans hw6 ho8.size)
              have hcv0 := fun (W : World) (X : Option Addr) (c : Nat) => conv_str (w := W) (cap := c) (Bytes.nil (w := W) (B := 0) X)
              have hcx : ¬ cx = o := by omega
              clear hbg ho8
              go_wp2
              all_goals
                go_roundw
                case rel => exact ⟨k + 1, by omega, by go_num, by rw [HLe.out]; first | exact HR9.out | (rw [HRm.out]; exact HR9.out), by rw [HLe.out, HLen.out]; exact HO9.out, HW9.out, HB9.out⟩
                case measure => first | (simp [intOf]; done) | (simp [intOf]; omega)
            · refine (read_ring (HR6.out.drewN m7) o (m : Int) m (by rw [HLen.out]; have := HB0.out; omega) (by rw [HLen.out]; omega) (by rw [HLen.out]; omega)).mono ?_
              rintro e w8 ⟨xg, rfl, hbg, _, ho8⟩
              have HR9 := Lib.hid ((HR6.out.drewN m7).keep ho8 (fun h => h) (fun h => h))
              have HO9 := Lib.hid (own_keep (own_drewN HO6.out m7) ho8 (fun _ _ h => h))
              have HB9 := Lib.hid (Below.trans (below_drewN HB6.out m7) (ho8.below HB6.out.size (fun _ _ h => h)))
              have HW9 := Lib.hid (show w3.heap.size ≤ w8.heap.size from Nat.le_trans hw6 ho8.size)
              have hcx : ¬ cx = o := by omega
              have hcg := conv_str (cap := m) hbg
              have hbl : Bytes w8 w8.heap.size x len L := by have h := Bytes.of_own HO9.out; exact h
              have hbc := (hbl.cut hol hxc)
              unfold cutA at hbc
              rw [if_neg hcx] at hbc
              have hcr := conv_str (cap := cx - o) (hbc.take (show m ≤ len - o by omega))
              have hcr2 : (convert 27 9 (.slice (Option.map ((fun x => x) ∘ fun x => x.add o) x) m (cx - o))).run Try.prog w8 = .ok (.string (str ((L.drop o).take m))) w8 := hcr
              clear hcr
              clear hbl hbc
              clear hbg ho8
              go_wp2
              all_goals
                go_roundw
                case rel => exact ⟨k + 1, by omega, by go_num, by rw [HLe.out]; first | exact HR9.out | (rw [HRm.out]; exact HR9.out), by rw [HLe.out, HLen.out]; exact HO9.out, HW9.out, HB9.out⟩
                case measure => first | (simp [intOf]; done) | (simp [intOf]; omega)
            · refine (read_ring (HR6.out.drewN m7) o a3 (len - o) (by rw [HLen.out]; have := HB0.out; omega) (by rw [HLen.out]; omega) (by rw [HLen.out]; omega)).mono ?_
              rintro e w8 ⟨xg, rfl, hbg, _, ho8⟩
              have HR9 := Lib.hid ((HR6.out.drewN m7).keep ho8 (fun h => h) (fun h => h))
              have HO9 := Lib.hid (own_keep (own_drewN HO6.out m7) ho8 (fun _ _ h => h))
              have HB9 := Lib.hid (Below.trans (below_drewN HB6.out m7) (ho8.below HB6.out.size (fun _ _ h => h)))
              have HW9 := Lib.hid (show w3.heap.size ≤ w8.heap.size from Nat.le_trans hw6 ho8.size)
              have hcx : ¬ cx = o := by omega
              have hcg := conv_str (cap := (len - o)) hbg
              have hbl : Bytes w8 w8.heap.size x len L := by have h := Bytes.of_own HO9.out; exact h
              have hbc := (hbl.cut hol hxc)
              unfold cutA at hbc
              rw [if_neg hcx] at hbc
              have hcr := conv_str (cap := cx - o) (hbc.take (show (len - o) ≤ len - o by omega))
              rw [show (L.drop o).take (len - o) = L.drop o from List.take_of_length_le (by rw [List.length_drop, HLen.out]; exact Nat.le_refl _)] at hcg hcr
              have hlt3 : decide (a3 < ((len - o : Nat) : Int)) = false := by simp; omega
              have h3 : ¬ a3 < 0 := by omega
              clear hbl hbc
              clear hbg ho8
              go_wp2
              all_goals
                go_roundw
                case rel => exact ⟨k + 1, by omega, by go_num, by rw [HLe.out]; first | exact HR9.out | (rw [HRm.out]; exact HR9.out), by rw [HLe.out, HLen.out]; exact HO9.out, HW9.out, HB9.out⟩
                case measure => first | (simp [intOf]; done) | (simp [intOf]; omega)
            · refine (read_ring (HR6.out.drewN m7) o a3 0 (by rw [HLen.out]; have := HB0.out; omega) (by rw [HLen.out]; omega) (by rw [HLen.out]; omega)).mono ?_
              rintro e w8 ⟨xg, rfl, hbg, _, ho8⟩
              have HR9 := Lib.hid ((HR6.out.drewN m7).keep ho8 (fun h => h) (fun h => h))
              have HO9 := Lib.hid (own_keep (own_drewN HO6.out m7) ho8 (fun _ _ h => h))
              have HB9 := Lib.hid (Below.trans (below_drewN HB6.out m7) (ho8.below HB6.out.size (fun _ _ h => h)))
              have HW9 := Lib.hid (show w3.heap.size ≤ w8.heap.size from Nat.le_trans hw6 ho8.size)
              have hcv0 := fun (W : World) (X : Option Addr) (c : Nat) => conv_str (w := W) (cap := c) (Bytes.nil (w := W) (B := 0) X)
              clear hbg ho8
              go_wp2
              all_goals
                go_roundw
                case rel => exact ⟨k + 1, by omega, by go_num, by rw [HLe.out]; first | exact HR9.out | (rw [HRm.out]; exact HR9.out), by rw [HLe.out, HLen.out]; exact HO9.out, HW9.out, HB9.out⟩
                case measure => first | (simp [intOf]; done) | (simp [intOf]; omega)
            · refine (read_ring (HR6.out.drewN m7) o a3 0 (by rw [HLen.out]; have := HB0.out; omega) (by rw [HLen.out]; omega) (by rw [HLen.out]; omega)).mono ?_
              rintro e w8 ⟨xg, rfl, hbg, _, ho8⟩
              have HR9 := Lib.hid ((HR6.out.drewN m7).keep ho8 (fun h => h) (fun h => h))
              have HO9 := Lib.hid (own_keep (own_drewN HO6.out m7) ho8 (fun _ _ h => h))
              have HB9 := Lib.hid (Below.trans (below_drewN HB6.out m7) (ho8.below HB6.out.size (fun _ _ h => h)))
              have HW9 := Lib.hid (show w3.heap.size ≤ w8.heap.size from Nat.le_trans hw6 ho8.size)
              have hcv0 := fun (W : World) (X : Option Addr) (c : Nat) => conv_str (w := W) (cap := c) (Bytes.nil (w := W) (B := 0) X)
              clear hbg ho8
              go_wp2
              all_goals
                go_roundw
                case rel => exact ⟨k + 1, by omega, by go_num, by rw [HLe.out]; first | exact HR9.out | (rw [HRm.out]; exact HR9.out), by rw [HLe.out, HLen.out]; exact HO9.out, HW9.out, HB9.out⟩
                case measure => first | (simp [intOf]; done) | (simp [intOf]; omega)
        · have hdec : 0 < (len : Int) - (rm : Int) := by omega
          obtain ⟨b0, hb0⟩ : ∃ b0 : Nat, (len : Int) - (rm : Int) = b0 := ⟨len - rm, by omega⟩
          have hb1 : len - rm = b0 := by omega
          have HB0 := Lib.hid hb1
          have hbl : b0 ≤ len := by omega
          have hbp : 1 ≤ b0 := by omega
          clear hb1
          go_wp2_with fail
          have HBq := Lib.hid hb0
          clear hb0
          refine (base_ring HR6.out).mono ?_
          rintro e w7 ⟨rfl, m7, rfl⟩
          rw [HLen.out, HB0.out]
          go_wp2_with fail
          refine (end_ring (HR6.out.drewN _)).mono ?_
          rintro e w8 ⟨rfl, rfl⟩
          rw [HLen.out]
          go_wp2_with fail
          rcases (show a2 < ((b0 : Nat) : Int) ∨ (len : Int) < a2 ∨ ∃ o : Nat, a2 = o ∧ b0 ≤ o ∧ o ≤ len by
            by_cases h1 : a2 < ((b0 : Nat) : Int)
            · exact .inl h1
            · by_cases h2 : (len : Int) < a2
              · exact .inr (.inl h2)
              · exact .inr (.inr ⟨a2.toNat, by omega, by omega, by omega⟩)) with hlo | hhi | ⟨o, rfl, hob, hol⟩
          · refine (read_ring_no (HR6.out.drewN m7) a2 a3 (.inl (by rw [HLen.out, HB0.out]; exact hlo))).mono ?_
            rintro e w8 ⟨rfl, m8, rfl⟩
            have HR9 := Lib.hid (HR6.out.drewN (m7 + m8))
            have HO9 := Lib.hid (own_drewN HO6.out (m7 + m8))
            have HB9 := Lib.hid (below_drewN HB6.out (m7 + m8))
            have HW9 := Lib.hid (show w3.heap.size ≤ (w6.drewN (m7 + m8)).heap.size from hw6)
            go_wp2
            all_goals
              go_roundw
              case rel => exact ⟨k + 1, by omega, by go_num, by rw [HLe.out]; first | exact HR9.out | (rw [HRm.out]; exact HR9.out), by rw [HLe.out, HLen.out]; exact HO9.out, HW9.out, HB9.out⟩
              case measure => first | (simp [intOf]; done) | (simp [intOf]; omega)
          · refine (read_ring_no (HR6.out.drewN m7) a2 a3 (.inr (by rw [HLen.out]; exact hhi))).mono ?_
            rintro e w8 ⟨rfl, m8, rfl⟩
            have HR9 := Lib.hid (HR6.out.drewN (m7 + m8))
            have HO9 := Lib.hid (own_drewN HO6.out (m7 + m8))
            have HB9 := Lib.hid (below_drewN HB6.out (m7 + m8))
            have HW9 := Lib.hid (show w3.heap.size ≤ (w6.drewN (m7 + m8)).heap.size from hw6)
            go_wp2
            all_goals
              go_roundw
              case rel => exact ⟨k + 1, by omega, by go_num, by rw [HLe.out]; first | exact HR9.out | (rw [HRm.out]; exact HR9.out), by rw [HLe.out, HLen.out]; exact HO9.out, HW9.out, HB9.out⟩
              case measure => first | (simp [intOf]; done) | (simp [intOf]; omega)
          · rcases (show (o < len ∧ a3 < 0) ∨ (o < len ∧ ∃ m : Nat, a3 = m ∧ m < len - o) ∨ (o < len ∧ ((len - o : Nat) : Int) ≤ a3) ∨ (o = len ∧ a3 < 0) ∨ (o = len ∧ 0 ≤ a3) by
              by_cases h1 : o < len
              · by_cases h2 : a3 < 0
                · exact .inl ⟨h1, h2⟩
                · by_cases h3 : ((len - o : Nat) : Int) ≤ a3
                  · exact .inr (.inr (.inl ⟨h1, h3⟩))
                  · exact .inr (.inl ⟨h1, a3.toNat, by omega, by omega⟩)
              · by_cases h2 : a3 < 0
                · exact .inr (.inr (.inr (.inl ⟨by omega, h2⟩)))
                · exact .inr (.inr (.inr (.inr ⟨by omega, by omega⟩)))) with ⟨h1, h2⟩ | ⟨h1, m, rfl, h2⟩ | ⟨h1, h2⟩ | ⟨rfl, h2⟩ | ⟨rfl, h2⟩
            · refine (read_ring (HR6.out.drewN m7) o a3 0 (by rw [HLen.out]; have := HB0.out; omega) (by rw [HLen.out]; omega) (by rw [HLen.out]; omega)).mono ?_
              rintro e w8 ⟨xg, rfl, hbg, _, ho8⟩
              have HR9 := Lib.hid ((HR6.out.drewN m7).keep ho8 (fun h => h) (fun h => h))
              have HO9 := Lib.hid (own_keep (own_drewN HO6.out m7) ho8 (fun _ _ h => h))
              have HB9 := Lib.hid (Below.trans (below_drewN HB6.out m7) (ho8.below HB6.out.size (fun _ _ h => h)))
              have HW9 := Lib.hid (show w3.heap.size ≤ w8.heap.size from Nat.le_trans hw6 ho8.size)
              have hcv0 := fun (W : World) (X : Option Addr) (c : Nat) => conv_str (w := W) (cap := c) (Bytes.nil (w := W) (B := 0) X)
              have hcx : ¬ cx = o := by omega
              clear hbg ho8
              go_wp2
              all_goals
                go_roundw
                case rel => exact ⟨k + 1, by omega, by go_num, by rw [HLe.out]; first | exact HR9.out | (rw [HRm.out]; exact HR9.out), by rw [HLe.out, HLen.out]; exact HO9.out, HW9.out, HB9.out⟩
                case measure => first | (simp [intOf]; done) | (simp [intOf]; omega)
            · refine (read_ring (HR6.out.drewN m7) o (m : Int) m (by rw [HLen.out]; have := HB0.out; omega) (by rw [HLen.out]; omega) (by rw [HLen.out]; omega)).mono ?_
              rintro e w8 ⟨xg, rfl, hbg, _, ho8⟩
              have HR9 := Lib.hid ((HR6.out.drewN m7).keep ho8 (fun h => h) (fun h => h))
              have HO9 := Lib.hid (own_keep (own_drewN HO6.out m7) ho8 (fun _ _ h => h))
              have HB9 := Lib.hid (Below.trans (below_drewN HB6.out m7) (ho8.below HB6.out.size (fun _ _ h => h)))
              have HW9 := Lib.hid (show w3.heap.size ≤ w8.heap.size from Nat.le_trans hw6 ho8.size)
              have hcx : ¬ cx = o := by omega
              have hcg := conv_str (cap := m) hbg
              have hbl : Bytes w8 w8.heap.size x len L := by have h := Bytes.of_own HO9.out; exact h
              have hbc := (hbl.cut hol hxc)
              unfold cutA at hbc
              rw [if_neg hcx] at hbc
              have hcr := conv_str (cap := cx - o) (hbc.take (show m ≤ len - o by omega))
              have hcr2 : (convert 27 9 (.slice (Option.map ((fun x => x) ∘ fun x => x.add o) x) m (cx - o))).run Try.prog w8 = .ok (.string (str ((L.drop o).take m))) w8 := hcr
              clear hcr
              clear hbl hbc
              clear hbg ho8
              go_wp2
              all_goals
                go_roundw
                case rel => exact ⟨k + 1, by omega, by go_num, by rw [HLe.out]; first | exact HR9.out | (rw [HRm.out]; exact HR9.out), by rw [HLe.out, HLen.out]; exact HO9.out, HW9.out, HB9.out⟩
                case measure => first | (simp [intOf]; done) | (simp [intOf]; omega)
            · refine (read_ring (HR6.out.drewN m7) o a3 (len - o) (by rw [HLen.out]; have := HB0.out; omega) (by rw [HLen.out]; omega) (by rw [HLen.out]; omega)).mono ?_
              rintro e w8 ⟨xg, rfl, hbg, _, ho8⟩
              have HR9 := Lib.hid ((HR6.out.drewN m7).keep ho8 (fun h => h) (fun h => h))
              have HO9 := Lib.hid (own_keep (own_drewN HO6.out m7) ho8 (fun _ _ h => h))
              have HB9 := Lib.hid (Below.trans (below_drewN HB6.out m7) (ho8.below HB6.out.size (fun _ _ h => h)))
              have HW9 := Lib.hid (show w3.heap.size ≤ w8.heap.size from Nat.le_trans hw6 ho8.size)
              have hcx : ¬ cx = o := by omega
              have hcg := conv_str (cap := (len - o)) hbg
              have hbl : Bytes w8 w8.heap.size x len L := by have h := Bytes.of_own HO9.out; exact h
              have hbc := (hbl.cut hol hxc)
              unfold cutA at hbc
              rw [if_neg hcx] at hbc
              have hcr := conv_str (cap := cx - o) (hbc.take (show (len - o) ≤ len - o by omega))
              rw [show (L.drop o).take (len - o) = L.drop o from List.take_of_length_le (by rw [List.length_drop, HLen.out]; exact Nat.le_refl _)] at hcg hcr
              have hlt3 : decide (a3 < ((len - o : Nat) : Int)) = false := by simp; omega
              have h3 : ¬ a3 < 0 := by omega
              clear hbl hbc
              clear hbg ho8
              go_wp2
              all_goals
                go_roundw
                case rel => exact ⟨k + 1, by omega, by go_num, by rw [HLe.out]; first | exact HR9.out | (rw [HRm.out]; exact HR9.out), by rw [HLe.out, HLen.out]; exact HO9.out, HW9.out, HB9.out⟩
                case measure => first | (simp [intOf]; done) | (simp [intOf]; omega)
            · refine (read_ring (HR6.out.drewN m7) o a3 0 (by rw [HLen.out]; have := HB0.out; omega) (by rw [HLen.out]; omega) (by rw [HLen.out]; omega)).mono ?_
              rintro e w8 ⟨xg, rfl, hbg, _, ho8⟩
              have HR9 := Lib.hid ((HR6.out.drewN m7).keep ho8 (fun h => h) (fun h => h))
              have HO9 := Lib.hid (own_keep (own_drewN HO6.out m7) ho8 (fun _ _ h => h))
              have HB9 := Lib.hid (Below.trans (below_drewN HB6.out m7) (ho8.below HB6.out.size (fun _ _ h => h)))
              have HW9 := Lib.hid (show w3.heap.size ≤ w8.heap.size from Nat.le_trans hw6 ho8.size)
              have hcv0 := fun (W : World) (X : Option Addr) (c : Nat) => conv_str (w := W) (cap := c) (Bytes.nil (w := W) (B := 0) X)
              clear hbg ho8
              go_wp2
              all_goals
                go_roundw
                case rel => exact ⟨k + 1, by omega, by go_num, by rw [HLe.out]; first | exact HR9.out | (rw [HRm.out]; exact HR9.out), by rw [HLe.out, HLen.out]; exact HO9.out, HW9.out, HB9.out⟩
                case measure => first | (simp [intOf]; done) | (simp [intOf]; omega)
            · refine (read_ring (HR6.out.drewN m7) o a3 0 (by rw [HLen.out]; have := HB0.out; omega) (by rw [HLen.out]; omega) (by rw [HLen.out]; omega)).mono ?_
              rintro e w8 ⟨xg, rfl, hbg, _, ho8⟩
              have HR9 := Lib.hid ((HR6.out.drewN m7).keep ho8 (fun h => h) (fun h => h))
              have HO9 := Lib.hid (own_keep (own_drewN HO6.out m7) ho8 (fun _ _ h => h))
              have HB9 := Lib.hid (Below.trans (below_drewN HB6.out m7) (ho8.below HB6.out.size (fun _ _ h => h)))
              have HW9 := Lib.hid (show w3.heap.size ≤ w8.heap.size from Nat.le_trans hw6 ho8.size)
              have hcv0 := fun (W : World) (X : Option Addr) (c : Nat) => conv_str (w := W) (cap := c) (Bytes.nil (w := W) (B := 0) X)
              clear hbg ho8
              go_wp2
              all_goals
                go_roundw
                case rel => exact ⟨k + 1, by omega, by go_num, by rw [HLe.out]; first | exact HR9.out | (rw [HRm.out]; exact HR9.out), by rw [HLe.out, HLen.out]; exact HO9.out, HW9.out, HB9.out⟩
                case measure => first | (simp [intOf]; done) | (simp [intOf]; omega)
      · obtain rfl : k = n1 := by omega
        go_wp2
        go_ret
        exact ⟨rfl, HBr.out⟩

theorem contract (H : Type) (enc : TypeId × Value → H) (W : World) (base : Nat) (args : Array Value) (ds gs : List (DataW H)) (before : List MemPlace)
    (hval : ∀ (j : Nat) t v, Try.f3.params[j]? = some t → args[j]? = some v → Value.okWide Try.prog W .any base t v)
    (hW : DataW.Whole enc Try.prog Try.f3.params.toList Rows.ringReadsSpec.vars false W args.toList ds gs before) (hk : Rows.uptoSmall H (ds ++ gs) = true) :
    Calls Try.prog 3 args W fun e W' => ∃ v, e = .returned v ∧ Rows.ringReadsSpec.post enc Try.prog Try.f3 false true false false W args v W' := by
  have hW' := hW
  obtain ⟨p, q, hA0, hV, rfl, hfz, hnd⟩ := hW
  have hA : DataW.TrodAll enc Try.prog W 0 (fun _ => true) true Try.f3.params.toList args.toList ds p := hA0
  rw [Try.params3] at hA hval
  obtain ⟨v0, vs0, d0, ds0, p0, q0, hargs, rfl, rfl, h0, r0⟩ := trodAll_cons hA
  obtain ⟨v1, vs1, d1, ds1, p1, q1, rfl, rfl, rfl, h1, r1⟩ := trodAll_cons r0
  obtain ⟨v2, vs2, d2, ds2, p2, q2, rfl, rfl, rfl, h2, r2⟩ := trodAll_cons r1
  obtain ⟨v3, vs3, d3, ds3, p3, q3, rfl, rfl, rfl, h3, r3⟩ := trodAll_cons r2
  obtain ⟨rfl, rfl, rfl⟩ := trodAll_nil r3
  obtain rfl : args = #[v0, v1, v2, v3] := by cases args; simp_all
  obtain ⟨rfl, rfl⟩ := trodVars_none hV
  obtain ⟨a0, rfl, rfl, rfl, w0⟩ := open_int Try.underlying3 (hval 0 3 v0 rfl rfl) h0
  obtain ⟨a1, len1, cap1, rfl⟩ := okWide_slice Try.underlying22 (hval 1 22 v1 rfl rfl)
  have k1 := h1
  have lt1 : ∀ x ∈ p1, x.block < W.heap.size := by obtain ⟨m, hm⟩ := k1; exact DataW.trod_lt m _ _ _ hm
  obtain ⟨A, Ln, Cp, T, hp, hn, hs⟩ : ∃ A Ln Cp T, Pieces W W.heap.size a1 len1 A Ln Cp T ∧ len1 ≤ Rows.uptoBulk d1 ∧ (cat T len1).length ≤ Rows.uptoBulk d1 := by
    obtain ⟨fuel, hf⟩ := h1
    exact open_pieces hf
  obtain ⟨a2, rfl, rfl, rfl, w2⟩ := open_int Try.underlying2 (hval 2 2 v2 rfl rfl) h2
  obtain ⟨a3, rfl, rfl, rfl, w3⟩ := open_int Try.underlying3 (hval 3 3 v3 rfl rfl) h3
  clear hA0
  have hb : Rows.uptoBulkAll _ ≤ 1048576 := of_decide_eq_true hk
  have hd : Rows.uptoBulk d1 ≤ 1048576 := Nat.le_trans (bulk_part (by simp)) hb
  refine (walk a0 a1 len1 cap1 A Ln Cp T a2 a3 W hp (Nat.le_trans hn hd) (Nat.le_trans hs hd)).mono fun e W' ⟨he, bel⟩ => ?_
  subst he
  exact ⟨_, rfl, _, _, _, [], _, [], hW', trodAll_mk1 (shut_bool Try.underlying4 _), (trodAll_cons_mk (shut_int Try.underlying3 w0) (trodAll_cons_mk (Below.trod laidOut (by kernel_rfl) (of_decide_eq_true (by kernel_rfl)) k1 bel lt1) (trodAll_cons_mk (shut_int Try.underlying2 w2) (trodAll_cons_mk (shut_int Try.underlying3 w3) trodAll_mk0)))), rfl, bel.frame _, fun h => by cases h⟩

set_option maxRecDepth 100000 in
theorem lifted (os : Os) (started : os.Started) (H : Type) (enc : TypeId × Value → H) (F : Stop.Interp) :
    ReturnsInHanded {} Try.checked os 3 .any ((Rows.OpenSpec.upto Rows.ringReadsSpec).pre6 enc Try.prog Try.f3 Rows.ringReadsUptoRow.domain false) (((Rows.OpenSpec.upto Rows.ringReadsSpec).at F).post enc Try.prog Try.f3 false true false false) := by
  refine returnsInHanded_of_cond (C := Try.checked) (s := Rows.OpenSpec.upto Rows.ringReadsSpec) (k := Rows.uptoSmall) rfl own started (by kernel_rfl) Try.func3
    (OpenSpec.witness (enc := enc) (C := Try.checked) (s := Rows.OpenSpec.upto Rows.ringReadsSpec) (k := Rows.uptoSmall) rfl false ⟨#[], #[.int .i64 0, .slice none 0 0, .int .i64 0, .int .i64 0], []⟩ 8 (by kernel_rfl) (by kernel_rfl) (by kernel_rfl)
      (x := ([.lit (.int .i64 0), .nil, .lit (.int .i64 0), .lit (.int .i64 0)], [], [])) (by kernel_rfl) rfl (by kernel_rfl)) ?_
  intro W base args ds gs before hval hW _ hk _
  exact contract H enc W base args ds gs before hval hW hk

theorem over : Rows.RingReadsUptoSaid :=
  OpenClaim.holds_of_cond 3 Try.f3 rfl rfl rfl rfl rfl rfl rfl ⟨rfl, rfl, rfl, rfl, rfl⟩ rfl rfl rfl rfl rfl (by kernel_rfl) Try.func3 (by kernel_rfl)
    (of_decide_eq_true (by kernel_rfl)) (by unfold Func.isWrapper; first | (rw [if_pos (by decide +kernel)]; kernel_rfl) | (rw [if_neg (by decide +kernel)]; exact ⟨rfl, rfl⟩))
    (fun os started H enc _ F => lifted os started H enc F)

end Go.Proofs.Ytnedlhejlcimoaa.ringReads
namespace Go.Proofs.Ytnedlhejlcimoaa
theorem ringReads_holds : Rows.RingReadsUptoSaid := ringReads.over
#print axioms ringReads_holds
end Go.Proofs.Ytnedlhejlcimoaa
