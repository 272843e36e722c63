/- RingPieces, where what comes in is of bulk at most 1048576: the law answers true, and its arguments read as before. Condition: that bulk alone. -/
import Derived.Test.YtnedlhejlcimoaaOpen
namespace Go.Proofs.Ytnedlhejlcimoaa.ringPieces
open Go.ChangeShapes Go.WideShapes Go.ChangeAt Go.RowKit
open Rg

set_option maxHeartbeats 4000000 in
theorem walk (a0 : Int) (a1 : Option Addr) (n1 cap1 : Nat) (A : Nat → Option Addr) (Ln Cp : Nat → Nat) (T : Nat → Bs) (w : World) (hp : Pieces w w.heap.size a1 n1 A Ln Cp T) (hn : n1 ≤ 1048576) (hs : (cat T n1).length ≤ 1048576) :
    Calls Try.prog 5 #[.int .i64 a0, .slice a1 n1 cap1] w fun e w' => e = .returned (.bool true) ∧ Below w.heap.size w w' := by
  have HP := Lib.hid hp
  have HS := Lib.hid hs
  clear hp hs
  cases hf : fewB T n1
  · have HF := Lib.hid hf
    clear hf
    go_enter Try.func5, Try.ntmps5
    go_wp2_with fail
    refine (head01_any w).mono ?_
    rintro e w1 ⟨rfl, hb1⟩
    have HB1 := Lib.hid hb1
    clear hb1
    go_wp2_with fail
    refine (few_any w1 (HP.out.below HB1.out) HB1.out.size (by omega) (by have := HS.out; omega)).mono ?_
    rintro e w2 ⟨rfl, hb2⟩
    rw [HF.out]
    have HB2 := Lib.hid (Below.trans HB1.out (hb2.mono HB1.out.size))
    clear hb2
    go_wp2
    go_ret
    exact ⟨rfl, HB2.out⟩
  · have HF := Lib.hid hf
    clear hf
    go_enter Try.func5, Try.ntmps5
    go_wp2_with fail
    refine (head01_any w).mono ?_
    rintro e w1 ⟨rfl, hb1⟩
    have HB1 := Lib.hid hb1
    clear hb1
    go_wp2_with fail
    refine (few_any w1 (HP.out.below HB1.out) HB1.out.size (by omega) (by have := HS.out; omega)).mono ?_
    rintro e w2 ⟨rfl, hb2⟩
    rw [HF.out]
    have HB2 := Lib.hid (Below.trans HB1.out (hb2.mono HB1.out.size))
    clear hb2
    go_wp2_with fail
    refine (new_ring a0 w2).mono ?_
    rintro e w3 ⟨rfl, hr3, hb3, hs3⟩
    have HR3 := Lib.hid hr3
    have HB3 := Lib.hid (Below.trans HB2.out (hb3.mono HB2.out.size))
    have HS3 := Lib.hid hs3
    clear hr3 hb3 hs3
    go_wp2_with fail
    refine (new_ring a0 w3).mono ?_
    rintro e w4 ⟨rfl, hr4, hb4, hs4⟩
    have HR3 := Lib.hid (HR3.out.below hb4)
    have HR4 := Lib.hid hr4
    have HB4 := Lib.hid (Below.trans HB3.out (hb4.mono HB3.out.size))
    clear hr4 hb4 hs4
    have hz2 := HB2.out.size
    have hz3 := HB3.out.size
    go_wp2
    go_loopw [24] (fun i wr => ∃ k : Nat, k ≤ n1 ∧ i = .int .i64 k ∧ Ring wr (w2.heap.size + 1) w2.heap.size (roomOf a0) (cat T k) ∧ Ring wr (w3.heap.size + 1) w3.heap.size (roomOf a0) [] ∧ Below w.heap.size w wr) (fun i _ => n1 - (intOf i).toNat)
    case atStart => exact ⟨0, by omega, rfl, HR3.out, HR4.out, HB4.out⟩
    case round =>
      obtain ⟨k, hk, rfl, hra, hrb, hbr⟩ := hrel
      have HRa := Lib.hid hra
      have HRb := Lib.hid hrb
      have HBr := Lib.hid hbr
      have hzr := hbr.size
      clear hra hrb hbr
      by_cases hlt : k < n1
      · obtain ⟨b, off, rfl, hbB, hc⟩ := (HP.out.below HBr.out).outer (by omega)
        have hck := hc k hlt
        clear hc
        have HIn := Lib.hid ((HP.out.below HBr.out).inner k hlt)
        have hlen : (cat T k).length + Ln k ≤ 1099511627776 := by
          have h1 := cat_len T hlt
          have h2 := HS.out
          have h3 := HIn.out.1.1
          omega
        have HLen := Lib.hid hlen
        clear hlen
        go_wp2_with fail
        refine (append_ring HRa.out (A k) (Ln k) (Cp k) (T k) HIn.out.1 (HIn.out.1.away (by omega) (by omega)) HIn.out.2 hzr HLen.out).mono ?_
        rintro e w5 ⟨rfl, hr5, ho5⟩
        have HRa5 := Lib.hid hr5
        have hz3' := HS3.out
        have HRb5 := Lib.hid (HRb.out.keep ho5 (by omega) (by omega))
        have HB5 := Lib.hid (Below.trans HBr.out (ho5.below hzr (fun q hq => by omega)))
        clear hr5 ho5 hz3'
        go_wp2
        go_roundw
        case rel => exact ⟨k + 1, by omega, by go_num, HRa5.out, HRb5.out, HB5.out⟩
        case measure => simp [intOf]; omega
      · obtain rfl : k = n1 := by omega
        have hzS := HS3.out
        have hlr := HRb.out.lt
        have hBw : w.heap.size ≤ wr.heap.size := HBr.out.size
        go_wp2_with fail
        refine (join_any wr (HP.out.below HBr.out) hzr (by omega) (by have := HS.out; omega)).mono ?_
        rintro e w5 ⟨x, cx, rfl, hxc, hby, hxp, hb5⟩
        have HRa5 := Lib.hid (HRa.out.below hb5)
        have HRb5 := Lib.hid (HRb.out.below hb5)
        have HB5 := Lib.hid (Below.trans HBr.out (hb5.mono hBw))
        have HBy := Lib.hid hby
        have haw : Away (cat T k).length x (w3.heap.size + 1) w3.heap.size := by
          intro _ p hp
          have := (hxp p hp).1
          omega
        have HAw := Lib.hid haw
        clear hby hxp hb5 haw hzS hlr
        go_wp2_with fail
        refine (append_ring HRb5.out x (cat T k).length cx (cat T k) HBy.out HAw.out hxc (Nat.le_refl _) (by have := HS.out; simp; omega)).mono ?_
        rintro e w6 ⟨rfl, hr6, ho6⟩
        rw [List.nil_append] at hr6
        have hzS := HS3.out
        have HRa6 := Lib.hid (HRa5.out.keep ho6 (by omega) (by omega))
        have HRb6 := Lib.hid hr6
        have HB6 := Lib.hid (Below.trans HB5.out (ho6.below HB5.out.size (fun q hq => by omega)))
        clear hr6 ho6 hzS
        go_wp2_with fail
        refine (base_ring HRa6.out).mono ?_
        rintro e w7 ⟨rfl, m7, rfl⟩
        go_wp2_with fail
        have hlen : ((cat T k).length - roomOf a0) ≤ (cat T k).length := Nat.sub_le _ _
        have hrm := HRa6.out.pos
        have hct : (cat T k).length - ((cat T k).length - roomOf a0) = (min 70000 (((cat T k).length : Int) - (((cat T k).length - roomOf a0 : Nat) : Int))).toNat := by omega
        have HCt := Lib.hid hct
        clear hct
        refine (read_ring (HRa6.out.drewN m7) _ 70000 ((cat T k).length - ((cat T k).length - roomOf a0)) (by omega) hlen HCt.out).mono ?_
        rintro e w8 ⟨xa, rfl, hba, hpa, ho8⟩
        have HBa := Lib.hid hba
        have HRa8 := Lib.hid ((HRa6.out.drewN m7).keep ho8 (fun h => h) (fun h => h))
        have HRb8 := Lib.hid ((HRb6.out.drewN m7).keep ho8 (fun h => h) (fun h => h))
        have HB8 := Lib.hid (Below.trans (below_drewN HB6.out m7) (ho8.below HB6.out.size (fun _ _ h => h)))
        clear hba hpa ho8
        go_wp2_with fail
        refine (base_ring HRb8.out).mono ?_
        rintro e w9 ⟨rfl, m9, rfl⟩
        go_wp2_with fail
        refine (read_ring (HRb8.out.drewN m9) _ 70000 ((cat T k).length - ((cat T k).length - roomOf a0)) (by omega) hlen HCt.out).mono ?_
        rintro e w10 ⟨xb, rfl, hbb, hpb, ho10⟩
        have HBb := Lib.hid hbb
        have HRa10 := Lib.hid ((HRa8.out.drewN m9).keep ho10 (fun h => h) (fun h => h))
        have HRb10 := Lib.hid ((HRb8.out.drewN m9).keep ho10 (fun h => h) (fun h => h))
        have HB10 := Lib.hid (Below.trans (below_drewN HB8.out m9) (ho10.below HB8.out.size (fun _ _ h => h)))
        have HBa10 := Lib.hid ((HBa.out.keep (w' := w8.drewN m9) (fun _ _ => rfl)).only1 ho10 (fun _ _ h => h))
        clear hbb hpb ho10
        have hca := conv_str (cap := (cat T k).length - ((cat T k).length - roomOf a0)) HBa10.out
        have hcb := conv_str (cap := (cat T k).length - ((cat T k).length - roomOf a0)) HBb.out
        clear HBy HBa HBb HBa10
        go_wp2_with fail
        refine (base_ring HRa10.out).mono ?_
        rintro e w11 ⟨rfl, m11, rfl⟩
        go_wp2_with fail
        refine (base_ring (HRb10.out.drewN _)).mono ?_
        rintro e w11 ⟨rfl, m12, rfl⟩
        go_wp2_with fail
        refine (end_ring (HRa10.out.drewN _)).mono ?_
        rintro e w11 ⟨rfl, rfl⟩
        go_wp2_with fail
        refine (end_ring (HRb10.out.drewN _)).mono ?_
        rintro e w11 ⟨rfl, rfl⟩
        go_wp2_with fail
        refine (end_ring (HRa10.out.drewN _)).mono ?_
        rintro e w11 ⟨rfl, rfl⟩
        go_wp2_with fail
        refine (base_ring (HRa10.out.drewN _)).mono ?_
        rintro e w11 ⟨rfl, m13, rfl⟩
        go_wp2
        go_ret
        refine ⟨ret_bool ?_, below_drewN HB10.out _⟩
        simp
        omega

theorem contract (H : Type) (enc : TypeId × Value → H) (W : World) (base : Nat) (args : Array Value) (ds gs : List (DataW H)) (before : List MemPlace)
    (hval : ∀ (j : Nat) t v, Try.f5.params[j]? = some t → args[j]? = some v → Value.okWide Try.prog W .any base t v)
    (hW : DataW.Whole enc Try.prog Try.f5.params.toList Rows.ringPiecesSpec.vars false W args.toList ds gs before) (hk : Rows.uptoSmall H (ds ++ gs) = true) :
    Calls Try.prog 5 args W fun e W' => ∃ v, e = .returned v ∧ Rows.ringPiecesSpec.post enc Try.prog Try.f5 false true false false W args v W' := by
  have hW' := hW
  obtain ⟨p, q, hA0, hV, rfl, hfz, hnd⟩ := hW
  have hA : DataW.TrodAll enc Try.prog W 0 (fun _ => true) true Try.f5.params.toList args.toList ds p := hA0
  rw [Try.params5] at hA hval
  obtain ⟨v0, vs0, d0, ds0, p0, q0, hargs, rfl, rfl, h0, r0⟩ := trodAll_cons hA
  obtain ⟨v1, vs1, d1, ds1, p1, q1, rfl, rfl, rfl, h1, r1⟩ := trodAll_cons r0
  obtain ⟨rfl, rfl, rfl⟩ := trodAll_nil r1
  obtain rfl : args = #[v0, v1] := by cases args; simp_all
  obtain ⟨rfl, rfl⟩ := trodVars_none hV
  obtain ⟨a0, rfl, rfl, rfl, w0⟩ := open_int Try.underlying3 (hval 0 3 v0 rfl rfl) h0
  obtain ⟨a1, len1, cap1, rfl⟩ := okWide_slice Try.underlying22 (hval 1 22 v1 rfl rfl)
  have k1 := h1
  have lt1 : ∀ x ∈ p1, x.block < W.heap.size := by obtain ⟨m, hm⟩ := k1; exact DataW.trod_lt m _ _ _ hm
  obtain ⟨A, Ln, Cp, T, hp, hn, hs⟩ : ∃ A Ln Cp T, Pieces W W.heap.size a1 len1 A Ln Cp T ∧ len1 ≤ Rows.uptoBulk d1 ∧ (cat T len1).length ≤ Rows.uptoBulk d1 := by
    obtain ⟨fuel, hf⟩ := h1
    exact open_pieces hf
  clear hA0
  have hb : Rows.uptoBulkAll _ ≤ 1048576 := of_decide_eq_true hk
  have hd : Rows.uptoBulk d1 ≤ 1048576 := Nat.le_trans (bulk_part (by simp)) hb
  refine (walk a0 a1 len1 cap1 A Ln Cp T W hp (Nat.le_trans hn hd) (Nat.le_trans hs hd)).mono fun e W' ⟨he, bel⟩ => ?_
  subst he
  exact ⟨_, rfl, _, _, _, [], _, [], hW', trodAll_mk1 (shut_bool Try.underlying4 _), (trodAll_cons_mk (shut_int Try.underlying3 w0) (trodAll_cons_mk (Below.trod laidOut (by kernel_rfl) (of_decide_eq_true (by kernel_rfl)) k1 bel lt1) trodAll_mk0)), rfl, bel.frame _, fun h => by cases h⟩

set_option maxRecDepth 100000 in
theorem lifted (os : Os) (started : os.Started) (H : Type) (enc : TypeId × Value → H) (F : Stop.Interp) :
    ReturnsInHanded {} Try.checked os 5 .any ((Rows.OpenSpec.upto Rows.ringPiecesSpec).pre6 enc Try.prog Try.f5 Rows.ringPiecesUptoRow.domain false) (((Rows.OpenSpec.upto Rows.ringPiecesSpec).at F).post enc Try.prog Try.f5 false true false false) := by
  refine returnsInHanded_of_cond (C := Try.checked) (s := Rows.OpenSpec.upto Rows.ringPiecesSpec) (k := Rows.uptoSmall) rfl own started (by kernel_rfl) Try.func5
    (OpenSpec.witness (enc := enc) (C := Try.checked) (s := Rows.OpenSpec.upto Rows.ringPiecesSpec) (k := Rows.uptoSmall) rfl false ⟨#[], #[.int .i64 0, .slice none 0 0], []⟩ 8 (by kernel_rfl) (by kernel_rfl) (by kernel_rfl)
      (x := ([.lit (.int .i64 0), .nil], [], [])) (by kernel_rfl) rfl (by kernel_rfl)) ?_
  intro W base args ds gs before hval hW _ hk _
  exact contract H enc W base args ds gs before hval hW hk

theorem over : Rows.RingPiecesUptoSaid :=
  OpenClaim.holds_of_cond 5 Try.f5 rfl rfl rfl rfl rfl rfl rfl ⟨rfl, rfl, rfl, rfl, rfl⟩ rfl rfl rfl rfl rfl (by kernel_rfl) Try.func5 (by kernel_rfl)
    (of_decide_eq_true (by kernel_rfl)) (by unfold Func.isWrapper; first | (rw [if_pos (by decide +kernel)]; kernel_rfl) | (rw [if_neg (by decide +kernel)]; exact ⟨rfl, rfl⟩))
    (fun os started H enc _ F => lifted os started H enc F)

end Go.Proofs.Ytnedlhejlcimoaa.ringPieces
namespace Go.Proofs.Ytnedlhejlcimoaa
theorem ringPieces_holds : Rows.RingPiecesUptoSaid := ringPieces.over
#print axioms ringPieces_holds
end Go.Proofs.Ytnedlhejlcimoaa
