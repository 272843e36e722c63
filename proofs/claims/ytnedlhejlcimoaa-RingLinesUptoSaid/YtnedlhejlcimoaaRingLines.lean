/- RingLines, where what comes in is of bulk at most 1048576: the law answers true, and its arguments read as before. Condition: that bulk alone. -/
import Derived.Test.YtnedlhejlcimoaaOpen
namespace Go.Proofs.Ytnedlhejlcimoaa.ringLines
open Go.ChangeShapes Go.WideShapes Go.ChangeAt Go.RowKit
open Rg

/-- r is the least place from k on where a line begins; else the end -/
def From (k b0 : Nat) (L : Bs) (off : Int) (r : Nat) : Prop :=
  r ≤ L.length ∧ (r < L.length → k ≤ r ∧ Begins b0 L off r) ∧ ∀ i, k ≤ i → i < r → ¬ Begins b0 L off i

theorem From.no {k b0 r : Nat} {L : Bs} {off : Int} (h : From (k + 1) b0 L off r) (hn : ¬ Begins b0 L off k) : From k b0 L off r :=
  ⟨h.1, fun hr => ⟨by have := (h.2.1 hr).1; omega, (h.2.1 hr).2⟩, fun i hi hir => by
    rcases Nat.lt_or_ge k i with h' | h'
    · exact h.2.2 i h' hir
    · obtain rfl : i = k := by omega
      exact hn⟩

theorem From.yes {k b0 : Nat} {L : Bs} {off : Int} (hk : k < L.length) (hb : Begins b0 L off k) : From k b0 L off k :=
  ⟨by omega, fun _ => ⟨Nat.le_refl _, hb⟩, fun i hi hir => absurd hir (by omega)⟩

set_option maxHeartbeats 4000000 in
theorem walk (a0 : Int) (a1 : Option Addr) (n1 cap1 : Nat) (A : Nat → Option Addr) (Ln Cp : Nat → Nat) (T : Nat → Bs) (a2 : Int) (w : World) (hp : Pieces w w.heap.size a1 n1 A Ln Cp T) (hn : n1 ≤ 1048576) (hs : (cat T n1).length ≤ 1048576) :
    Calls Try.prog 4 #[.int .i64 a0, .slice a1 n1 cap1, .int .i64 a2] w fun e w' => e = .returned (.bool true) ∧ Below w.heap.size w w' := by
  have HP := Lib.hid hp
  have HS := Lib.hid hs
  clear hp hs
  cases hf : fewB T n1
  · have HF := Lib.hid hf
    clear hf
    go_enter Try.func4, Try.ntmps4
    go_wp2_with fail
    refine (head01_any w).mono ?_
    rintro e w1 ⟨rfl, hb1⟩
    have HB1 := Lib.hid hb1
    clear hb1
    go_wp2_with fail
    refine (few_any w1 (HP.out.below HB1.out) HB1.out.size (by omega) (by have := HS.out; omega)).mono ?_
    rintro e w2 ⟨rfl, hb2⟩
    rw [HF.out]
    have HB2 := Lib.hid (Below.trans HB1.out (hb2.mono HB1.out.size))
    clear hb2
    go_wp2
    go_ret
    exact ⟨rfl, HB2.out⟩
  · have HF := Lib.hid hf
    clear hf
    go_enter Try.func4, Try.ntmps4
    go_wp2_with fail
    refine (head01_any w).mono ?_
    rintro e w1 ⟨rfl, hb1⟩
    have HB1 := Lib.hid hb1
    clear hb1
    go_wp2_with fail
    refine (few_any w1 (HP.out.below HB1.out) HB1.out.size (by omega) (by have := HS.out; omega)).mono ?_
    rintro e w2 ⟨rfl, hb2⟩
    rw [HF.out]
    have HB2 := Lib.hid (Below.trans HB1.out (hb2.mono HB1.out.size))
    clear hb2
    go_wp2_with fail
    refine (new_ring a0 w2).mono ?_
    rintro e w3 ⟨rfl, hr3, hb3, hs3⟩
    have HR3 := Lib.hid hr3
    have HB3 := Lib.hid (Below.trans HB2.out (hb3.mono HB2.out.size))
    clear hr3 hb3 hs3
    have hz2 := HB2.out.size
    go_wp2
    go_loopw [23] (fun i wr => ∃ k : Nat, k ≤ n1 ∧ i = .int .i64 k ∧ Ring wr (w2.heap.size + 1) w2.heap.size (roomOf a0) (cat T k) ∧ Below w.heap.size w wr) (fun i _ => n1 - (intOf i).toNat)
    case atStart => exact ⟨0, by omega, rfl, HR3.out, HB3.out⟩
    case round =>
      obtain ⟨k, hk, rfl, hra, hbr⟩ := hrel
      have HRa := Lib.hid hra
      have HBr := Lib.hid hbr
      have hzr := hbr.size
      clear hra hbr
      by_cases hlt : k < n1
      · obtain ⟨b, off, rfl, hbB, hc⟩ := (HP.out.below HBr.out).outer (by omega)
        have hck := hc k hlt
        clear hc
        have HIn := Lib.hid ((HP.out.below HBr.out).inner k hlt)
        have hlen : (cat T k).length + Ln k ≤ 1099511627776 := by
          have h1 := cat_len T hlt
          have h2 := HS.out
          have h3 := HIn.out.1.1
          omega
        have HLen := Lib.hid hlen
        clear hlen
        go_wp2_with fail
        refine (append_ring HRa.out (A k) (Ln k) (Cp k) (T k) HIn.out.1 (HIn.out.1.away (by omega) (by omega)) HIn.out.2 hzr HLen.out).mono ?_
        rintro e w5 ⟨rfl, hr5, ho5⟩
        have HRa5 := Lib.hid hr5
        have HB5 := Lib.hid (Below.trans HBr.out (ho5.below hzr (fun q hq => by omega)))
        clear hr5 ho5
        go_wp2
        go_roundw
        case rel => exact ⟨k + 1, by omega, by go_num, HRa5.out, HB5.out⟩
        case measure => simp [intOf]; omega
      · obtain rfl : k = n1 := by omega
        have hBw : w.heap.size ≤ wr.heap.size := HBr.out.size
        have hlr := HRa.out.lt
        go_wp2_with fail
        refine (join_any wr (HP.out.below HBr.out) hzr (by omega) (by have := HS.out; omega)).mono ?_
        rintro e w5 ⟨x, cx, rfl, hxc, hby, hxp, hb5⟩
        have HRa5 := Lib.hid (HRa.out.below hb5)
        have HB5 := Lib.hid (Below.trans HBr.out (hb5.mono hBw))
        have HBy := Lib.hid hby
        clear hby hxp hb5 hlr
        go_wp2_with fail
        refine (room01_any a0 w5).mono ?_
        rintro e w6 ⟨rfl, rfl⟩
        have hrm := HRa5.out.pos
        have hL : (cat T k).length ≤ 1048576 := HS.out
        generalize hlen : (cat T k).length = len at *
        have HLen := Lib.hid hlen
        clear hlen
        generalize hrmm : roomOf a0 = rm at *
        have HRm := Lib.hid hrmm
        clear hrmm
        generalize cat T k = L at *
        rcases (show len ≤ rm ∨ rm < len by omega) with hle | hle
        · have hdec : (len : Int) - (rm : Int) ≤ 0 := by omega
          have hb0 : len - rm = 0 := by omega
          have HB0 := Lib.hid hb0
          clear hb0
          go_wp2_with fail
          go_loop [12, 13] (fun v i => ∃ (j : Int) (q r : Nat), j = (q : Int) - 1 ∧ 0 ≤ q ∧ q ≤ len ∧ i = .int .i64 j ∧ v = .int .i64 r ∧ From q 0 L a2 r) (fun _ i => (intOf i + 1).toNat)
          case atStart => exact ⟨_, len, len, rfl, by omega, by omega, rfl, rfl, by rw [← HLen.out]; exact ⟨Nat.le_refl _, fun h => absurd h (by omega), fun i h1 h2 => by omega⟩⟩
          case round =>
            obtain ⟨j, q, r, hj, hq1, hq2, rfl, rfl, hfr⟩ := hrel
            by_cases hq : 0 < q
            · obtain ⟨q, rfl⟩ : ∃ q' : Nat, q = q' + 1 := ⟨q - 1, by omega⟩
              obtain rfl : j = (q : Int) := by omega
              clear hj
              by_cases h1 : a2 ≤ (q : Int)
              · have hd1 : decide (a2 ≤ (q : Int)) = true := by simpa using h1
                rcases q with _ | t
                · have HFr := Lib.hid (From.yes (b0 := 0) (k := 0) (L := L) (off := a2) (by rw [HLen.out]; omega) ⟨by omega, .inl rfl⟩)
                  clear hfr
                  go_wp2
                  go_round
                  case rel => exact ⟨_, 0, 0, by omega, by omega, by omega, rfl, rfl, HFr.out⟩
                  case measure => simp [intOf]
                · have hd2 : (((t + 1 : Nat) : Int) == 0) = false := by simp; omega
                  have hlt2 : t < L.length := by rw [HLen.out]; omega
                  obtain ⟨b, o, rfl, _, hc⟩ := HBy.out.2 (by omega)
                  have hcell := hc t (by omega)
                  clear hc
                  generalize hx : L[t]?.getD 0#8 = xb at *
                  have hxl : L[t]? = some xb := by rw [← hx, List.getElem?_eq_getElem hlt2]; rfl
                  have HX := Lib.hid hxl
                  clear hx hxl
                  cases hx10 : ((xb.toNat : Int) == 10)
                  · have hnb : ¬ Begins 0 L a2 (t + 1) := by
                      rintro ⟨_, hb | ⟨_, hb⟩⟩
                      · omega
                      · rw [Nat.add_sub_cancel, HX.out] at hb
                        injection hb with hb
                        subst hb
                        simp at hx10
                    have HFr := Lib.hid (hfr.no hnb)
                    clear hfr hnb
                    go_wp2
                    go_round
                    case rel => exact ⟨_, t + 1, r, by omega, by omega, by omega, rfl, rfl, HFr.out⟩
                    case measure => first | (simp [intOf]; done) | (simp [intOf]; omega)
                  · have hbg : Begins 0 L a2 (t + 1) := by
                      refine ⟨by omega, .inr ⟨by omega, ?_⟩⟩
                      have e : xb = 10#8 := by
                        apply BitVec.eq_of_toNat_eq
                        simp at hx10
                        simp
                        omega
                      rw [Nat.add_sub_cancel, HX.out, e]
                    have HFr := Lib.hid (From.yes (by rw [HLen.out]; omega) hbg)
                    clear hfr hbg
                    go_wp2
                    go_round
                    case rel => exact ⟨_, t + 1, t + 1, by omega, by omega, by omega, rfl, by go_num, HFr.out⟩
                    case measure => first | (simp [intOf]; done) | (simp [intOf]; omega)
              · have hd1 : decide (a2 ≤ (q : Int)) = false := by simp; omega
                have hnb : ¬ Begins 0 L a2 q := fun hb => h1 hb.1
                have HFr := Lib.hid (hfr.no hnb)
                clear hfr hnb
                go_wp2
                go_round
                case rel => exact ⟨_, q, r, by omega, by omega, by omega, rfl, rfl, HFr.out⟩
                case measure => first | (simp [intOf]; done) | (simp [intOf]; omega)
            · obtain rfl : 0 = q := by omega
              subst hj
              have HFr := Lib.hid hfr
              clear hfr
              go_wp2_with fail
              refine (line_ring HRa5.out a2).mono ?_
              rintro e w7 ⟨r2, rfl, hl, m7, rfl⟩
              rw [HLen.out, HB0.out] at hl
              obtain rfl : r2 = r := isLine_unique hl HFr.out
              clear hl
              go_wp2
              go_ret
              exact ⟨ret_bool (by simp), below_drewN HB5.out _⟩
        · have hdec : 0 < (len : Int) - (rm : Int) := by omega
          obtain ⟨b0, hb0⟩ : ∃ b0 : Nat, (len : Int) - (rm : Int) = b0 := ⟨len - rm, by omega⟩
          have hb1 : len - rm = b0 := by omega
          have HB0 := Lib.hid hb1
          have hbl : b0 ≤ len := by omega
          have hbp : 1 ≤ b0 := by omega
          clear hb1
          go_wp2_with fail
          have HBq := Lib.hid hb0
          clear hb0
          go_loop [12, 13] (fun v i => ∃ (j : Int) (q r : Nat), j = (q : Int) - 1 ∧ b0 ≤ q ∧ q ≤ len ∧ i = .int .i64 j ∧ v = .int .i64 r ∧ From q b0 L a2 r) (fun _ i => (intOf i + 1).toNat)
          case atStart => exact ⟨_, len, len, rfl, by omega, by omega, rfl, rfl, by rw [← HLen.out]; exact ⟨Nat.le_refl _, fun h => absurd h (by omega), fun i h1 h2 => by omega⟩⟩
          case round =>
            obtain ⟨j, q, r, hj, hq1, hq2, rfl, rfl, hfr⟩ := hrel
            by_cases hq : b0 < q
            · obtain ⟨q, rfl⟩ : ∃ q' : Nat, q = q' + 1 := ⟨q - 1, by omega⟩
              obtain rfl : j = (q : Int) := by omega
              clear hj
              by_cases h1 : a2 ≤ (q : Int)
              · have hd1 : decide (a2 ≤ (q : Int)) = true := by simpa using h1
                rcases q with _ | t
                · omega
                · have hd2 : (((t + 1 : Nat) : Int) == 0) = false := by simp; omega
                  by_cases hbt : b0 < t + 1
                  · have hlt2 : t < L.length := by rw [HLen.out]; omega
                    obtain ⟨b, o, rfl, _, hc⟩ := HBy.out.2 (by omega)
                    have hcell := hc t (by omega)
                    clear hc
                    generalize hx : L[t]?.getD 0#8 = xb at *
                    have hxl : L[t]? = some xb := by rw [← hx, List.getElem?_eq_getElem hlt2]; rfl
                    have HX := Lib.hid hxl
                    clear hx hxl
                    cases hx10 : ((xb.toNat : Int) == 10)
                    · have hnb : ¬ Begins b0 L a2 (t + 1) := by
                        rintro ⟨_, hb | ⟨_, hb⟩⟩
                        · omega
                        · rw [Nat.add_sub_cancel, HX.out] at hb
                          injection hb with hb
                          subst hb
                          simp at hx10
                      have HFr := Lib.hid (hfr.no hnb)
                      clear hfr hnb
                      go_wp2
                      go_round
                      case rel => exact ⟨_, t + 1, r, by omega, by omega, by omega, rfl, rfl, HFr.out⟩
                      case measure => first | (simp [intOf]; done) | (simp [intOf]; omega)
                    · have hbg : Begins b0 L a2 (t + 1) := by
                        refine ⟨by omega, .inr ⟨by omega, ?_⟩⟩
                        have e : xb = 10#8 := by
                          apply BitVec.eq_of_toNat_eq
                          simp at hx10
                          simp
                          omega
                        rw [Nat.add_sub_cancel, HX.out, e]
                      have HFr := Lib.hid (From.yes (by rw [HLen.out]; omega) hbg)
                      clear hfr hbg
                      go_wp2
                      go_round
                      case rel => exact ⟨_, t + 1, t + 1, by omega, by omega, by omega, rfl, by go_num, HFr.out⟩
                      case measure => first | (simp [intOf]; done) | (simp [intOf]; omega)
                  · have hnb : ¬ Begins b0 L a2 (t + 1) := by
                      rintro ⟨_, hb | ⟨hb, _⟩⟩
                      · omega
                      · omega
                    have HFr := Lib.hid (hfr.no hnb)
                    clear hfr hnb
                    go_wp2
                    go_round
                    case rel => exact ⟨_, t + 1, r, by omega, by omega, by omega, rfl, rfl, HFr.out⟩
                    case measure => first | (simp [intOf]; done) | (simp [intOf]; omega)
              · have hd1 : decide (a2 ≤ (q : Int)) = false := by simp; omega
                have hnb : ¬ Begins b0 L a2 q := fun hb => h1 hb.1
                have HFr := Lib.hid (hfr.no hnb)
                clear hfr hnb
                go_wp2
                go_round
                case rel => exact ⟨_, q, r, by omega, by omega, by omega, rfl, rfl, HFr.out⟩
                case measure => first | (simp [intOf]; done) | (simp [intOf]; omega)
            · obtain rfl : b0 = q := by omega
              subst hj
              have HFr := Lib.hid hfr
              clear hfr
              go_wp2_with fail
              refine (line_ring HRa5.out a2).mono ?_
              rintro e w7 ⟨r2, rfl, hl, m7, rfl⟩
              rw [HLen.out, HB0.out] at hl
              obtain rfl : r2 = r := isLine_unique hl HFr.out
              clear hl
              go_wp2
              go_ret
              exact ⟨ret_bool (by simp), below_drewN HB5.out _⟩

theorem contract (H : Type) (enc : TypeId × Value → H) (W : World) (base : Nat) (args : Array Value) (ds gs : List (DataW H)) (before : List MemPlace)
    (hval : ∀ (j : Nat) t v, Try.f4.params[j]? = some t → args[j]? = some v → Value.okWide Try.prog W .any base t v)
    (hW : DataW.Whole enc Try.prog Try.f4.params.toList Rows.ringLinesSpec.vars false W args.toList ds gs before) (hk : Rows.uptoSmall H (ds ++ gs) = true) :
    Calls Try.prog 4 args W fun e W' => ∃ v, e = .returned v ∧ Rows.ringLinesSpec.post enc Try.prog Try.f4 false true false false W args v W' := by
  have hW' := hW
  obtain ⟨p, q, hA0, hV, rfl, hfz, hnd⟩ := hW
  have hA : DataW.TrodAll enc Try.prog W 0 (fun _ => true) true Try.f4.params.toList args.toList ds p := hA0
  rw [Try.params4] at hA hval
  obtain ⟨v0, vs0, d0, ds0, p0, q0, hargs, rfl, rfl, h0, r0⟩ := trodAll_cons hA
  obtain ⟨v1, vs1, d1, ds1, p1, q1, rfl, rfl, rfl, h1, r1⟩ := trodAll_cons r0
  obtain ⟨v2, vs2, d2, ds2, p2, q2, rfl, rfl, rfl, h2, r2⟩ := trodAll_cons r1
  obtain ⟨rfl, rfl, rfl⟩ := trodAll_nil r2
  obtain rfl : args = #[v0, v1, v2] := by cases args; simp_all
  obtain ⟨rfl, rfl⟩ := trodVars_none hV
  obtain ⟨a0, rfl, rfl, rfl, w0⟩ := open_int Try.underlying3 (hval 0 3 v0 rfl rfl) h0
  obtain ⟨a1, len1, cap1, rfl⟩ := okWide_slice Try.underlying22 (hval 1 22 v1 rfl rfl)
  have k1 := h1
  have lt1 : ∀ x ∈ p1, x.block < W.heap.size := by obtain ⟨m, hm⟩ := k1; exact DataW.trod_lt m _ _ _ hm
  obtain ⟨A, Ln, Cp, T, hp, hn, hs⟩ : ∃ A Ln Cp T, Pieces W W.heap.size a1 len1 A Ln Cp T ∧ len1 ≤ Rows.uptoBulk d1 ∧ (cat T len1).length ≤ Rows.uptoBulk d1 := by
    obtain ⟨fuel, hf⟩ := h1
    exact open_pieces hf
  obtain ⟨a2, rfl, rfl, rfl, w2⟩ := open_int Try.underlying2 (hval 2 2 v2 rfl rfl) h2
  clear hA0
  have hb : Rows.uptoBulkAll _ ≤ 1048576 := of_decide_eq_true hk
  have hd : Rows.uptoBulk d1 ≤ 1048576 := Nat.le_trans (bulk_part (by simp)) hb
  refine (walk a0 a1 len1 cap1 A Ln Cp T a2 W hp (Nat.le_trans hn hd) (Nat.le_trans hs hd)).mono fun e W' ⟨he, bel⟩ => ?_
  subst he
  exact ⟨_, rfl, _, _, _, [], _, [], hW', trodAll_mk1 (shut_bool Try.underlying4 _), (trodAll_cons_mk (shut_int Try.underlying3 w0) (trodAll_cons_mk (Below.trod laidOut (by kernel_rfl) (of_decide_eq_true (by kernel_rfl)) k1 bel lt1) (trodAll_cons_mk (shut_int Try.underlying2 w2) trodAll_mk0))), rfl, bel.frame _, fun h => by cases h⟩

set_option maxRecDepth 100000 in
theorem lifted (os : Os) (started : os.Started) (H : Type) (enc : TypeId × Value → H) (F : Stop.Interp) :
    ReturnsInHanded {} Try.checked os 4 .any ((Rows.OpenSpec.upto Rows.ringLinesSpec).pre6 enc Try.prog Try.f4 Rows.ringLinesUptoRow.domain false) (((Rows.OpenSpec.upto Rows.ringLinesSpec).at F).post enc Try.prog Try.f4 false true false false) := by
  refine returnsInHanded_of_cond (C := Try.checked) (s := Rows.OpenSpec.upto Rows.ringLinesSpec) (k := Rows.uptoSmall) rfl own started (by kernel_rfl) Try.func4
    (OpenSpec.witness (enc := enc) (C := Try.checked) (s := Rows.OpenSpec.upto Rows.ringLinesSpec) (k := Rows.uptoSmall) rfl false ⟨#[], #[.int .i64 0, .slice none 0 0, .int .i64 0], []⟩ 8 (by kernel_rfl) (by kernel_rfl) (by kernel_rfl)
      (x := ([.lit (.int .i64 0), .nil, .lit (.int .i64 0)], [], [])) (by kernel_rfl) rfl (by kernel_rfl)) ?_
  intro W base args ds gs before hval hW _ hk _
  exact contract H enc W base args ds gs before hval hW hk

theorem over : Rows.RingLinesUptoSaid :=
  OpenClaim.holds_of_cond 4 Try.f4 rfl rfl rfl rfl rfl rfl rfl ⟨rfl, rfl, rfl, rfl, rfl⟩ rfl rfl rfl rfl rfl (by kernel_rfl) Try.func4 (by kernel_rfl)
    (of_decide_eq_true (by kernel_rfl)) (by unfold Func.isWrapper; first | (rw [if_pos (by decide +kernel)]; kernel_rfl) | (rw [if_neg (by decide +kernel)]; exact ⟨rfl, rfl⟩))
    (fun os started H enc _ F => lifted os started H enc F)

end Go.Proofs.Ytnedlhejlcimoaa.ringLines
namespace Go.Proofs.Ytnedlhejlcimoaa
theorem ringLines_holds : Rows.RingLinesUptoSaid := ringLines.over
#print axioms ringLines_holds
end Go.Proofs.Ytnedlhejlcimoaa
