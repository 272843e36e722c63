/- SumSpoilt: for every input the law answers true, and its arguments read as before. Conditions: none. -/
import Derived.Test.YtnedlhejlcimoaaRows
import Derived.WalkKit
import Derived.ProofKit
import Derived.OpenShut
import Derived.ShutString
import Derived.ChangeOld
import Derived.Below
import Derived.Deep.QuietTactic
import Derived.BigQuiet
import Derived.Test.YtnedlhejlcimoaaSumw
namespace Go.Proofs.Ytnedlhejlcimoaa.sumSpoilt
open Go.ChangeShapes Go.WideShapes Go.ChangeAt Go.RowKit
open Go.ChangeMaps (open_string shut_string)
set_option linter.unusedVariables false

theorem own : ownKnob Try.prog.godebug = none := by kernel_rfl
theorem laidOut : laidOutB Try.prog = true := by kernel_rfl

theorem rem_any (a : Int) (n : Nat) (h0 : ¬ n = 0) (h : ¬ 300 < n) : ∃ p : Nat, p < 8 * n ∧ wrap64 ((IntKind.u64.wrap a).tmod (8 * (n : Int))) = p := by
  have h1 := wrap_u64_nonneg a
  generalize IntKind.u64.wrap a = x at *
  rw [Int.tmod_eq_emod_of_nonneg h1]
  have h2 := Int.emod_nonneg x (b := 8 * (n : Int)) (by omega)
  have h3 := Int.emod_lt_of_pos x (b := 8 * (n : Int)) (by omega)
  refine ⟨(x % (8 * (n : Int))).toNat, by omega, ?_⟩
  rw [IntWalk.wrap64_in _ (by omega)]
  omega

theorem int_ne {a b : BitVec 16} (h : a ≠ b) : ((a.toNat : Int) == (b.toNat : Int)) = false := by
  simp only [beq_eq_false_iff_ne]
  intro e
  exact h (BitVec.eq_of_toNat_eq (by omega))

theorem spoil_int (l : List (BitVec 8)) (p : Nat) (tb : Nat → Bool) (k : Nat) (hk : k ≤ 16) (hp : p + k ≤ 8 * l.length) (h : Crc.anyT tb k = true) :
    (((Crc.more 65535#16 (Crc.spoil l p tb k)).toNat : Int) == ((Crc.more 65535#16 l).toNat : Int)) = false := int_ne (Crc.spoil_ne _ l p tb k hk hp h)

theorem one_int (l : List (BitVec 8)) (p : Nat) (hp : p < 8 * l.length) :
    (((Crc.more 65535#16 (Crc.flip l p)).toNat : Int) == ((Crc.more 65535#16 l).toNat : Int)) = false := int_ne (Crc.one_ne _ l p hp)

theorem two_int (l : List (BitVec 8)) (p q : Nat) (hn : l.length ≤ 300) (hp : p < 8 * l.length) (hq : q < 8 * l.length) (hpq : p ≠ q) :
    (((Crc.more 65535#16 (Crc.flip (Crc.flip l p) q)).toNat : Int) == ((Crc.more 65535#16 l).toNat : Int)) = false := int_ne (Crc.two_ne _ l p q hn hp hq hpq)

theorem mask_int : ∀ a : Fin 8, (128 : Int) / 2 ^ a.val = ((0x80#8 >>> a.val).toNat : Int) := by decide

/-- the byte c with bit p turned -/
def turn (c : BitVec 8) (p : Nat) : BitVec 8 := c ^^^ (0x80#8 >>> (p % 8))

theorem turn_int (c : BitVec 8) (p : Nat) : bits .xor .u8 (c.toNat) (128 / 2 ^ (p % 8)) = (turn c p).toNat := by
  have hm := mask_int ⟨p % 8, by omega⟩
  simp only at hm
  unfold turn
  rw [hm, u8_xor_nat _ _ c.isLt (BitVec.isLt _), BitVec.toNat_xor]

theorem own_flip {w : World} {base e n g cap : Nat} {l : List (BitVec 8)} (h : w.ownsRow base e 1 (.slice (some ⟨g, 0, none⟩) n cap) n (l.map by8)) (p : Nat) (c : BitVec 8) (hc : l[p / 8]?.getD 0#8 = c) :
    (w.setCell ⟨g, p / 8, none⟩ (.int .u8 (turn c p).toNat)).ownsRow base e 1 (.slice (some ⟨g, 0, none⟩) n cap) n ((Crc.flip l p).map by8) ∧
      w.grownBy (w.setCell ⟨g, p / 8, none⟩ (.int .u8 (turn c p).toNat)) (some g) := by
  have hs := h.stored (p / 8) (by8 (turn c p))
  refine ⟨?_, hs.2⟩
  have e1 : (l.map by8).set (p / 8) (by8 (turn c p)) = (Crc.flip l p).map by8 := by
    unfold Crc.flip
    rw [List.map_set, hc]
    rfl
  rw [← e1]
  exact hs.1

theorem flip_same (l : List (BitVec 8)) (p q : Nat) (h : q / 8 = p / 8) (hp : p < 8 * l.length) (c : BitVec 8) (hc : l[p / 8]?.getD 0#8 = c) : (Crc.flip l p)[q / 8]?.getD 0#8 = turn c p := by
  have : p / 8 < l.length := by omega
  unfold Crc.flip
  rw [h, hc, List.getElem?_set]
  simp [this, turn]

theorem flip_other (l : List (BitVec 8)) (p q : Nat) (h : ¬ q / 8 = p / 8) (c : BitVec 8) (hc : l[q / 8]?.getD 0#8 = c) : (Crc.flip l p)[q / 8]?.getD 0#8 = c := by
  unfold Crc.flip
  rw [List.getElem?_set, if_neg (by omega), hc]

def tb (t : Int) (k : Nat) : Bool := bits BinOp.and IntKind.i64 (t / 2 ^ k) 1 == 1

theorem byte_info : ∃ i, Try.prog.info? 5 = some i ∧ i.zero = some (.int .u8 0) ∧ i.size = 1 ∧ i.bytes = 1 := info_parts (by kernel_rfl)

set_option maxHeartbeats 4000000 in
theorem walk (a0 : Option Addr) (len0 cap0 : Nat) (z0 : List Int) (a1 : Int) (a2 : Int) (a3 : Int) (a4 : Int) (w : World) (w0 : IsRow .u8 w a0 len0 cap0 z0) (w1 : (Lit.int .i64 a1).wf = true) (w2 : (Lit.int .i64 a2).wf = true) (w3 : (Lit.int .i64 a3).wf = true) (w4 : (Lit.int .i64 a4).wf = true) :
    Calls Try.prog 9 #[.slice a0 len0 cap0, .int .i64 a1, .int .i64 a2, .int .i64 a3, .int .i64 a4] w fun e w' => e = .returned (.bool true) ∧ Below w.heap.size w w' := by
  obtain ⟨l, hb0, hn⟩ := w0.bytes
  have HA := Lib.hid hb0
  clear hb0 w0
  by_cases hz : len0 = 0
  · subst hz
    go_enter Try.func9, Try.ntmps9
    go_wp2_with (refine (head_any _).mono ?_; rintro e w' ⟨rfl, hb⟩)
    go_ret
    exact ⟨rfl, hb⟩
  have hz1 : ((len0 : Int) == 0) = false := by simp; omega
  by_cases hl : 300 < len0
  · go_enter Try.func9, Try.ntmps9
    go_wp2_with (refine (head_any _).mono ?_; rintro e w' ⟨rfl, hb⟩)
    go_ret
    exact ⟨rfl, hb⟩
  have hl1 : decide (300 < (len0 : Int)) = false := by simp; omega
  go_enter Try.func9, Try.ntmps9
  go_wp2_with fail
  refine (head_any _).mono ?_
  rintro e w' ⟨rfl, hb⟩
  have HA2 := Lib.hid (HA.out.below hb)
  go_wp2_with fail
  refine (of_any a0 len0 cap0 _ l w' hn HA2.out).mono ?_
  rintro e w2 ⟨rfl, rfl⟩
  obtain ⟨p1, hp1, ep1⟩ := rem_any a1 len0 hz hl
  obtain ⟨p3, hp3, ep3⟩ := rem_any a3 len0 hz hl
  obtain ⟨p4, hp4, ep4⟩ := rem_any a4 len0 hz hl
  obtain ⟨i0, hi0, hi1, hi2, hi3⟩ := byte_info
  have hbs := hb.size
  have hlen : l.length = len0 := HA.out.1
  have HL := Lib.hid hlen
  clear hlen
  go_wp2_with (first
    | (at_builtin
       refine wpList_app rfl (.tmp 38) (.tmp 39) _ rfl w.heap.size 5 i0 _ Try.underlying27 hi0 hi1 hi2 hi3 rfl (.slice (some ⟨w'.heap.size, 0, none⟩) 0 0) 0 [] rfl (own_empty w' 5 _ hbs) w.heap.size a0 len0 cap0 l rfl (HA2.out.below ((Below.refl _ _).alloc hbs _)) (by omega) (by simp; omega) ?_
       intro v1 w1 hown1 hg1 hat1
       have hb1 : Below w.heap.size w' w1 := ((Below.refl _ _).alloc hbs _).grown hg1 (by simp; omega) (by intro k hk; simp [Value.ownBlock] at hk; omega)
       rw [Nat.zero_add, List.nil_append] at hown1
       obtain ⟨g, c1, rfl, hg, _⟩ := hown1.form (by omega)
       have HO := Lib.hid hown1
       clear hown1 hg1 hat1))
  go_loopw [14, 15] (fun f i wr => ∃ k : Nat, k ≤ 16 ∧ p1 + k ≤ 8 * len0 ∧ i = .int .i64 k ∧ f = .bool (Crc.anyT (tb a2) k) ∧ wr.ownsRow w.heap.size 5 1 (.slice (some ⟨g, 0, none⟩) len0 c1) len0 ((Crc.spoil l p1 (tb a2) k).map by8) ∧ Below w.heap.size w' wr) (fun _ i _ => 16 - (intOf i).toNat)
  case atStart => exact ⟨0, by omega, by omega, rfl, rfl, HO.out, hb1⟩
  case round =>
    obtain ⟨k, hk, hkn, rfl, rfl, hown, hbr⟩ := hrel
    by_cases hin : k < 16 ∧ p1 + k < 8 * len0
    · obtain ⟨hlt, hltn⟩ := hin
      have hcell := own_cell hown ((p1 + k) / 8) (by rw [Crc.spoil_length, HL.out]; omega)
      have hfz := hown.frozenAt ((p1 + k) / 8)
      generalize hc : (Crc.spoil l p1 (tb a2) k)[(p1 + k) / 8]?.getD 0#8 = c at *
      have Hc := Lib.hid hc
      have HW := Lib.hid hown
      clear hown hc
      cases htb : tb a2 k
      · have htb1 : (bits BinOp.and IntKind.i64 (a2 / 2 ^ k) 1 == 1) = false := htb
        have HT := Lib.hid htb
        clear htb
        go_wp2
        go_roundw
        case rel => exact ⟨k + 1, by omega, by omega, by go_num, by simp [Crc.anyT, HT.out], by simp only [Crc.spoil, HT.out]; exact HW.out, hbr⟩
        case measure => simp [intOf]; omega
      · have htb1 : (bits BinOp.and IntKind.i64 (a2 / 2 ^ k) 1 == 1) = true := htb
        have HT := Lib.hid htb
        clear htb
        have HF := Lib.hid (own_flip HW.out (p1 + k) c Hc.out)
        have ht := turn_int c (p1 + k)
        go_wp2
        go_roundw
        case rel => exact ⟨k + 1, by omega, by omega, by go_num, by simp [Crc.anyT, HT.out], by simp only [Crc.spoil, HT.out, if_true]; exact HF.out.1, hbr.grown HF.out.2 (Nat.le_trans hbs hbr.size) (fun q hq => by injection hq with hq; omega)⟩
        case measure => simp [intOf]; omega
    · have hout : decide ((k : Int) < 16) = false ∨ (decide ((k : Int) < 16) = true ∧ decide ((p1 : Int) + (k : Int) < 8 * (len0 : Int)) = false) := by
        by_cases h : k < 16
        · exact .inr ⟨by simp; omega, by simp; omega⟩
        · exact .inl (by simp; omega)
      have HW := Lib.hid hown
      clear hown hin
      have hbg := hbr.size
      have HB := Lib.hid (Bytes.of_own HW.out)
      have HN := Lib.hid (fun h => spoil_int l p1 (tb a2) k hk (by rw [HL.out]; exact hkn) h)
      have H1 := Lib.hid (one_int l p3 (by rw [HL.out]; exact hp3))
      have H2 := Lib.hid (fun h => two_int l p3 p4 (by rw [HL.out]; omega) (by rw [HL.out]; exact hp3) (by rw [HL.out]; exact hp4) h)
      generalize hx3 : l[p3 / 8]?.getD 0#8 = x3
      generalize hx4 : l[p4 / 8]?.getD 0#8 = x4
      have Hx3 := Lib.hid hx3
      have Hx4 := Lib.hid hx4
      clear hx3 hx4
      rcases (show p4 = p3 ∨ (p4 ≠ p3 ∧ p4 / 8 = p3 / 8) ∨ (p4 ≠ p3 ∧ ¬ p4 / 8 = p3 / 8) by omega) with hcase | ⟨hcase, hq⟩ | ⟨hcase, hq⟩
      · subst hcase
        have q0 : (((p4 : Int)) != (p4 : Int)) = false := by simp
        rcases hout with h1 | ⟨h1, h2⟩
        all_goals
          cases hf : Crc.anyT (tb a2) k
        all_goals
          have HFl := Lib.hid hf
          clear hf
        all_goals
          go_wp2_with (first
            | (go_at_call 23
               (with_reducible refine (of_any (some ⟨g, 0, none⟩) len0 c1 _ _ wr hn HB.out).mono ?_)
               rintro e w2 ⟨rfl, rfl⟩
               have hne := HN.out HFl.out)
            | (at_builtin
               rw [ep3, ep4]
               refine wpList_app rfl (.tmp 92) (.tmp 93) _ rfl w.heap.size 5 i0 _ Try.underlying27 hi0 hi1 hi2 hi3 rfl (.slice (some ⟨wr.heap.size, 0, none⟩) 0 0) 0 [] rfl (own_empty wr 5 _ (Nat.le_trans hbs hbg)) w.heap.size a0 len0 cap0 l rfl ((HA2.out.below hbr).below ((Below.refl _ _).alloc (Nat.le_trans hbs hbg) _)) (by omega) (by simp; omega) ?_
               intro v1 w3 hown3 hg3 hat3
               have hbA : Below w.heap.size wr w3 := ((Below.refl _ _).alloc (Nat.le_trans hbs hbg) _).grown hg3 (by simp; omega) (by intro k hk; simp [Value.ownBlock] at hk; omega)
               have hzA := hbA.size
               rw [Nat.zero_add, List.nil_append] at hown3
               obtain ⟨g3, c3, rfl, hgg, _⟩ := hown3.form (by omega)
               have hcell3 := own_cell hown3 (p4 / 8) (by rw [HL.out]; omega)
               rw [Hx4.out] at hcell3
               have hfz3 := hown3.frozenAt (p4 / 8)
               have ht3 := turn_int x4 p4
               have HD := Lib.hid (own_flip hown3 p4 x4 Hx4.out)
               have HO3 := Lib.hid hown3
               clear hown3 hg3 hat3)
            | (go_at_call 23
               refine (of_any (some ⟨g3, 0, none⟩) len0 c3 _ _ _ hn (Bytes.of_own HD.out.1)).mono ?_
               rintro e w4 ⟨rfl, rfl⟩))
        all_goals
          have hneq := H1.out
          have hs3 := Nat.le_trans hbs (Nat.le_trans hbg hzA)
          go_ret
          exact ⟨by simp [bne, hneq], (Below.trans (Below.trans hb hbr) hbA).grown HD.out.2 hs3 (fun q hq => by injection hq with hq; omega)⟩
      · have q0 : (((p4 : Int)) != (p3 : Int)) = true := by simp; omega
        have hq2 : p3 / 8 = p4 / 8 := by omega
        have HQ := Lib.hid hq
        clear hq
        rcases hout with h1 | ⟨h1, h2⟩
        all_goals
          cases hf : Crc.anyT (tb a2) k
        all_goals
          have HFl := Lib.hid hf
          clear hf
        all_goals
          go_wp2_with (first
            | (go_at_call 23
               (with_reducible refine (of_any (some ⟨g, 0, none⟩) len0 c1 _ _ wr hn HB.out).mono ?_)
               rintro e w2 ⟨rfl, rfl⟩
               have hne := HN.out HFl.out)
            | (at_builtin
               rw [ep3, ep4]
               refine wpList_app rfl (.tmp 92) (.tmp 93) _ rfl w.heap.size 5 i0 _ Try.underlying27 hi0 hi1 hi2 hi3 rfl (.slice (some ⟨wr.heap.size, 0, none⟩) 0 0) 0 [] rfl (own_empty wr 5 _ (Nat.le_trans hbs hbg)) w.heap.size a0 len0 cap0 l rfl ((HA2.out.below hbr).below ((Below.refl _ _).alloc (Nat.le_trans hbs hbg) _)) (by omega) (by simp; omega) ?_
               intro v1 w3 hown3 hg3 hat3
               have hbA : Below w.heap.size wr w3 := ((Below.refl _ _).alloc (Nat.le_trans hbs hbg) _).grown hg3 (by simp; omega) (by intro k hk; simp [Value.ownBlock] at hk; omega)
               have hzA := hbA.size
               rw [Nat.zero_add, List.nil_append] at hown3
               obtain ⟨g3, c3, rfl, hgg, _⟩ := hown3.form (by omega)
               have hcell3 := own_cell hown3 (p3 / 8) (by rw [HL.out]; omega)
               rw [Hx3.out] at hcell3
               have hfz3 := hown3.frozenAt (p3 / 8)
               rw [hq2] at hcell3 hfz3
               have ht3 := turn_int x3 p3
               have ht4 := turn_int (turn x3 p3) p4
               have hd1 := own_flip hown3 p3 x3 Hx3.out
               rw [hq2] at hd1
               have HD1 := Lib.hid hd1
               clear hd1
               have HD := Lib.hid (own_flip HD1.out.1 p4 (turn x3 p3) (flip_same l p3 p4 HQ.out (by rw [HL.out]; exact hp3) x3 Hx3.out))
               have HO3 := Lib.hid hown3
               clear hown3 hg3 hat3)
            | (go_at_call 23
               refine (of_any (some ⟨g3, 0, none⟩) len0 c3 _ _ _ hn (Bytes.of_own HD.out.1)).mono ?_
               rintro e w4 ⟨rfl, rfl⟩))
        all_goals
          have hneq := H2.out (fun e => hcase e.symm)
          have hs3 := Nat.le_trans hbs (Nat.le_trans hbg hzA)
          go_ret
          exact ⟨by simp [bne, hneq], ((Below.trans (Below.trans hb hbr) hbA).grown HD1.out.2 hs3 (fun q hq => by injection hq with hq; omega)).grown HD.out.2 (Nat.le_trans hs3 HD1.out.2.size) (fun q hq => by injection hq with hq; omega)⟩
      · have q0 : (((p4 : Int)) != (p3 : Int)) = true := by simp; omega
        have hq2 : ¬ p3 / 8 = p4 / 8 := by omega
        rcases hout with h1 | ⟨h1, h2⟩
        all_goals
          cases hf : Crc.anyT (tb a2) k
        all_goals
          have HFl := Lib.hid hf
          clear hf
        all_goals
          go_wp2_with (first
            | (go_at_call 23
               (with_reducible refine (of_any (some ⟨g, 0, none⟩) len0 c1 _ _ wr hn HB.out).mono ?_)
               rintro e w2 ⟨rfl, rfl⟩
               have hne := HN.out HFl.out)
            | (at_builtin
               rw [ep3, ep4]
               refine wpList_app rfl (.tmp 92) (.tmp 93) _ rfl w.heap.size 5 i0 _ Try.underlying27 hi0 hi1 hi2 hi3 rfl (.slice (some ⟨wr.heap.size, 0, none⟩) 0 0) 0 [] rfl (own_empty wr 5 _ (Nat.le_trans hbs hbg)) w.heap.size a0 len0 cap0 l rfl ((HA2.out.below hbr).below ((Below.refl _ _).alloc (Nat.le_trans hbs hbg) _)) (by omega) (by simp; omega) ?_
               intro v1 w3 hown3 hg3 hat3
               have hbA : Below w.heap.size wr w3 := ((Below.refl _ _).alloc (Nat.le_trans hbs hbg) _).grown hg3 (by simp; omega) (by intro k hk; simp [Value.ownBlock] at hk; omega)
               have hzA := hbA.size
               rw [Nat.zero_add, List.nil_append] at hown3
               obtain ⟨g3, c3, rfl, hgg, _⟩ := hown3.form (by omega)
               have hcell3 := own_cell hown3 (p3 / 8) (by rw [HL.out]; omega)
               rw [Hx3.out] at hcell3
               have hfz3 := hown3.frozenAt (p3 / 8)
               have hcell4 := own_cell hown3 (p4 / 8) (by rw [HL.out]; omega)
               rw [Hx4.out] at hcell4
               have hfz4 := hown3.frozenAt (p4 / 8)
               have ht3 := turn_int x3 p3
               have ht4 := turn_int x4 p4
               have HD1 := Lib.hid (own_flip hown3 p3 x3 Hx3.out)
               have HD := Lib.hid (own_flip HD1.out.1 p4 x4 (flip_other l p3 p4 hq x4 Hx4.out))
               have HO3 := Lib.hid hown3
               clear hown3 hg3 hat3)
            | (go_at_call 23
               refine (of_any (some ⟨g3, 0, none⟩) len0 c3 _ _ _ hn (Bytes.of_own HD.out.1)).mono ?_
               rintro e w4 ⟨rfl, rfl⟩))
        all_goals
          have hneq := H2.out (fun e => hcase e.symm)
          have hs3 := Nat.le_trans hbs (Nat.le_trans hbg hzA)
          go_ret
          exact ⟨by simp [bne, hneq], ((Below.trans (Below.trans hb hbr) hbA).grown HD1.out.2 hs3 (fun q hq => by injection hq with hq; omega)).grown HD.out.2 (Nat.le_trans hs3 HD1.out.2.size) (fun q hq => by injection hq with hq; omega)⟩
set_option maxRecDepth 100000 in
theorem lifted (os : Os) (started : os.Started) (H : Type) (enc : TypeId × Value → H) :
    ReturnsInHanded {} Try.checked os 9 .any (Rows.sumSpoiltSpec.pre6 enc Try.prog Try.f9 Rows.sumSpoiltRow.domain false) (Rows.sumSpoiltSpec.post enc Try.prog Try.f9 false true false false) := by
  refine returnsInHanded_of_change (C := Try.checked) own started (by kernel_rfl) Try.func9
    (ChangeSpec.witness6 (enc := enc) (C := Try.checked) false ⟨#[], #[.slice none 0 0, .int .i64 0, .int .i64 0, .int .i64 0, .int .i64 0], []⟩ 8 (by kernel_rfl) (by kernel_rfl) (by kernel_rfl) (by kernel_rfl)) ?_
  intro W base args ds gs before hval0 hW hcnd _
  have hval : ∀ (j : Nat) t v, Try.f9.params[j]? = some t → args[j]? = some v → Value.okWide Try.prog W .any base t v := hval0
  have hW' := hW
  obtain ⟨p, q, hA0, hV, rfl, hfz, hnd⟩ := hW
  have hA : DataW.TrodAll enc Try.prog W 0 (fun _ => true) true Try.f9.params.toList args.toList ds p := hA0
  rw [Try.params9] at hA hval
  obtain ⟨v0, vs0, d0, ds0, p0, q0, hargs, rfl, rfl, h0, r0⟩ := trodAll_cons hA
  obtain ⟨v1, vs1, d1, ds1, p1, q1, rfl, rfl, rfl, h1, r1⟩ := trodAll_cons r0
  obtain ⟨v2, vs2, d2, ds2, p2, q2, rfl, rfl, rfl, h2, r2⟩ := trodAll_cons r1
  obtain ⟨v3, vs3, d3, ds3, p3, q3, rfl, rfl, rfl, h3, r3⟩ := trodAll_cons r2
  obtain ⟨v4, vs4, d4, ds4, p4, q4, rfl, rfl, rfl, h4, r4⟩ := trodAll_cons r3
  obtain ⟨rfl, rfl, rfl⟩ := trodAll_nil r4
  obtain rfl : args = #[v0, v1, v2, v3, v4] := by cases args; simp_all
  obtain ⟨rfl, rfl⟩ := trodVars_none hV
  obtain ⟨a0, len0, cap0, rfl⟩ := okWide_slice Try.underlying27 (hval 0 27 v0 rfl rfl)
  have k0 := h0
  have lt0 : ∀ x ∈ p0, x.block < W.heap.size := by obtain ⟨m, hm⟩ := k0; exact DataW.trod_lt m _ _ _ hm
  obtain ⟨z0, w0⟩ : ∃ zs, IsRow .u8 W a0 len0 cap0 zs := by
    obtain ⟨fuel, hf⟩ := h0
    rcases open_ints Try.underlying27 Try.underlying5 (by kernel_rfl) hf with ⟨hcs, _⟩ | ⟨x, l, c, zs, hcs, _, hl, hm, hz, _, hcell, hwz⟩
    · simp [Value.cells] at hcs
      obtain ⟨rfl, rfl, rfl⟩ := hcs
      exact ⟨[], .inl ⟨rfl, rfl, rfl, rfl⟩⟩
    · simp [Value.cells] at hcs
      obtain ⟨rfl, rfl, rfl⟩ := hcs
      exact ⟨zs, .inr ⟨_, rfl, hl, hm, by simpa using hz, hcell, hwz⟩⟩
  obtain ⟨a1, rfl, rfl, rfl, w1⟩ := open_int Try.underlying3 (hval 1 3 v1 rfl rfl) h1
  obtain ⟨a2, rfl, rfl, rfl, w2⟩ := open_int Try.underlying3 (hval 2 3 v2 rfl rfl) h2
  obtain ⟨a3, rfl, rfl, rfl, w3⟩ := open_int Try.underlying3 (hval 3 3 v3 rfl rfl) h3
  obtain ⟨a4, rfl, rfl, rfl, w4⟩ := open_int Try.underlying3 (hval 4 3 v4 rfl rfl) h4
  clear hA0 hval0
  refine (walk a0 len0 cap0 z0 a1 a2 a3 a4 W w0 w1 w2 w3 w4).mono fun e W' ⟨he, bel⟩ => ?_
  subst he
  exact ⟨_, rfl, _, _, _, [], _, [], hW', trodAll_mk1 (shut_bool Try.underlying4 _), (trodAll_cons_mk (Below.trod laidOut (by kernel_rfl) (of_decide_eq_true (by kernel_rfl)) k0 bel lt0) (trodAll_cons_mk (shut_int Try.underlying3 w1) (trodAll_cons_mk (shut_int Try.underlying3 w2) (trodAll_cons_mk (shut_int Try.underlying3 w3) (trodAll_cons_mk (shut_int Try.underlying3 w4) trodAll_mk0))))), rfl, bel.frame _, fun h => by cases h⟩

theorem over : Rows.sumSpoiltRow.holds Try.pinned (OpenSpec.ofChange Rows.sumSpoiltSpec) :=
  OpenClaim.holds_of_wide 9 Try.f9 rfl rfl rfl rfl rfl rfl rfl ⟨rfl, rfl, rfl, rfl, rfl⟩ rfl rfl rfl rfl rfl (by kernel_rfl) Try.func9 (by kernel_rfl)
    (of_decide_eq_true (by kernel_rfl)) (by unfold Func.isWrapper; first | (rw [if_pos (by decide +kernel)]; kernel_rfl) | (rw [if_neg (by decide +kernel)]; exact ⟨rfl, rfl⟩))
    (fun os started H enc _ => lifted os started H enc)

end Go.Proofs.Ytnedlhejlcimoaa.sumSpoilt
namespace Go.Proofs.Ytnedlhejlcimoaa
theorem sumSpoilt_holds : Rows.SumSpoiltSaid := sumSpoilt.over
#print axioms sumSpoilt_holds
end Go.Proofs.Ytnedlhejlcimoaa
