/- FramePuts: for every input the law answers true, and its arguments read as before. Conditions: none. -/
import Derived.Test.YtdeinmbhnedgkaaRows
import Derived.WalkKit
import Derived.ProofKit
import Derived.OpenShut
import Derived.ShutString
import Derived.ChangeOld
import Derived.Below
import Derived.Test.YtdeinmbhnedgkaaFlaw
import Derived.Deep.QuietTactic
import Derived.BigQuiet
import Derived.Deep.RegionLaw
import Derived.Deep.RegionHeld
namespace Go.Proofs.Ytdeinmbhnedgkaa.framePuts
open Go.ChangeShapes Go.WideShapes Go.ChangeAt Go.RowKit
open Go.ChangeMaps (open_string shut_string)
set_option linter.unusedVariables false

theorem own : ownKnob Try.prog.godebug = none := by kernel_rfl
theorem laidOut : laidOutB Try.prog = true := by kernel_rfl

open Fr

theorem below_back {w w' : World} (h : Below w.heap.size w.drew w') : Below w.heap.size w w' := ⟨h.os, h.tape, h.output, h.size, h.block⟩

theorem str_app (l m : Bs) : str (l ++ m) = str l ++ str m := by
  unfold str
  rw [ByteArray.mk_append_mk, List.map_append]

/-- an append of bytes onto an own row, as a step of a region that draws -/
theorem step_put {ops : Array Oper} {o : Oper} {a : Act} {w : World} {K : Act → World → Prop} {Q : Exit → Act → World → Prop} {E : Prop} (hgd : o.guard = none) (s x : Operand)
    (ho : o.op = .call { callee := .builtin .append, args := #[s, x], argTypes := #[22, 22] })
    (base : Nat) (A1 : Option Addr) (n c1 : Nat) (k : Bs) (hs : a.eval s = .slice A1 n c1) (hown : Own base w A1 n c1 k)
    (B : Nat) (A : Option Addr) (m c : Nat) (l : Bs) (hx : a.eval x = .slice A m c) (hr : Bytes w B A m l)
    (hroom : n + m ≤ 140737488355328) (hbase : base ≤ w.heap.size)
    (h : ∀ A2 c2 w', Own base w' A2 (n + m) c2 (k ++ l) → Below base w w' → K (a.put o.dst (.slice A2 (n + m) c2)) w') :
    if Region.wanted o (yielded ops a.tmps) = true then Oper.wp Try.prog o a w K Q else E := by
  have hw : Region.wanted o (yielded ops a.tmps) = true := by simp [Region.wanted, hgd]
  rw [if_pos hw]
  obtain ⟨i0, hi0, hi1, hi2, hi3⟩ := byte_info
  obtain ⟨v', w', hrun, h1, h2, h3⟩ := run_app (P := Try.prog) (w := w) base 22 o.type 5 i0 _ Try.underlying22 hi0 hi1 hi2 hi3 rfl _ n k hown.row B A m c l hr hroom hbase
  obtain ⟨A2, c2, rfl, h4⟩ := Own.of_row h1
  unfold Oper.wp execOp
  simp only [ho, resolve, invoke, builtin, Sem.run_bind, Sem.run_pure, Result.andThen_ok, List.map_toArray, List.map_cons, List.map_nil, hs, hx, hrun]
  exact h A2 c2 w' h4 ((Below.refl _ _).grown h2 hbase (fun g hg => (hown.row.lt g hg).1))

theorem and15 (a : Int) : ∃ r : Nat, r ≤ 15 ∧ bits .and .i64 a 15 = r := by
  have hlt : (BitVec.ofInt 64 a &&& BitVec.ofInt 64 15).toNat ≤ 15 := by
    rw [BitVec.toNat_and]
    exact Nat.and_le_right
  refine ⟨_, hlt, ?_⟩
  show IntKind.i64.wrap ((BitVec.ofInt 64 a &&& BitVec.ofInt 64 15).toNat : Int) = _
  rw [IntKind.wrap_i64]
  omega

theorem make_full (W : World) (l : Int) (r : Nat) (hl : l = r) (hr : r ≤ 1099511627776) :
    (Instr.makeSlice 22 (.int .i64 l) (.int .i64 l)).run Try.prog W = .ok (.slice (some ⟨W.heap.size, 0, none⟩) r r) (W.alloc (.cells (zb r) 5)) := by
  obtain ⟨i0, hi0, hi1, hi2, hi3⟩ := byte_info
  subst hl
  have h := run_make (P := Try.prog) W 22 5 i0 _ Try.underlying22 hi0 hi1 .i64 .i64 (r : Int) (r : Int) (by omega) (Int.le_refl _) (by rw [hi3]; omega) (by omega)
  rw [h, Int.toNat_natCast, hi2, Nat.mul_one]
  have e : (madeCells (Value.int IntKind.u8 0).cells r) = zb r := by
    apply Array.toList_inj.1
    rw [show (Value.int IntKind.u8 0).cells = #[Value.int IntKind.u8 0] from rfl, toList_madeCells_one]
    simp [zb, by8]
  rw [e]

theorem full_new (w : World) (base : Nat) (hb : base ≤ w.heap.size) (r : Nat) (hc : r ≤ 1000000000) : Own base (w.alloc (.cells (zb r) 5)) (some ⟨w.heap.size, 0, none⟩) r r (List.replicate r 0#8) :=
  ⟨⟨by simp, .inr ⟨w.heap.size, r, zb r, rfl, hb, heap_alloc_new w _, Nat.le_refl _, by unfold maxLen; omega, by simp [zb], by simp [zb]⟩⟩, Nat.le_refl _⟩

theorem full_drew (w : World) (r : Nat) (hc : r ≤ 1000000000) : Own w.heap.size (w.alloc (.cells (zb r) 5)).drew (some ⟨w.heap.size, 0, none⟩) r r (List.replicate r 0#8) :=
  ⟨(full_new w w.heap.size (Nat.le_refl _) r hc).row.drew, Nat.le_refl _⟩

theorem bytes_drew {w : World} {B n : Nat} {a : Option Addr} {l : Bs} (h : Bytes w B a n l) : Bytes w.drew B a n l := h.keep fun _ _ => rfl

theorem size_drew (w : World) (o : Obj) : w.heap.size ≤ (w.alloc o).drew.heap.size := by
  show w.heap.size ≤ (w.alloc o).heap.size
  simp

theorem below_alloc_drew (w : World) (o : Obj) : Below w.heap.size w (w.alloc o).drew := by
  have h := (Below.refl w.heap.size w).alloc (Nat.le_refl _) o
  exact ⟨h.os, h.tape, h.output, h.size, h.block⟩

theorem str_size (l : Bs) : (str l).size = l.length := by
  unfold str
  simp [ByteArray.size]

set_option maxRecDepth 100000 in
set_option maxHeartbeats 2000000 in
theorem walk (a0 : Option Addr) (len0 cap0 : Nat) (z0 : List Int) (a1 : Int) (a2 : Option Addr) (len2 cap2 : Nat) (z2 : List Int) (a3 : Int) (w : World) (w0 : IsRow .u8 w a0 len0 cap0 z0) (w1 : (Lit.int .u8 a1).wf = true) (w2 : IsRow .u8 w a2 len2 cap2 z2) (w3 : (Lit.int .i64 a3).wf = true) :
    Calls Try.prog 3 #[.slice a0 len0 cap0, .int .u8 a1, .slice a2 len2 cap2, .int .i64 a3] w fun e w' => e = .returned (.bool true) ∧ Below w.heap.size w w' := by
  obtain ⟨k, rfl⟩ := u8_wf w1
  obtain ⟨lb, hlb, _⟩ := IsRow.bytes w0
  obtain ⟨la, hla, _⟩ := IsRow.bytes w2
  obtain ⟨hcap0, hmax0⟩ := IsRow.cap w0
  obtain ⟨hcap2, hmax2⟩ := IsRow.cap w2
  have HLb := Lib.hid hlb
  have HLa := Lib.hid hla
  clear hla hlb w0 w1 w2 w3
  by_cases hlen : 100 < len0 ∨ 300 < len2
  · rcases hlen with hlen | hlen
    all_goals
      go_enter Try.func3, Try.ntmps3
      go_wp2_with fail
      refine (head_any w).mono ?_
      rintro e w1 ⟨rfl, hb1⟩
      go_wp2
      all_goals
        go_ret
        exact ⟨rfl, hb1⟩
  · have hle0 : len0 ≤ 100 := by omega
    have hle2 : len2 ≤ 300 := by omega
    have d0 : decide (100 < (len0 : Int)) = false := by simp; omega
    have d2 : decide (300 < (len2 : Int)) = false := by simp; omega
    clear hlen
    go_enter Try.func3, Try.ntmps3
    go_wp2_with fail
    refine (head_any w).mono ?_
    rintro e w1 ⟨rfl, hb1⟩
    have HB1 := Lib.hid hb1
    have HLa1 := Lib.hid ((HLa.out.below hb1).more hb1.size)
    have HLb1 := Lib.hid (HLb.out.below hb1)
    clear hb1 HLa HLb
    cases h7 : (bits BinOp.and IntKind.i64 a3 7 == 7)
    · go_wp2_with fail
      have hz0 : w.heap.size ≤ w1.heap.size := HB1.out.size
      have hx := Box.new w1 k a2 len2 cap2 _ rfl
      have hbx : Below w1.heap.size w1 (w1.alloc (.cells #[.int .u8 k.toNat, .slice a2 len2 cap2] 26)) := (Below.refl _ _).alloc (Nat.le_refl _) _
      have hsx : (w1.alloc (.cells #[.int .u8 k.toNat, .slice a2 len2 cap2] 26)).heap.size = w1.heap.size + 1 := by simp
      generalize w1.alloc (.cells #[.int .u8 k.toNat, .slice a2 len2 cap2] 26) = W at *
      have HX0 := Lib.hid hx
      have HT0 := Lib.hid hbx
      have HS0 := Lib.hid hsx
      have HLbW := Lib.hid ((HLb1.out.below (hbx.mono hz0)).more (show w.heap.size ≤ w1.heap.size + 1 by omega))
      have HLaW := Lib.hid ((HLa1.out.below hbx).more (show w1.heap.size ≤ w1.heap.size + 1 by omega))
      generalize hg : w1.heap.size = g at *
      have HG := Lib.hid hg
      have hsW : g + 1 ≤ W.heap.size := by omega
      clear hx hbx hsx hg
      refine (put_eq a0 len0 cap0 (g + 1) lb k a2 len2 cap2 la (lb ++ fr k la) (len0 + len2 + 5) rfl rfl W HLbW.out HLaW.out hsW (by omega) (by omega)).mono ?_
      rintro e w4 ⟨A4, c4, rfl, hown4, hb4⟩
      obtain ⟨g4, rfl, hg4, hgl4⟩ := hown4.form (by omega)
      have hcap4 := hown4.cap
      have hcap4' := hcap4
      have HO4 := Lib.hid hown4
      have HX4 := Lib.hid (HX0.out.go (hb4.mono hsW))
      have HT4 := Lib.hid (Below.trans HT0.out (hb4.mono (by omega)))
      have HLb4 := Lib.hid (HLbW.out.below (hb4.mono hsW))
      have HLa4 := Lib.hid (HLaW.out.below (hb4.mono hsW))
      have hz4 : g + 1 ≤ w4.heap.size := Nat.le_trans hsW hb4.size
      clear hown4 hb4
      go_wp2_with fail
      have c0 := HX4.out.kind
      have c1 := HX4.out.body
      have kg := conv_str (cap := c4) HO4.out.bytes
      have kb := conv_str (cap := cap0) HLb4.out
      have kgd := conv_str (cap := c4) (HO4.out.bytes.keep (w' := w4.drew) (fun _ _ => rfl))
      have kbd := conv_str (cap := cap0) (HLb4.out.keep (w' := w4.drew) (fun _ _ => rfl))
      have hsz : ¬ (9223372036854775807 < (str lb).size + (str (fr k la)).size) := by rw [str_size, str_size, fr_len, HLb4.out.1, HLa4.out.1]; omega
      have hstr : ((str (lb ++ fr k la)).toList == (str lb ++ str (fr k la)).toList) = true := by rw [str_app]; simp
      have hkc : ∀ W', Below w4.heap.size w4.drew W' → Box g W W' k a2 len2 cap2 := fun W' h => HX4.out.go ((below_back h).mono hz4)
      have HK := Lib.hid hkc
      clear hkc c0 c1 kg kb
      have hw1 : IntKind.i64.wrap ((len0 : Int) + (len2 : Int)) = (len0 : Int) + (len2 : Int) := IntWalk.i64_in _ (by omega)
      have hw2 : IntKind.i64.wrap ((len0 : Int) + (len2 : Int) + 5) = (len0 : Int) + (len2 : Int) + 5 := IntWalk.i64_in _ (by omega)
      go_region_held (fun w' => w'.cell? ⟨g, 0, none⟩ = some (.int .u8 k.toNat) ∧ w'.cell? ⟨g, 1, none⟩ = some (.slice a2 len2 cap2) ∧ (convert 22 9 (.slice (some ⟨g4, 0, none⟩) (len0 + len2 + 5) c4)).run Try.prog w' = .ok (.string (str (lb ++ fr k la))) w' ∧ (convert 22 9 (.slice a0 len0 cap0)).run Try.prog w' = .ok (.string (str lb)) w')
        (first | exact ⟨q50, q51, q52, q53⟩ | exact ⟨q70, q71, q72, q73⟩ | exact ⟨HX4.out.kind, HX4.out.body, kgd, kbd⟩)
        (first
          | (go_at_call 9; refine (right_yes k a2 len2 cap2 _ (by omega)).mono ?_; rintro e w5 ⟨rfl, hb5⟩; have HB5 := Lib.hid hb5; have q50 := (HK.out w5 hb5).kind; have q51 := (HK.out w5 hb5).body; have q52 := conv_str (cap := c4) (HO4.out.bytes.below (below_back hb5)); have q53 := conv_str (cap := cap0) (HLb4.out.below ((below_back hb5).mono hz4)); clear hb5)
          | (go_at_call 10; refine (bytes_any k a2 len2 cap2 (g + 1) la _ (HLa4.out.below ((below_back HB5.out).mono hz4)) (Nat.le_trans hz4 HB5.out.size) (by omega)).mono ?_; rintro e w7 ⟨A7, c7, rfl, hown7, hb7⟩; have hb75 := Below.trans HB5.out (hb7.mono HB5.out.size); have HB7 := Lib.hid hb75; have q70 := (HK.out w7 hb75).kind; have q71 := (HK.out w7 hb75).body; have q72 := conv_str (cap := c4) (HO4.out.bytes.below (below_back hb75)); have q73 := conv_str (cap := cap0) (HLb4.out.below ((below_back hb75).mono hz4)); have q74 := conv_str (cap := c7) hown7.bytes; clear hb7 hb75 hown7))
      rename_i hh
      clear hh hw1 hw2 q50 q51 q52 q53 q70 q71 q72 q73 q74 kgd kbd hsz hstr
      have hb7 : Below w4.heap.size w4 w7 := below_back HB7.out
      have hsuf : Bytes w7 w7.heap.size (some ⟨g4, len0, none⟩) (len2 + 5) (fr k la ++ []) := by
        have h1 := (HO4.out.below hb7).bytes.cut2 (cap := c4) (j := len0) (by omega) hcap4' (by omega)
        rwa [List.drop_left' HLb4.out.1, Nat.zero_add, show len0 + len2 + 5 - len0 = len2 + 5 by omega, ← List.append_nil (fr k la)] at h1
      have HSuf := Lib.hid hsuf
      have HLa7 := Lib.hid (HLa4.out.below (hb7.mono hz4))
      have HT7 := Lib.hid (Below.trans HT4.out (hb7.mono (Nat.le_of_lt hz4)))
      have hne4 : ¬ c4 = len0 := by omega
      have hz7 : g + 1 ≤ w7.heap.size := Nat.le_trans hz4 hb7.size
      clear hsuf hb7
      go_wp2_with fail
      rw [show len0 + len2 + 5 - len0 = len2 + 5 by omega]
      refine (get_yes_any _ (len2 + 5) _ _ k la [] len2 HLa7.out.1 (by omega) w7 HSuf.out (Nat.le_refl _) (by omega) (by omega)).mono ?_
      rintro e w8 ⟨A8, c8, rfl, hby8, hb8⟩
      have HT8 := Lib.hid (Below.trans HT7.out (hb8.mono (Nat.le_of_lt hz7)))
      have HLa8 := Lib.hid (HLa7.out.below (hb8.mono hz7))
      have HY8 := Lib.hid hby8
      have hz8 : g + 1 ≤ w8.heap.size := Nat.le_trans hz7 hb8.size
      clear hby8 hb8
      have hbx : Below w8.heap.size w8 (w8.alloc (.cells #[.int .u8 k.toNat, .slice A8 len2 c8] 26)) := (Below.refl _ _).alloc (Nat.le_refl _) _
      have k1 := conv_str (cap := c8) (HY8.out.below hbx)
      have k2 := conv_str (cap := cap2) (HLa8.out.below (hbx.mono hz8))
      have HB9 := Lib.hid (Below.trans HB1.out ((Below.trans HT8.out (hbx.mono (Nat.le_of_lt hz8))).mono hz0))
      have q0 : ((len2 : Int) + 5 == (len0 : Int) + (len2 : Int) + 5 - (len0 : Int)) = true := by simp; omega
      clear hbx
      go_wp2
      go_ret
      exact ⟨rfl, HB9.out⟩
    · go_wp2_with fail
      obtain ⟨r, hr15, hr⟩ := and15 (a3 / 8)
      obtain ⟨R, hR⟩ : ∃ R : Nat, R = 2040 + r := ⟨_, rfl⟩
      have hwr : IntKind.i64.wrap (2040 + (r : Int)) = (R : Int) := by rw [IntWalk.i64_in _ (by omega)]; omega
      have hR1 : 2040 ≤ R := by omega
      have hR2 : R ≤ 2055 := by omega
      have hmk := fun W => make_full W (R : Int) R rfl (by omega)
      clear hR hr15
      obtain ⟨m, hm0⟩ : ∃ m : Nat, m = min len2 1 := ⟨_, rfl⟩
      have hm : (if 1 < (len2 : Int) then 1 else (len2 : Int)) = (m : Int) := by split <;> omega
      have hm1 : m ≤ 1 := by omega
      have hm2 : m ≤ len2 := by omega
      have hm3 : (m : Int) ≤ (cap2 : Int) := by omega
      have hm4 : m ≤ cap2 := by omega
      clear hm0
      have hzw : w.heap.size ≤ w1.heap.size := HB1.out.size
      have HN1 : Hid (Own w1.heap.size (w1.alloc (.cells (zb R) 5)).drew (some ⟨w1.heap.size, 0, none⟩) R R (List.replicate R 0#8)) := Lib.hid (full_drew w1 R (by omega))
      have HM1 : Hid (Bytes (w1.alloc (.cells (zb R) 5)).drew w1.heap.size a2 m (la.take m)) := Lib.hid (bytes_drew ((HLa1.out.take hm2).below ((Below.refl _ _).alloc (Nat.le_refl _) _)))
      have hsz1 : w1.heap.size ≤ (w1.alloc (.cells (zb R) 5)).drew.heap.size := size_drew w1 _
      refine have key : ∀ A6 c6 w6, Own w1.heap.size w6 A6 (R + m) c6 (List.replicate R 0#8 ++ la.take m) → Below w1.heap.size w1 w6 → (?postKey : Option Addr → Nat → World → Prop) A6 c6 w6 := ?holdsKey; ?restKey
      case restKey =>
        go_region_law (first | ((with_reducible refine step_put (o := ⟨some 37, _, _, _, _, _⟩) rfl (.tmp 31) (.tmp 36) rfl w1.heap.size _ R R _ rfl HN1.out w1.heap.size a2 m cap2 (la.take m) rfl HM1.out (by omega) hsz1 ?_); intro A6 c6 w6 hown hbel) | fail)
        all_goals exact key A6 c6 w6 hown (Below.trans (below_alloc_drew w1 _) hbel)
      intro A6 c6 w6 hown hbel
      have HB6 := Lib.hid (Below.trans HB1.out (hbel.mono hzw))
      have HLb6 := Lib.hid (HLb1.out.below (hbel.mono hzw))
      generalize hL : List.replicate R 0#8 ++ la.take m = L at *
      have HLL := Lib.hid hL
      have HL6 := Lib.hid hown.bytes
      obtain ⟨N, hN⟩ : ∃ N, R + m = N := ⟨_, rfl⟩
      rw [hN] at HL6
      rw [hN]
      have hN2 : N ≤ 2056 := by omega
      clear hown hbel hL hN HN1 HM1 hsz1 hmk hm hwr hr hm1 hm2 hm3 hm4 HLa1 HB1 hR1 hR2
      clear HLb1
      have HLb1 := HLb6
      clear HLb6
      by_cases hN3 : N ≤ 2048
      · go_wp2_with fail
        have hz0 : w.heap.size ≤ w6.heap.size := HB6.out.size
        have hx := Box.new w6 k A6 N c6 _ rfl
        have hbx : Below w6.heap.size w6 (w6.alloc (.cells #[.int .u8 k.toNat, .slice A6 N c6] 26)) := (Below.refl _ _).alloc (Nat.le_refl _) _
        have hsx : (w6.alloc (.cells #[.int .u8 k.toNat, .slice A6 N c6] 26)).heap.size = w6.heap.size + 1 := by simp
        generalize w6.alloc (.cells #[.int .u8 k.toNat, .slice A6 N c6] 26) = W at *
        have HX0 := Lib.hid hx
        have HT0 := Lib.hid hbx
        have HS0 := Lib.hid hsx
        have HLbW := Lib.hid ((HLb1.out.below (hbx.mono hz0)).more (show w.heap.size ≤ w6.heap.size + 1 by omega))
        have HLaW := Lib.hid ((HL6.out.below hbx).more (show w6.heap.size ≤ w6.heap.size + 1 by omega))
        generalize hg : w6.heap.size = g at *
        have HG := Lib.hid hg
        have hsW : g + 1 ≤ W.heap.size := by omega
        clear hx hbx hsx hg
        refine (put_eq a0 len0 cap0 (g + 1) lb k A6 N c6 L (lb ++ fr k L) (len0 + N + 5) rfl rfl W HLbW.out HLaW.out hsW (by omega) (by omega)).mono ?_
        rintro e w4 ⟨A4, c4, rfl, hown4, hb4⟩
        obtain ⟨g4, rfl, hg4, hgl4⟩ := hown4.form (by omega)
        have hcap4 := hown4.cap
        have hcap4' := hcap4
        have HO4 := Lib.hid hown4
        have HX4 := Lib.hid (HX0.out.go (hb4.mono hsW))
        have HT4 := Lib.hid (Below.trans HT0.out (hb4.mono (by omega)))
        have HLb4 := Lib.hid (HLbW.out.below (hb4.mono hsW))
        have HLa4 := Lib.hid (HLaW.out.below (hb4.mono hsW))
        have hz4 : g + 1 ≤ w4.heap.size := Nat.le_trans hsW hb4.size
        clear hown4 hb4
        go_wp2_with fail
        have c0 := HX4.out.kind
        have c1 := HX4.out.body
        have kg := conv_str (cap := c4) HO4.out.bytes
        have kb := conv_str (cap := cap0) HLb4.out
        have kgd := conv_str (cap := c4) (HO4.out.bytes.keep (w' := w4.drew) (fun _ _ => rfl))
        have kbd := conv_str (cap := cap0) (HLb4.out.keep (w' := w4.drew) (fun _ _ => rfl))
        have hsz : ¬ (9223372036854775807 < (str lb).size + (str (fr k L)).size) := by rw [str_size, str_size, fr_len, HLb4.out.1, HLa4.out.1]; omega
        have hstr : ((str (lb ++ fr k L)).toList == (str lb ++ str (fr k L)).toList) = true := by rw [str_app]; simp
        have hkc : ∀ W', Below w4.heap.size w4.drew W' → Box g W W' k A6 N c6 := fun W' h => HX4.out.go ((below_back h).mono hz4)
        have HK := Lib.hid hkc
        clear hkc c0 c1 kg kb
        have hw1 : IntKind.i64.wrap ((len0 : Int) + (N : Int)) = (len0 : Int) + (N : Int) := IntWalk.i64_in _ (by omega)
        have hw2 : IntKind.i64.wrap ((len0 : Int) + (N : Int) + 5) = (len0 : Int) + (N : Int) + 5 := IntWalk.i64_in _ (by omega)
        go_region_held (fun w' => w'.cell? ⟨g, 0, none⟩ = some (.int .u8 k.toNat) ∧ w'.cell? ⟨g, 1, none⟩ = some (.slice A6 N c6) ∧ (convert 22 9 (.slice (some ⟨g4, 0, none⟩) (len0 + N + 5) c4)).run Try.prog w' = .ok (.string (str (lb ++ fr k L))) w' ∧ (convert 22 9 (.slice a0 len0 cap0)).run Try.prog w' = .ok (.string (str lb)) w')
          (first | exact ⟨q50, q51, q52, q53⟩ | exact ⟨q70, q71, q72, q73⟩ | exact ⟨HX4.out.kind, HX4.out.body, kgd, kbd⟩)
          (first
            | (go_at_call 9; refine (right_yes k A6 N c6 _ (by omega)).mono ?_; rintro e w5 ⟨rfl, hb5⟩; have HB5 := Lib.hid hb5; have q50 := (HK.out w5 hb5).kind; have q51 := (HK.out w5 hb5).body; have q52 := conv_str (cap := c4) (HO4.out.bytes.below (below_back hb5)); have q53 := conv_str (cap := cap0) (HLb4.out.below ((below_back hb5).mono hz4)); clear hb5)
            | (go_at_call 10; refine (bytes_any k A6 N c6 (g + 1) L _ (HLa4.out.below ((below_back HB5.out).mono hz4)) (Nat.le_trans hz4 HB5.out.size) (by omega)).mono ?_; rintro e w7 ⟨A7, c7, rfl, hown7, hb7⟩; have hb75 := Below.trans HB5.out (hb7.mono HB5.out.size); have HB7 := Lib.hid hb75; have q70 := (HK.out w7 hb75).kind; have q71 := (HK.out w7 hb75).body; have q72 := conv_str (cap := c4) (HO4.out.bytes.below (below_back hb75)); have q73 := conv_str (cap := cap0) (HLb4.out.below ((below_back hb75).mono hz4)); have q74 := conv_str (cap := c7) hown7.bytes; clear hb7 hb75 hown7))
        rename_i hh
        clear hh hw1 hw2 q50 q51 q52 q53 q70 q71 q72 q73 q74 kgd kbd hsz hstr
        have hb7 : Below w4.heap.size w4 w7 := below_back HB7.out
        have hsuf : Bytes w7 w7.heap.size (some ⟨g4, len0, none⟩) (N + 5) (fr k L ++ []) := by
          have h1 := (HO4.out.below hb7).bytes.cut2 (cap := c4) (j := len0) (by omega) hcap4' (by omega)
          rwa [List.drop_left' HLb4.out.1, Nat.zero_add, show len0 + N + 5 - len0 = N + 5 by omega, ← List.append_nil (fr k L)] at h1
        have HSuf := Lib.hid hsuf
        have HLa7 := Lib.hid (HLa4.out.below (hb7.mono hz4))
        have HT7 := Lib.hid (Below.trans HT4.out (hb7.mono (Nat.le_of_lt hz4)))
        have hne4 : ¬ c4 = len0 := by omega
        have hz7 : g + 1 ≤ w7.heap.size := Nat.le_trans hz4 hb7.size
        clear hsuf hb7
        go_wp2_with fail
        rw [show len0 + N + 5 - len0 = N + 5 by omega]
        refine (get_yes_any _ (N + 5) _ _ k L [] N HLa7.out.1 (by omega) w7 HSuf.out (Nat.le_refl _) (by omega) (by omega)).mono ?_
        rintro e w8 ⟨A8, c8, rfl, hby8, hb8⟩
        have HT8 := Lib.hid (Below.trans HT7.out (hb8.mono (Nat.le_of_lt hz7)))
        have HLa8 := Lib.hid (HLa7.out.below (hb8.mono hz7))
        have HY8 := Lib.hid hby8
        have hz8 : g + 1 ≤ w8.heap.size := Nat.le_trans hz7 hb8.size
        clear hby8 hb8
        have hbx : Below w8.heap.size w8 (w8.alloc (.cells #[.int .u8 k.toNat, .slice A8 N c8] 26)) := (Below.refl _ _).alloc (Nat.le_refl _) _
        have k1 := conv_str (cap := c8) (HY8.out.below hbx)
        have k2 := conv_str (cap := c6) (HLa8.out.below (hbx.mono hz8))
        have HB9 := Lib.hid (Below.trans HB6.out ((Below.trans HT8.out (hbx.mono (Nat.le_of_lt hz8))).mono hz0))
        have q0 : ((N : Int) + 5 == (len0 : Int) + (N : Int) + 5 - (len0 : Int)) = true := by simp; omega
        clear hbx
        go_wp2
        go_ret
        exact ⟨rfl, HB9.out⟩
      · go_wp2_with fail
        have hz0 : w.heap.size ≤ w6.heap.size := HB6.out.size
        have hx := Box.new w6 k A6 N c6 _ rfl
        have hbx : Below w6.heap.size w6 (w6.alloc (.cells #[.int .u8 k.toNat, .slice A6 N c6] 26)) := (Below.refl _ _).alloc (Nat.le_refl _) _
        generalize w6.alloc (.cells #[.int .u8 k.toNat, .slice A6 N c6] 26) = W at *
        have HX0 := Lib.hid hx
        have HT0 := Lib.hid hbx
        have HLbW := Lib.hid (HLb1.out.below (hbx.mono hz0))
        have hzW : w6.heap.size + 1 ≤ W.heap.size := hx.room
        clear hx hbx
        refine (put_no a0 len0 cap0 w.heap.size lb k A6 N c6 W HLbW.out (by omega) (by omega) (by omega)).mono ?_
        rintro e w4 ⟨A4, c4, rfl, hown4, hb4⟩
        have HO4 := Lib.hid hown4
        have HX4 := Lib.hid (HX0.out.go (hb4.mono hzW))
        have HT4 := Lib.hid (Below.trans HT0.out (hb4.mono (by omega)))
        have HLb4 := Lib.hid (HLbW.out.below (hb4.mono (by omega)))
        have hz4 : W.heap.size ≤ w4.heap.size := hb4.size
        have c0 := HX4.out.kind
        have c1 := HX4.out.body
        clear hown4 hb4
        go_wp2_with fail
        refine (right_no k A6 N c6 w4 (by omega)).mono ?_
        rintro e w5 ⟨rfl, hb5⟩
        have k1 := conv_str (cap := c4) (HO4.out.bytes.below hb5)
        have k2 := conv_str (cap := cap0) (HLb4.out.below (hb5.mono (by omega)))
        have HB9 := Lib.hid (Below.trans HB6.out ((Below.trans HT4.out (hb5.mono (by omega))).mono hz0))
        clear hb5 c0 c1
        go_wp2
        go_ret
        exact ⟨rfl, HB9.out⟩

set_option maxRecDepth 100000 in
theorem lifted (os : Os) (started : os.Started) (H : Type) (enc : TypeId × Value → H) :
    ReturnsInHanded {} Try.checked os 3 .any (Rows.framePutsSpec.pre6 enc Try.prog Try.f3 Rows.framePutsRow.domain false) (Rows.framePutsSpec.post enc Try.prog Try.f3 false true false false) := by
  refine returnsInHanded_of_change (C := Try.checked) own started (by kernel_rfl) Try.func3
    (ChangeSpec.witness6 (enc := enc) (C := Try.checked) false ⟨#[], #[.slice none 0 0, .int .u8 0, .slice none 0 0, .int .i64 0], []⟩ 8 (by kernel_rfl) (by kernel_rfl) (by kernel_rfl) (by kernel_rfl)) ?_
  intro W base args ds gs before hval0 hW hcnd _
  have hval : ∀ (j : Nat) t v, Try.f3.params[j]? = some t → args[j]? = some v → Value.okWide Try.prog W .any base t v := hval0
  have hW' := hW
  obtain ⟨p, q, hA0, hV, rfl, hfz, hnd⟩ := hW
  have hA : DataW.TrodAll enc Try.prog W 0 (fun _ => true) true Try.f3.params.toList args.toList ds p := hA0
  rw [Try.params3] at hA hval
  obtain ⟨v0, vs0, d0, ds0, p0, q0, hargs, rfl, rfl, h0, r0⟩ := trodAll_cons hA
  obtain ⟨v1, vs1, d1, ds1, p1, q1, rfl, rfl, rfl, h1, r1⟩ := trodAll_cons r0
  obtain ⟨v2, vs2, d2, ds2, p2, q2, rfl, rfl, rfl, h2, r2⟩ := trodAll_cons r1
  obtain ⟨v3, vs3, d3, ds3, p3, q3, rfl, rfl, rfl, h3, r3⟩ := trodAll_cons r2
  obtain ⟨rfl, rfl, rfl⟩ := trodAll_nil r3
  obtain rfl : args = #[v0, v1, v2, v3] := by cases args; simp_all
  obtain ⟨rfl, rfl⟩ := trodVars_none hV
  obtain ⟨a0, len0, cap0, rfl⟩ := okWide_slice Try.underlying22 (hval 0 22 v0 rfl rfl)
  have k0 := h0
  have lt0 : ∀ x ∈ p0, x.block < W.heap.size := by obtain ⟨m, hm⟩ := k0; exact DataW.trod_lt m _ _ _ hm
  obtain ⟨z0, w0⟩ : ∃ zs, IsRow .u8 W a0 len0 cap0 zs := by
    obtain ⟨fuel, hf⟩ := h0
    rcases open_ints Try.underlying22 Try.underlying5 (by kernel_rfl) hf with ⟨hcs, _⟩ | ⟨x, l, c, zs, hcs, _, hl, hm, hz, _, hcell, hwz⟩
    · simp [Value.cells] at hcs
      obtain ⟨rfl, rfl, rfl⟩ := hcs
      exact ⟨[], .inl ⟨rfl, rfl, rfl, rfl⟩⟩
    · simp [Value.cells] at hcs
      obtain ⟨rfl, rfl, rfl⟩ := hcs
      exact ⟨zs, .inr ⟨_, rfl, hl, hm, by simpa using hz, hcell, hwz⟩⟩
  obtain ⟨a1, rfl, rfl, rfl, w1⟩ := open_int Try.underlying5 (hval 1 5 v1 rfl rfl) h1
  obtain ⟨a2, len2, cap2, rfl⟩ := okWide_slice Try.underlying22 (hval 2 22 v2 rfl rfl)
  have k2 := h2
  have lt2 : ∀ x ∈ p2, x.block < W.heap.size := by obtain ⟨m, hm⟩ := k2; exact DataW.trod_lt m _ _ _ hm
  obtain ⟨z2, w2⟩ : ∃ zs, IsRow .u8 W a2 len2 cap2 zs := by
    obtain ⟨fuel, hf⟩ := h2
    rcases open_ints Try.underlying22 Try.underlying5 (by kernel_rfl) hf with ⟨hcs, _⟩ | ⟨x, l, c, zs, hcs, _, hl, hm, hz, _, hcell, hwz⟩
    · simp [Value.cells] at hcs
      obtain ⟨rfl, rfl, rfl⟩ := hcs
      exact ⟨[], .inl ⟨rfl, rfl, rfl, rfl⟩⟩
    · simp [Value.cells] at hcs
      obtain ⟨rfl, rfl, rfl⟩ := hcs
      exact ⟨zs, .inr ⟨_, rfl, hl, hm, by simpa using hz, hcell, hwz⟩⟩
  obtain ⟨a3, rfl, rfl, rfl, w3⟩ := open_int Try.underlying3 (hval 3 3 v3 rfl rfl) h3
  clear hA0 hval0
  refine (walk a0 len0 cap0 z0 a1 a2 len2 cap2 z2 a3 W w0 w1 w2 w3).mono fun e W' ⟨he, bel⟩ => ?_
  subst he
  exact ⟨_, rfl, _, _, _, [], _, [], hW', trodAll_mk1 (shut_bool Try.underlying4 _), (trodAll_cons_mk (Below.trod laidOut (by kernel_rfl) (of_decide_eq_true (by kernel_rfl)) k0 bel lt0) (trodAll_cons_mk (shut_int Try.underlying5 w1) (trodAll_cons_mk (Below.trod laidOut (by kernel_rfl) (of_decide_eq_true (by kernel_rfl)) k2 bel lt2) (trodAll_cons_mk (shut_int Try.underlying3 w3) trodAll_mk0)))), rfl, bel.frame _, fun h => by cases h⟩

theorem over : Rows.framePutsRow.holds Try.pinned (OpenSpec.ofChange Rows.framePutsSpec) :=
  OpenClaim.holds_of_wide 3 Try.f3 rfl rfl rfl rfl rfl rfl rfl ⟨rfl, rfl, rfl, rfl, rfl⟩ rfl rfl rfl rfl rfl (by kernel_rfl) Try.func3 (by kernel_rfl)
    (of_decide_eq_true (by kernel_rfl)) (by unfold Func.isWrapper; first | (rw [if_pos (by decide +kernel)]; kernel_rfl) | (rw [if_neg (by decide +kernel)]; exact ⟨rfl, rfl⟩))
    (fun os started H enc _ => lifted os started H enc)

end Go.Proofs.Ytdeinmbhnedgkaa.framePuts
namespace Go.Proofs.Ytdeinmbhnedgkaa
theorem framePuts_holds : Rows.FramePutsSaid := framePuts.over
#print axioms framePuts_holds
end Go.Proofs.Ytdeinmbhnedgkaa
