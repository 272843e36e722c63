/- What script's small functions answer: number, putNumber, own, Right. -/
import Derived.Test.YtflfchcncmpnbaaEvm
import Derived.Deep.DeepCutAuto
import Derived.Deep.RegionHeld
import Derived.IntWalk
namespace Go.Proofs.Ytflfchcncmpnbaa
open Go.RowKit
open Sc

theorem take_get (l : Bs) (j : Nat) (h : j < l.length) : l.take (j + 1) = l.take j ++ [l[j]?.getD 0#8] := by
  rw [List.take_add_one, List.getElem?_eq_getElem h]
  rfl

theorem ret_i64 {a b : Int} (h : a = b) : Value.int .i64 a = .int .i64 b := by rw [h]

theorem or_byte (m x : Nat) (hm : m < 256 ^ 5) (hx : x < 256) : bits .or .i64 ((m : Int) * 256) (x : Int) = ((256 * m + x : Nat) : Int) := by
  have hm2 : m < 1099511627776 := hm
  have e : (BitVec.ofInt 64 ((m : Int) * 256) ||| BitVec.ofInt 64 (x : Int)).toNat = 256 * m + x := by
    rw [BitVec.toNat_or, BitVec.toNat_ofInt, BitVec.toNat_ofInt]
    rw [show ((m : Int) * 256 % (2 ^ 64 : Nat)).toNat = m <<< 8 by rw [Nat.shiftLeft_eq]; omega, show ((x : Int) % (2 ^ 64 : Nat)).toNat = x by omega]
    rw [← Nat.shiftLeft_add_eq_or_of_lt (by omega), Nat.shiftLeft_eq]
    omega
  show IntKind.i64.wrap ((BitVec.ofInt 64 ((m : Int) * 256) ||| BitVec.ofInt 64 (x : Int)).toNat : Int) = _
  rw [e, IntKind.wrap_i64]
  omega

theorem number_any (a : Option Addr) (n cap B : Nat) (l : Bs) (w : World) (hl : Bytes w B a n l) (h6 : n ≤ 5) (hcap : n ≤ cap) :
    Calls Try.prog 26 #[.slice a n cap] w fun e w' => e = .returned (.int .i64 (nat l)) ∧ w = w' := by
  have hlen := hl.1
  have HL := Lib.hid hlen
  have HY := Lib.hid hl
  clear hl hlen
  go_enter Try.func26, Try.ntmps26
  go_wp2
  go_loop [3, 8] (fun t i => ∃ j : Nat, j ≤ n ∧ i = .int .i64 j ∧ t = .int .i64 (nat (l.take j))) (fun _ i => n - (intOf i).toNat)
  case atStart => exact ⟨0, by omega, rfl, rfl⟩
  case round =>
    obtain ⟨j, hj, rfl, rfl⟩ := hrel
    by_cases hlt : j < n
    · obtain ⟨b, off, rfl, hbB, hc⟩ := HY.out.2 (by omega)
      have hck := hc j (by omega)
      have hs : nat (l.take (j + 1)) = 256 * nat (l.take j) + (l[j]?.getD 0#8).toNat := by
        rw [take_get l j (by have := HL.out; omega), nat_snoc]
      have hlt2 : nat (l.take j) < 256 ^ 5 := nat_le 5 _ (by simp; omega)
      have HS := Lib.hid hs
      clear hs hc
      generalize nat (l.take j) = m at *
      generalize l[j]?.getD 0#8 = x at *
      have h8 := x.isLt
      go_wp2
      go_round
      case rel => exact ⟨j + 1, by omega, by go_num, ret_i64 (by rw [HS.out, or_byte m _ hlt2 h8])⟩
      case measure => simp [intOf]; omega
    · obtain rfl : j = n := by omega
      go_wp2
      go_ret
      exact ⟨ret_int (by rw [← HL.out, List.take_length]), rfl⟩

theorem one_newv (w : World) (x : BitVec 8) (v : Int) (hv : v = x.toNat) : Bytes (w.alloc (.cells #[.int .u8 v] 5)) (w.heap.size + 1) (some ⟨w.heap.size, 0, none⟩) 1 [x] := by
  subst hv
  exact one_new w x

theorem b8_int (n : Nat) : ((n : Nat) : Int) % 256 = (b8 n).toNat := by
  simp [b8]

/-- an own slice turned into a longer one: of what was there only its block may have turned -/
structure Grew (w w' : World) (A A' : Option Addr) : Prop where
  only : Only (In A) w w'
  place : ∀ p, A' = some p → In A p.block ∨ w.heap.size ≤ p.block

theorem Grew.refl (w : World) (A : Option Addr) : Grew w w A A := ⟨Only.refl _ _, fun p hp => .inl ⟨p, hp, rfl⟩⟩
theorem Grew.trans {w w1 w2 : World} {A A1 A2 : Option Addr} (h : Grew w w1 A A1) (k : Grew w1 w2 A1 A2) : Grew w w2 A A2 := by
  have hin : ∀ b, In A1 b → In A b ∨ w.heap.size ≤ b := by
    rintro b ⟨p, hp, rfl⟩
    exact h.place p hp
  refine ⟨h.only.trans' k.only hin, fun p hp => ?_⟩
  rcases k.place p hp with h' | h'
  · exact hin _ h'
  · exact .inr (Nat.le_trans h.only.size h')
theorem Grew.alloc {w w1 : World} {A A1 : Option Addr} (h : Grew w w1 A A1) (o : Obj) : Grew w (w1.alloc o) A A1 := ⟨h.only.alloc o, h.place⟩
theorem Grew.next {w w1 : World} {A A1 : Option Addr} (h : Grew w w1 A A1) {w2 : World} (hb : Below w1.heap.size w1 w2) : Grew w w2 A A1 := by
  refine ⟨h.only.trans' (only_of_below hb) (fun _ h => h.elim), h.place⟩
theorem Grew.below {w w1 : World} {A A1 : Option Addr} (h : Grew w w1 A A1) {B : Nat} (hB : B ≤ w.heap.size) (hA : ∀ b, In A b → B ≤ b) : Below B w w1 :=
  h.only.below hB fun k hk hi => by have := hA k hi; omega
theorem Own.inlt {base n c : Nat} {w : World} {a : Option Addr} {l : Bs} (h : Own base w a n c l) {b : Nat} (hb : In a b) : base ≤ b ∧ b < w.heap.size := by
  obtain ⟨p, rfl, rfl⟩ := hb
  exact h.row.lt p.block rfl
theorem Own.keep {base n c : Nat} {S : Nat → Prop} {w w' : World} {a : Option Addr} {l : Bs} (h : Own base w a n c l) (hO : Only S w w') (hS : ∀ b, In a b → ¬ S b) : Own base w' a n c l := by
  refine ⟨⟨h.row.1, ?_⟩, h.cap⟩
  rcases h.row.2 with h0 | ⟨g, cap, cur, e, hb, hg, hrest⟩
  · exact .inl h0
  · have hlt : g < w.heap.size := by
      rcases Nat.lt_or_ge g w.heap.size with h' | h'
      · exact h'
      · rw [Array.getElem?_eq_none h'] at hg; cases hg
    injection e with e1 e2 e3
    exact .inr ⟨g, cap, cur, by rw [e1, e3], hb, (hO.block g hlt (hS g ⟨_, e1, rfl⟩)).trans hg, hrest⟩

theorem grew_of {w w' : World} {A A2 : Option Addr} {n m c c2 : Nat} (h2 : w.grownBy w' (Value.slice A n c).ownBlock) (h3 : (Value.slice A2 m c2).ownBlock = (Value.slice A n c).ownBlock ∨ (Value.slice A2 m c2).ownBlock = some w.heap.size) : Grew w w' A A2 := by
  refine ⟨Only.grown h2 (fun k hk _ => ?_), fun p hp => ?_⟩
  · rcases A with _ | p
    · simp [Value.ownBlock] at hk
    · simp [Value.ownBlock] at hk
      exact ⟨p, rfl, hk⟩
  · subst hp
    rcases h3 with h5 | h5
    · left
      rcases A with _ | q
      · simp [Value.ownBlock] at h5
      · simp [Value.ownBlock] at h5
        exact ⟨q, rfl, h5.symm⟩
    · right
      simp [Value.ownBlock] at h5
      omega

/-- an append of bytes onto an own row, in the walk; only the row's block turns -/
theorem wpList_putg {w : World} {ops : Array Oper} {rest : List Oper} {o : Oper} {a : Act} {Q : Exit → Act → World → Prop} (hgd : o.guard = none) (s x : Operand)
    (ho : o.op = .call { callee := .builtin .append, args := #[s, x], argTypes := #[32, 32] })
    (base : Nat) (A1 : Option Addr) (n c1 : Nat) (k : Bs) (hs : a.eval s = .slice A1 n c1) (hown : Own base w A1 n c1 k)
    (B : Nat) (A : Option Addr) (m c : Nat) (l : Bs) (hx : a.eval x = .slice A m c) (hr : Bytes w B A m l)
    (hroom : n + m ≤ 140737488355328) (hbase : base ≤ w.heap.size)
    (h : ∀ A2 c2 w', Own base w' A2 (n + m) c2 (k ++ l) → Grew w w' A1 A2 → wpList Try.prog ops Q rest (a.put o.dst (.slice A2 (n + m) c2)) w') :
    wpList Try.prog ops Q (o :: rest) a w := by
  obtain ⟨i0, hi0, hi1, hi2, hi3⟩ := byte_info
  refine wpList_app hgd s x 32 ho base 5 i0 _ Try.underlying32 hi0 hi1 hi2 hi3 rfl _ n k hs hown.row B A m c l hx hr hroom hbase ?_
  intro v' w' h1 h2 h3
  obtain ⟨A2, c2, rfl, h4⟩ := Own.of_row h1
  exact h A2 c2 w' h4 (grew_of h2 h3)

theorem putn3_any (base : Nat) (A : Option Addr) (n c : Nat) (l : Bs) (v : Nat) (w : World) (h1 : v ≤ 1000000) (hown : Own base w A n c l) (hb : base ≤ w.heap.size) (hn : n ≤ 1000000000) :
    Calls Try.prog 20 #[.slice A n c, .int .i64 v, .int .i64 3] w fun e w' => ∃ A' c', e = .returned (.slice A' (n + 3) c') ∧ Own base w' A' (n + 3) c' (l ++ three v) ∧ Grew w w' A A' := by
  have HO := Lib.hid hown
  clear hown
  obtain ⟨A0, hA0⟩ : ∃ A0, A = A0 := ⟨_, rfl⟩
  have HA0 := Lib.hid hA0
  clear hA0
  go_enter Try.func20, Try.ntmps20
  go_wp2
  go_loopw [0, 9] (fun s i wr => ∃ (j : Nat) (A : Option Addr) (N c : Nat), j ≤ 3 ∧ N = n + j ∧ i = .int .i64 (j : Nat) ∧ s = .slice A N c ∧ Own base wr A N c (l ++ (three v).take j) ∧ Grew w wr A0 A) (fun _ i _ => 3 - (intOf i).toNat)
  case atStart => exact ⟨0, A, n, c, by omega, by omega, rfl, rfl, by simpa using HO.out, by rw [← HA0.out]; exact Grew.refl _ _⟩
  case round =>
    obtain ⟨j, A1, N, c1, hj, hN, rfl, rfl, hown, hbel⟩ := hrel
    have HO1 := Lib.hid hown
    have HB1 := Lib.hid hbel
    have hsz : base ≤ wr.heap.size := Nat.le_trans hb hbel.only.size
    clear hown hbel
    have hN2 : N ≤ 1000000006 := by omega
    have HN := Lib.hid hN
    clear hN
    rcases (show j = 0 ∨ j = 1 ∨ j = 2 ∨ j = 3 by omega) with rfl | rfl | rfl | rfl
    · clear hj
      go_wp2_with (first
        | (at_builtin
           refine wpList_putg rfl (.tmp 12) (.tmp 21) rfl base A1 N c1 (l ++ (three v).take 0) rfl (HO1.out.below ((Below.refl _ _).alloc (Nat.le_refl _) _)) _ (some ⟨wr.heap.size, 0, none⟩) 1 1 [b8 (v / 65536)] rfl (one_newv wr _ _ (by rw [← b8_int]; try (simp; try omega))) (by omega) (by simp; omega) ?_
           intro A2 c2 w2 hown hbel
           have HO2 := Lib.hid hown
           have HB2 := Lib.hid ((HB1.out.alloc _).trans hbel)
           clear hown hbel))
      go_roundw
      case rel => exact ⟨1, A2, N + 1, c2, by omega, by have := HN.out; omega, rfl, rfl, by have h := HO2.out; rw [List.append_assoc] at h; exact h, HB2.out⟩
      case measure => simp [intOf]
    · clear hj
      go_wp2_with (first
        | (at_builtin
           refine wpList_putg rfl (.tmp 12) (.tmp 21) rfl base A1 N c1 (l ++ (three v).take 1) rfl (HO1.out.below ((Below.refl _ _).alloc (Nat.le_refl _) _)) _ (some ⟨wr.heap.size, 0, none⟩) 1 1 [b8 (v / 256)] rfl (one_newv wr _ _ (by rw [← b8_int]; try (simp; try omega))) (by omega) (by simp; omega) ?_
           intro A2 c2 w2 hown hbel
           have HO2 := Lib.hid hown
           have HB2 := Lib.hid ((HB1.out.alloc _).trans hbel)
           clear hown hbel))
      go_roundw
      case rel => exact ⟨2, A2, N + 1, c2, by omega, by have := HN.out; omega, rfl, rfl, by have h := HO2.out; rw [List.append_assoc] at h; exact h, HB2.out⟩
      case measure => simp [intOf]
    · clear hj
      go_wp2_with (first
        | (at_builtin
           refine wpList_putg rfl (.tmp 12) (.tmp 21) rfl base A1 N c1 (l ++ (three v).take 2) rfl (HO1.out.below ((Below.refl _ _).alloc (Nat.le_refl _) _)) _ (some ⟨wr.heap.size, 0, none⟩) 1 1 [b8 v] rfl (one_newv wr _ _ (by rw [← b8_int]; try (simp; try omega))) (by omega) (by simp; omega) ?_
           intro A2 c2 w2 hown hbel
           have HO2 := Lib.hid hown
           have HB2 := Lib.hid ((HB1.out.alloc _).trans hbel)
           clear hown hbel))
      go_roundw
      case rel => exact ⟨3, A2, N + 1, c2, by omega, by have := HN.out; omega, rfl, rfl, by have h := HO2.out; rw [List.append_assoc] at h; exact h, HB2.out⟩
      case measure => simp [intOf]
    · go_wp2
      go_ret
      have hN := HN.out
      subst hN
      exact ⟨A1, c1, rfl, by simpa [three] using HO1.out, by rw [HA0.out]; exact HB1.out⟩

theorem putn2_any (base : Nat) (A : Option Addr) (n c : Nat) (l : Bs) (v : Nat) (w : World) (hown : Own base w A n c l) (hb : base ≤ w.heap.size) (hn : n ≤ 1000000000) :
    Calls Try.prog 20 #[.slice A n c, .int .i64 v, .int .i64 2] w fun e w' => ∃ A' c', e = .returned (.slice A' (n + 2) c') ∧ Own base w' A' (n + 2) c' (l ++ two v) ∧ Grew w w' A A' := by
  have HO := Lib.hid hown
  clear hown
  obtain ⟨A0, hA0⟩ : ∃ A0, A = A0 := ⟨_, rfl⟩
  have HA0 := Lib.hid hA0
  clear hA0
  go_enter Try.func20, Try.ntmps20
  go_wp2
  go_loopw [0, 9] (fun s i wr => ∃ (j : Nat) (A : Option Addr) (N c : Nat), j ≤ 2 ∧ N = n + j ∧ i = .int .i64 (j : Nat) ∧ s = .slice A N c ∧ Own base wr A N c (l ++ (two v).take j) ∧ Grew w wr A0 A) (fun _ i _ => 2 - (intOf i).toNat)
  case atStart => exact ⟨0, A, n, c, by omega, by omega, rfl, rfl, by simpa using HO.out, by rw [← HA0.out]; exact Grew.refl _ _⟩
  case round =>
    obtain ⟨j, A1, N, c1, hj, hN, rfl, rfl, hown, hbel⟩ := hrel
    have HO1 := Lib.hid hown
    have HB1 := Lib.hid hbel
    have hsz : base ≤ wr.heap.size := Nat.le_trans hb hbel.only.size
    clear hown hbel
    have hN2 : N ≤ 1000000006 := by omega
    have HN := Lib.hid hN
    clear hN
    rcases (show j = 0 ∨ j = 1 ∨ j = 2 by omega) with rfl | rfl | rfl
    · clear hj
      go_wp2_with (first
        | (at_builtin
           refine wpList_putg rfl (.tmp 12) (.tmp 21) rfl base A1 N c1 (l ++ (two v).take 0) rfl (HO1.out.below ((Below.refl _ _).alloc (Nat.le_refl _) _)) _ (some ⟨wr.heap.size, 0, none⟩) 1 1 [b8 (v / 256)] rfl (one_newv wr _ _ (by rw [← b8_int]; try (simp; try omega))) (by omega) (by simp; omega) ?_
           intro A2 c2 w2 hown hbel
           have HO2 := Lib.hid hown
           have HB2 := Lib.hid ((HB1.out.alloc _).trans hbel)
           clear hown hbel))
      go_roundw
      case rel => exact ⟨1, A2, N + 1, c2, by omega, by have := HN.out; omega, rfl, rfl, by have h := HO2.out; rw [List.append_assoc] at h; exact h, HB2.out⟩
      case measure => simp [intOf]
    · clear hj
      go_wp2_with (first
        | (at_builtin
           refine wpList_putg rfl (.tmp 12) (.tmp 21) rfl base A1 N c1 (l ++ (two v).take 1) rfl (HO1.out.below ((Below.refl _ _).alloc (Nat.le_refl _) _)) _ (some ⟨wr.heap.size, 0, none⟩) 1 1 [b8 v] rfl (one_newv wr _ _ (by rw [← b8_int]; try (simp; try omega))) (by omega) (by simp; omega) ?_
           intro A2 c2 w2 hown hbel
           have HO2 := Lib.hid hown
           have HB2 := Lib.hid ((HB1.out.alloc _).trans hbel)
           clear hown hbel))
      go_roundw
      case rel => exact ⟨2, A2, N + 1, c2, by omega, by have := HN.out; omega, rfl, rfl, by have h := HO2.out; rw [List.append_assoc] at h; exact h, HB2.out⟩
      case measure => simp [intOf]
    · go_wp2
      go_ret
      have hN := HN.out
      subst hN
      exact ⟨A1, c1, rfl, by simpa [two] using HO1.out, by rw [HA0.out]; exact HB1.out⟩

theorem three_allocs (w : World) (o1 o3 : Obj) (vs : Array Value) (t : TypeId) : Bx (w.heap.size + 1) (((w.alloc o1).alloc (.cells vs t)).alloc o3) vs ∧ Below w.heap.size w (((w.alloc o1).alloc (.cells vs t)).alloc o3) :=
  ⟨(Bx.new (w.alloc o1) (w.heap.size + 1) (by simp) vs t).go ((Below.refl _ _).alloc (Nat.le_refl _) _) (by simp), (((Below.refl _ _).alloc (Nat.le_refl _) _).alloc (by simp) _).alloc (by simp; omega) _⟩

theorem drew_pair {g B : Nat} {w W : World} {vs : Array Value} (h : Bx g W vs ∧ Below B w W) : Bx g W.drew vs ∧ Below B w W.drew := ⟨⟨h.1.head⟩, below_drew h.2⟩

theorem Bx.ev {g : Nat} {w : World} {a b c d : Value} (h : Bx g w #[a, b, c, d]) : w.cell? ⟨g, 0, none⟩ = some a ∧ w.cell? ⟨g, 1, none⟩ = some b ∧ w.cell? ⟨g, 2, none⟩ = some c ∧ w.cell? ⟨g, 3, none⟩ = some d :=
  ⟨h.cell 0 _ rfl, h.cell 1 _ rfl, h.cell 2 _ rfl, h.cell 3 _ rfl⟩

/-- an event with the parts alone that its kind has -/
theorem own_any (e : Ev) (h0 : 0 ≤ e.k) (h7 : e.k ≤ 7) (w : World) :
    Calls Try.prog 17 #[evv e] w fun r w' => r = .returned (evv (ownE e)) ∧ Below w.heap.size w w' := by
  obtain ⟨k, i, n, t⟩ := e
  simp only at h0 h7
  unfold evv
  simp only
  rcases (show k = 0 ∨ k = 1 ∨ k = 2 ∨ k = 3 ∨ k = 4 ∨ k = 5 ∨ k = 6 ∨ k = 7 by omega) with rfl | rfl | rfl | rfl | rfl | rfl | rfl | rfl
  · clear h0 h7
    have H3 := Lib.hid (three_allocs w (.cells #[.int .i64 0, .int .i64 i, .int .i64 n, .string (str t)] 30) (.cells #[.int .i64 0, .int .i64 i, .int .i64 0, .string (⟨#[]⟩)] 30) #[.int .i64 0, .int .i64 i, .int .i64 0, .string (⟨#[]⟩)] 30)
    go_enter Try.func17, Try.ntmps17
    go_wp2
    have hx := H3.out
    clear H3
    generalize ((World.alloc _ _).alloc _).alloc _ = W at hx ⊢
    obtain ⟨c0, c1, c2, c3⟩ := hx.1.ev
    exact bodyPost_ret (by simp [results, go_sem, c0, c1, c2, c3]; exact ⟨rfl, rfl, rfl, rfl⟩) rfl ⟨rfl, hx.2⟩
  · clear h0 h7
    have H3 := Lib.hid (three_allocs w (.cells #[.int .i64 1, .int .i64 i, .int .i64 n, .string (str t)] 30) (.cells #[.int .i64 1, .int .i64 i, .int .i64 0, .string (str t)] 30) #[.int .i64 1, .int .i64 i, .int .i64 0, .string (str t)] 30)
    go_enter Try.func17, Try.ntmps17
    go_wp2
    go_region
    all_goals go_wp2
    have hx := H3.out
    clear H3
    have hx := drew_pair hx
    generalize World.drew _ = W at hx ⊢
    obtain ⟨c0, c1, c2, c3⟩ := hx.1.ev
    exact bodyPost_ret (by simp [results, go_sem, c0, c1, c2, c3]; exact ⟨rfl, rfl, rfl, rfl⟩) rfl ⟨rfl, hx.2⟩
  · clear h0 h7
    have H3 := Lib.hid (three_allocs w (.cells #[.int .i64 2, .int .i64 i, .int .i64 n, .string (str t)] 30) (.cells #[.int .i64 2, .int .i64 i, .int .i64 n, .string (⟨#[]⟩)] 30) #[.int .i64 2, .int .i64 i, .int .i64 n, .string (⟨#[]⟩)] 30)
    go_enter Try.func17, Try.ntmps17
    go_wp2
    go_region
    all_goals go_wp2
    have hx := H3.out
    clear H3
    have hx := drew_pair hx
    generalize World.drew _ = W at hx ⊢
    obtain ⟨c0, c1, c2, c3⟩ := hx.1.ev
    exact bodyPost_ret (by simp [results, go_sem, c0, c1, c2, c3]; exact ⟨rfl, rfl, rfl, rfl⟩) rfl ⟨rfl, hx.2⟩
  · clear h0 h7
    have H3 := Lib.hid (three_allocs w (.cells #[.int .i64 3, .int .i64 i, .int .i64 n, .string (str t)] 30) (.cells #[.int .i64 3, .int .i64 0, .int .i64 0, .string (str t)] 30) #[.int .i64 3, .int .i64 0, .int .i64 0, .string (str t)] 30)
    go_enter Try.func17, Try.ntmps17
    go_wp2
    have hx := H3.out
    clear H3
    generalize ((World.alloc _ _).alloc _).alloc _ = W at hx ⊢
    obtain ⟨c0, c1, c2, c3⟩ := hx.1.ev
    exact bodyPost_ret (by simp [results, go_sem, c0, c1, c2, c3]; exact ⟨rfl, rfl, rfl, rfl⟩) rfl ⟨rfl, hx.2⟩
  · clear h0 h7
    have H3 := Lib.hid (three_allocs w (.cells #[.int .i64 4, .int .i64 i, .int .i64 n, .string (str t)] 30) (.cells #[.int .i64 4, .int .i64 0, .int .i64 n, .string (⟨#[]⟩)] 30) #[.int .i64 4, .int .i64 0, .int .i64 n, .string (⟨#[]⟩)] 30)
    go_enter Try.func17, Try.ntmps17
    go_wp2
    have hx := H3.out
    clear H3
    generalize ((World.alloc _ _).alloc _).alloc _ = W at hx ⊢
    obtain ⟨c0, c1, c2, c3⟩ := hx.1.ev
    exact bodyPost_ret (by simp [results, go_sem, c0, c1, c2, c3]; exact ⟨rfl, rfl, rfl, rfl⟩) rfl ⟨rfl, hx.2⟩
  · clear h0 h7
    have H3 := Lib.hid (three_allocs w (.cells #[.int .i64 5, .int .i64 i, .int .i64 n, .string (str t)] 30) (.cells #[.int .i64 5, .int .i64 0, .int .i64 0, .string (⟨#[]⟩)] 30) #[.int .i64 5, .int .i64 0, .int .i64 0, .string (⟨#[]⟩)] 30)
    go_enter Try.func17, Try.ntmps17
    go_wp2
    have hx := H3.out
    clear H3
    generalize ((World.alloc _ _).alloc _).alloc _ = W at hx ⊢
    obtain ⟨c0, c1, c2, c3⟩ := hx.1.ev
    exact bodyPost_ret (by simp [results, go_sem, c0, c1, c2, c3]; exact ⟨rfl, rfl, rfl, rfl⟩) rfl ⟨rfl, hx.2⟩
  · clear h0 h7
    have H3 := Lib.hid (three_allocs w (.cells #[.int .i64 6, .int .i64 i, .int .i64 n, .string (str t)] 30) (.cells #[.int .i64 6, .int .i64 i, .int .i64 0, .string (⟨#[]⟩)] 30) #[.int .i64 6, .int .i64 i, .int .i64 0, .string (⟨#[]⟩)] 30)
    go_enter Try.func17, Try.ntmps17
    go_wp2
    have hx := H3.out
    clear H3
    generalize ((World.alloc _ _).alloc _).alloc _ = W at hx ⊢
    obtain ⟨c0, c1, c2, c3⟩ := hx.1.ev
    exact bodyPost_ret (by simp [results, go_sem, c0, c1, c2, c3]; exact ⟨rfl, rfl, rfl, rfl⟩) rfl ⟨rfl, hx.2⟩
  · clear h0 h7
    have H3 := Lib.hid (three_allocs w (.cells #[.int .i64 7, .int .i64 i, .int .i64 n, .string (str t)] 30) (.cells #[.int .i64 7, .int .i64 0, .int .i64 n, .string (⟨#[]⟩)] 30) #[.int .i64 7, .int .i64 0, .int .i64 n, .string (⟨#[]⟩)] 30)
    go_enter Try.func17, Try.ntmps17
    go_wp2
    have hx := H3.out
    clear H3
    generalize ((World.alloc _ _).alloc _).alloc _ = W at hx ⊢
    obtain ⟨c0, c1, c2, c3⟩ := hx.1.ev
    exact bodyPost_ret (by simp [results, go_sem, c0, c1, c2, c3]; exact ⟨rfl, rfl, rfl, rfl⟩) rfl ⟨rfl, hx.2⟩

end Go.Proofs.Ytflfchcncmpnbaa
