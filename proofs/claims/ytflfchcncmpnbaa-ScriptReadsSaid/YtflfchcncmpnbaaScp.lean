/- What script's put, parts answer. -/
import Derived.Test.YtflfchcncmpnbaaScw
import Derived.Lib.AppendStr
namespace Go.Proofs.Ytflfchcncmpnbaa
open Go.RowKit
open Sc

theorem strCells_str (t : Bs) : Lib.strCells (str t) = t.map by8 := by
  unfold Lib.strCells str
  simp [by8]

/-- an append of a string's bytes onto an own row, in the walk -/
theorem wpList_puts {w : World} {ops : Array Oper} {rest : List Oper} {o : Oper} {a : Act} {Q : Exit → Act → World → Prop} (hgd : o.guard = none) (s x : Operand)
    (ho : o.op = .call { callee := .builtin .append, args := #[s, x], argTypes := #[32, 9] })
    (base : Nat) (A1 : Option Addr) (n c1 : Nat) (k : Bs) (hs : a.eval s = .slice A1 n c1) (hown : Own base w A1 n c1 k)
    (l : Bs) (hx : a.eval x = .string (str l)) (hroom : n + l.length ≤ 1000000000) (hbase : base ≤ w.heap.size)
    (h : ∀ A2 c2 w', Own base w' A2 (n + l.length) c2 (k ++ l) → Below base w w' → wpList Try.prog ops Q rest (a.put o.dst (.slice A2 (n + l.length) c2)) w') :
    wpList Try.prog ops Q (o :: rest) a w := by
  obtain ⟨i0, hi0, hi1, hi2, hi3⟩ := byte_info
  have hsz := str_size l
  refine Lib.wpList_append_own_string w hgd s x 32 9 ho base 5 i0 Try.underlying32 Try.underlying9 hi0 hi1 hi2 hi3 _ n (k.map by8) hs hown.row (str l) hx (by unfold maxLen; omega) (by omega) hbase ?_
  intro v' w' h1 h2 h3
  rw [hsz, strCells_str, ← List.map_append] at h1
  obtain ⟨A2, c2, rfl, h4⟩ := Own.of_row h1
  exact h A2 c2 w' h4 ((Below.refl _ _).grown h2 hbase (fun g hg => (hown.row.lt g hg).1))

theorem two_newv (w : World) (x y : BitVec 8) (v0 v1 : Int) (h0 : v0 = x.toNat) (h1 : v1 = y.toNat) :
    Bytes (w.alloc (.cells #[.int .u8 v0, .int .u8 v1] 5)) (w.heap.size + 1) (some ⟨w.heap.size, 0, none⟩) 2 [x, y] := two_new w x y v0 v1 h0 h1

theorem b8_i (n : Int) (h : 0 ≤ n) : n % 256 = (b8 n.toNat).toNat := by
  obtain ⟨m, rfl⟩ := Int.eq_ofNat_of_zero_le h
  exact b8_int m

theorem b8_small (n : Int) (h : 0 ≤ n) (h2 : n ≤ 255) : n = (b8 n.toNat).toNat := by
  rw [← b8_i n h]
  omega

theorem put_any (base : Nat) (A : Option Addr) (n c : Nat) (l : Bs) (e : Ev) (w : World) (hr : rtE e = true) (hown : Own base w A n c l) (hb : base ≤ w.heap.size) (hn : n ≤ 900000000) :
    Calls Try.prog 21 #[.slice A n c, evv e] w fun r w' => ∃ A' c', r = .returned (.slice A' (n + (7 + e.t.length)) c') ∧ Own base w' A' (n + (7 + e.t.length)) c' (l ++ evb e) ∧ Below base w w' := by
  obtain ⟨h1, h2, h3, h4, h5, h6, h7⟩ := rtE_in hr
  have hE : evb e = [b8 e.k.toNat, b8 e.i.toNat] ++ three e.n.toNat ++ two e.t.length ++ e.t := rfl
  have HE := Lib.hid hE
  have HS := Lib.hid (str_size e.t)
  clear hr hE
  generalize evb e = EB at *
  unfold evv
  obtain ⟨k, i, N, t⟩ := e
  simp only at h1 h2 h3 h4 h5 h6 h7 HE HS ⊢
  obtain ⟨N, rfl⟩ := Int.eq_ofNat_of_zero_le h5
  rw [Int.toNat_natCast] at HE
  have hX := Bx.new w w.heap.size rfl #[.int .i64 k, .int .i64 i, .int .i64 N, .string (str t)] 30
  have hB : Below w.heap.size w (w.alloc (.cells #[.int .i64 k, .int .i64 i, .int .i64 N, .string (str t)] 30)) := (Below.refl w.heap.size w).alloc (Nat.le_refl _) _
  have HO := Lib.hid (hown.below hB)
  have HB := Lib.hid (hB.mono hb)
  have HX := Lib.hid hX
  have hsz := hB.size
  have hlt : ∀ b, In A b → b < w.heap.size := fun b hb => (hown.inlt hb).2
  clear hX hB hown
  go_enter Try.func21, Try.ntmps21
  go_upto_region 1 with fail
  generalize w.alloc _ = w1 at *
  have HL := Lib.hid hlt
  clear hlt
  obtain ⟨g, hg⟩ : ∃ g, w.heap.size = g := ⟨_, rfl⟩
  rw [hg] at HX hb hsz HL
  have HGe := Lib.hid hg
  simp only [hg]
  clear hg
  obtain ⟨c0, c1, c2, c3⟩ := HX.out.ev
  have hbw : base ≤ w1.heap.size := by omega
  have HQ : Hid (∀ b, In A b → base ≤ b) := Lib.hid fun b h => (HO.out.inlt h).1
  go_upto_region 2 with (first
    | (at_builtin
       refine wpList_putg rfl (.tmp 5) (.tmp 12) rfl base A n c l rfl (HO.out.below ((Below.refl _ _).alloc (Nat.le_refl _) _)) _ (some ⟨w1.heap.size, 0, none⟩) 2 2 [b8 k.toNat, b8 i.toNat] rfl (two_newv w1 _ _ _ _ (b8_small _ (by omega) (by omega)) (b8_small _ (by omega) (by omega))) (by omega) (by simp; omega) ?_
       intro A2 cp2 w2 hown hbel
       have HO2 := Lib.hid hown
       have HG2 := Lib.hid (((Grew.refl w1 A).alloc _).trans hbel)
       clear hown hbel)
    | fail)
  have HN : ∀ w2 A2, Grew w1 w2 A A2 → ∀ b, In A2 b → ¬ b = g := by
    rintro w2 A2 h b ⟨p, hp, rfl⟩ e
    rcases h.place p hp with h' | h'
    · have := HL.out _ h'; omega
    · have := HX.out.room; omega
  have HNe := Lib.hid HN
  have HT2 := HG2
  have HX2 := Lib.hid (HX.out.keep HG2.out.only (fun h => by have := HL.out _ h; omega))
  have hw2 : base ≤ w2.heap.size := Nat.le_trans hbw HG2.out.only.size
  clear c0 c1 c2 c3 HO HX HN
  obtain ⟨c0, c1, c2, c3⟩ := HX2.out.ev
  go_wp2_with fail
  refine (putn3_any base A2 (n + 2) cp2 (l ++ [b8 k.toNat, b8 i.toNat]) N w2 (by omega) HO2.out hw2 (by omega)).mono ?_
  rintro e w3 ⟨A3, cp3, rfl, hown, hg3⟩
  have HO3 := Lib.hid hown
  have HX3 := Lib.hid (HX2.out.keep hg3.only (fun h => HNe.out _ _ HT2.out _ h rfl))
  have HT3 := Lib.hid (HT2.out.trans hg3)
  have hw3 : base ≤ w3.heap.size := Nat.le_trans hw2 hg3.only.size
  clear c0 c1 c2 c3 hown hg3 HX2 HO2
  obtain ⟨c0, c1, c2, c3⟩ := HX3.out.ev
  have hts : (str t).size ≤ 4000 := by have := HS.out; omega
  go_wp2_with fail
  refine (putn2_any base A3 (n + 2 + 3) cp3 _ (str t).size w3 HO3.out hw3 (by omega)).mono ?_
  rintro e w4 ⟨A4, cp4, rfl, hown, hg4⟩
  have HO4 := Lib.hid hown
  have HX4 := Lib.hid (HX3.out.keep hg4.only (fun h => HNe.out _ _ HT3.out _ h rfl))
  have HT4 := Lib.hid (HT3.out.trans hg4)
  have hw4 : base ≤ w4.heap.size := Nat.le_trans hw3 hg4.only.size
  clear c0 c1 c2 c3 hown hg4 HX3 HO3
  obtain ⟨c0, c1, c2, c3⟩ := HX4.out.ev
  go_wp2_with (first
    | (at_builtin
       refine wpList_puts rfl (.tmp 23) (.tmp 25) rfl base A4 (n + 2 + 3 + 2) cp4 _ rfl HO4.out t rfl (by omega) hw4 ?_
       intro A5 cp5 w5 hown hbel
       have HO5 := Lib.hid hown
       have HB5 := Lib.hid (Below.trans HB.out (Below.trans (HT4.out.below hbw HQ.out) hbel))
       clear hown hbel)
    | fail)
  go_ret
  refine ⟨A5, cp5, ?_, ?_, HB5.out⟩
  · exact slice_ret rfl (by omega) rfl
  · have h := HO5.out
    rw [HS.out] at h
    rw [HE.out, show n + (7 + t.length) = n + 2 + 3 + 2 + t.length by omega]
    simpa using h

end Go.Proofs.Ytflfchcncmpnbaa
