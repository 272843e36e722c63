/- What the message's Put and Size answer; the head of layer 6's laws. -/
import Derived.Test.YtbnpamhmippdbaaMsgo
namespace Go.Proofs.Ytbnpamhmippdbaa
open Go.RowKit
open Fr Ms

theorem mput_no (a : Option Addr) (n cap B : Nat) (l : Bs) (k x y : Int) (t : Bs) (w : World) (hr : rt k x y t.length = false) (hl : Bytes w B a n l) (hB : B ≤ w.heap.size) (hn : n ≤ 1000000) :
    Calls Try.prog 11 #[.slice a n cap, .agg #[.int .i64 k, .int .i64 x, .int .i64 y, .string (str t)]] w fun e w' => ∃ A c, e = .returned (.slice A n c) ∧ Own w.heap.size w' A n c l ∧ Below w.heap.size w w' := by
  have HR := Lib.hid hr
  have HL := Lib.hid hl
  clear hr hl
  go_enter Try.func11, Try.ntmps11
  go_wp2_with fail
  refine (frame_no k x y t _ HR.out).mono ?_
  rintro e w1 ⟨rfl, hb⟩
  have hb1 := Below.trans ((Below.refl _ _).alloc (Nat.le_refl w.heap.size) _) (hb.mono (by simp))
  have hb2 := hb1.alloc hb1.size (.cells #[.int .u8 0, .slice none 0 0] 31)
  have HB2 := Lib.hid hb2
  have HL2 := Lib.hid (HL.out.below (hb2.mono hB))
  clear hb hb1 hb2
  go_wp2_with fail
  generalize w1.alloc (.cells #[.int .u8 0, .slice none 0 0] 31) = w2 at *
  refine (clone_any a n cap B l _ HL2.out (Nat.le_trans hB HB2.out.size) (by omega)).mono ?_
  rintro e w3 ⟨A, c, rfl, hown, hb3⟩
  have HO := Lib.hid (hown.mono HB2.out.size)
  have HB3 := Lib.hid (Below.trans HB2.out (hb3.mono HB2.out.size))
  clear hown hb3
  go_wp2
  go_ret
  exact ⟨_, _, rfl, HO.out, HB3.out⟩

theorem mput_yes (a : Option Addr) (n cap B : Nat) (l : Bs) (k x y : Int) (t : Bs) (N : Nat) (L : Bs) (hN : n + (6 * nu k + t.length) + 5 = N) (hL : l ++ fr (BitVec.ofInt 8 k) (body k x y t) = L) (w : World) (hr : rt k x y t.length = true) (hl : Bytes w B a n l) (hB : B ≤ w.heap.size) (hn : n ≤ 1000000) :
    Calls Try.prog 11 #[.slice a n cap, .agg #[.int .i64 k, .int .i64 x, .int .i64 y, .string (str t)]] w fun e w' => ∃ A c, e = .returned (.slice A N c) ∧ Own w.heap.size w' A N c L ∧ Below w.heap.size w w' := by
  have HR := Lib.hid hr
  have HL := Lib.hid hl
  have HN := Lib.hid hN
  have HLL := Lib.hid hL
  have hm : 6 * nu k + t.length ≤ 2048 := by have h := body_le hr; rwa [body_len] at h
  clear hr hl hN hL
  go_enter Try.func11, Try.ntmps11
  go_wp2_with fail
  refine (frame_yes k x y t _ HR.out).mono ?_
  rintro e w1 ⟨A1, c1, rfl, hown, hb⟩
  have hb1 := Below.trans ((Below.refl _ _).alloc (Nat.le_refl w.heap.size) _) (hb.mono (by simp))
  generalize hmm : 6 * nu k + t.length = m at *
  generalize hK : BitVec.ofInt 8 k = K at *
  have hb2 := hb1.alloc hb1.size (.cells #[.int .u8 K.toNat, .slice A1 m c1] 31)
  have hal : Below w1.heap.size w1 (w1.alloc (.cells #[.int .u8 K.toNat, .slice A1 m c1] 31)) := (Below.refl _ _).alloc (Nat.le_refl _) _
  have HB2 := Lib.hid hb2
  have HL2 := Lib.hid (HL.out.below (hb2.mono hB))
  have HBD := Lib.hid (hown.bytes.below hal)
  have hsz : w.heap.size ≤ w1.heap.size := hb1.size
  have HK := Lib.hid hK
  have HM := Lib.hid hmm
  clear hb hb1 hb2 hown hal hK hmm
  go_wp2_with fail
  have hx := Bx.new w1 _ rfl #[.int .u8 K.toNat, .slice A1 m c1] 31
  have hs2 : (w1.alloc (.cells #[.int .u8 K.toNat, .slice A1 m c1] 31)).heap.size = w1.heap.size + 1 := by simp
  generalize w1.alloc (.cells #[.int .u8 K.toNat, .slice A1 m c1] 31) = w2 at *
  refine (put_eq a n cap w1.heap.size l K A1 m c1 (body k x y t) L N (by have := HN.out; omega) HLL.out w2 (HL2.out.more (by omega)) HBD.out (by omega) hn hm).mono ?_
  rintro e w3 ⟨A, c, rfl, hown, hb3⟩
  have HO := Lib.hid (hown.mono HB2.out.size)
  have HB3 := Lib.hid (Below.trans HB2.out (hb3.mono HB2.out.size))
  clear hown hb3 hx hs2
  go_wp2
  go_ret
  exact ⟨_, _, rfl, HO.out, HB3.out⟩

theorem size_yes (k x y : Int) (t : Bs) (N : Nat) (hN : 6 * nu k + t.length + 5 = N) (w : World) (hr : rt k x y t.length = true) :
    Calls Try.prog 15 #[.agg #[.int .i64 k, .int .i64 x, .int .i64 y, .string (str t)]] w fun e w' => e = .returned (.int .i64 N) ∧ Below w.heap.size w w' := by
  have HR := Lib.hid hr
  have hK := (rt_iff.1 hr).1
  have HK := Lib.hid hK
  have hm : 6 * nu k + t.length ≤ 2048 := by have h := body_le hr; rwa [body_len] at h
  clear hr hK
  go_enter Try.func15, Try.ntmps15
  go_wp2_with fail
  have hx := Bx.new w _ rfl #[.int .i64 k, .int .i64 x, .int .i64 y, .string (str t)] 24
  have hb : Below w.heap.size w (w.alloc (.cells #[.int .i64 k, .int .i64 x, .int .i64 y, .string (str t)] 24)) := (Below.refl _ _).alloc (Nat.le_refl _) _
  generalize w.alloc (.cells #[.int .i64 k, .int .i64 x, .int .i64 y, .string (str t)] 24) = W at *
  generalize hg : w.heap.size = g at *
  have HG := Lib.hid hg
  have hz0 : g + 1 ≤ W.heap.size := hx.room
  clear hg
  refine (mright_any k x y (str t) _).mono ?_
  rintro e w1 ⟨rfl, hb1⟩
  rw [str_size, HR.out]
  have hx1 := hx.go hb1 hz0
  have hbb := Below.trans hb (hb1.mono (by omega))
  have hz1 : g + 1 ≤ w1.heap.size := hx1.room
  have hc0 : w1.cell? ⟨g, 0, none⟩ = some (.int .i64 k) := hx1.cell 0 _ rfl
  have HX1 := Lib.hid hx1
  have HB1 := Lib.hid hbb
  clear hx hb hb1 hx1 hbb
  go_wp2_with fail
  refine (layout_any k _).mono ?_
  rintro e w2 ⟨rfl, hb2⟩
  rw [HK.out]
  have hb3 : Below w2.heap.size w2 (w2.alloc (.cells #[.int .i64 (nu k), .int .i64 (tx k)] 46)) := (Below.refl _ _).alloc (Nat.le_refl _) _
  have hb23 := Below.trans hb2 (hb3.mono hb2.size)
  have hz2 : g + 1 ≤ w2.heap.size := Nat.le_trans hz1 hb2.size
  have HL := Lib.hid (Bx.new w2 _ rfl #[.int .i64 (nu k), .int .i64 (tx k)] 46)
  have HX2 := Lib.hid (HX1.out.go hb23 hz1)
  have HB2 := Lib.hid (Below.trans HB1.out (hb23.mono (by omega)))
  clear hb2 hb3 hb23 HX1 HB1 hc0 hz1
  go_wp2_with fail
  generalize w2.alloc (.cells #[.int .i64 (nu k), .int .i64 (tx k)] 46) = w3 at *
  generalize w2.heap.size = gl at *
  have hz3 : gl + 1 ≤ w3.heap.size := HL.out.room
  have hn2 : nu k ≤ 2 := nu_le k
  obtain ⟨R, hR⟩ : ∃ R : Nat, R = 6 * nu k := ⟨_, rfl⟩
  have HRR := Lib.hid hR
  rw [← hR] at hN hm
  have hsl := str_size t
  obtain ⟨T, hT⟩ : ∃ T : Nat, T = t.length := ⟨_, rfl⟩
  rw [← hT] at hsl hN hm
  have HN := Lib.hid hN
  clear hR hT hN
  have C0 : Hid (w3.cell? ⟨gl, 0, none⟩ = some (.int .i64 (nu k))) := Lib.hid (HL.out.cell 0 _ rfl)
  have C1 : Hid (w3.cell? ⟨gl, 1, none⟩ = some (.int .i64 (tx k))) := Lib.hid (HL.out.cell 1 _ rfl)
  have C2 : Hid (w3.cell? ⟨g, 3, none⟩ = some (.string (str t))) := Lib.hid (HX2.out.cell 3 _ rfl)
  have hw1 : IntKind.i64.wrap (5 + (R : Int)) = 5 + (R : Int) := IntWalk.i64_in _ (by omega)
  have hw2 : IntKind.i64.wrap (5 + (R : Int) + (T : Int)) = 5 + (R : Int) + (T : Int) := IntWalk.i64_in _ (by omega)
  go_region_held3 (fun w' => w'.cell? ⟨gl, 0, none⟩ = some (.int .i64 (nu k)) ∧ w'.cell? ⟨gl, 1, none⟩ = some (.int .i64 (tx k)) ∧ w'.cell? ⟨g, 3, none⟩ = some (.string (str t)))
    (first | exact ⟨q50, q51, q52⟩ | exact ⟨C0.out, C1.out, C2.out⟩)
    (first
      | (go_at_call 17; refine (lhead_any (nu k) (tx k) R _ hn2 HRR.out).mono ?_; rintro e w5 ⟨rfl, hb5⟩; have hb5 : Below w3.heap.size w3.drew w5 := hb5; have HB5 := Lib.hid (below_back hb5); have q50 := (hb5.cell (p := ⟨gl, 0, none⟩) (by simp; omega)).trans C0.out; have q51 := (hb5.cell (p := ⟨gl, 1, none⟩) (by simp; omega)).trans C1.out; have q52 := (hb5.cell (p := ⟨g, 3, none⟩) (by simp; omega)).trans C2.out; clear hb5))
  rename_i hh
  clear hh hw1 hw2 q50 q51 q52
  go_wp2
  go_ret
  have hg := HG.out
  subst hg
  exact ⟨ret_int (by have := HN.out; omega), Below.trans HB2.out (HB5.out.mono (by omega))⟩

theorem head_any (w : World) : Calls Try.prog 6 #[] w fun e w' => e = .returned (.bool true) ∧ Below w.heap.size w w' := by
  have hr : rt 7 1 258 ([] : Bs).length = true := by decide
  obtain ⟨o1, o2, o3, o4⟩ := of_body (t := []) hr
  have h12 : 6 * nu 7 + ([] : Bs).length = 12 := by decide
  have HR := Lib.hid hr
  have H12 := Lib.hid h12
  have HO1 := Lib.hid o1
  have HO2 := Lib.hid o2
  have HO3 := Lib.hid o3
  have HO4 := Lib.hid o4
  clear hr h12 o1 o2 o3 o4
  go_enter Try.func6, Try.ntmps6
  go_wp2_with fail
  refine (frame_yes 7 1 258 [] _ HR.out).mono ?_
  rintro e w1 ⟨A, c, rfl, hown, hb⟩
  rw [H12.out] at hown ⊢
  rw [show (BitVec.ofInt 8 7) = 7#8 from rfl]
  obtain ⟨g, rfl, hg, hgl⟩ := hown.form (by omega)
  have hal : Below w1.heap.size w1 (w1.alloc (.cells #[.int .u8 7, .slice (some ⟨g, 0, none⟩) 12 c] 31)) := (Below.refl _ _).alloc (Nat.le_refl _) _
  have HO := Lib.hid (hown.below hal)
  have HB := Lib.hid (hb.alloc hb.size (.cells #[.int .u8 7, .slice (some ⟨g, 0, none⟩) 12 c] 31))
  have HX := Lib.hid (Bx.new w1 _ rfl #[.int .u8 7, .slice (some ⟨g, 0, none⟩) 12 c] 31)
  have hcap := hown.cap
  clear hown hb hal
  go_wp2_with fail
  generalize w1.alloc (.cells #[.int .u8 7, .slice (some ⟨g, 0, none⟩) 12 c] 31) = w2 at *
  generalize w1.heap.size = gf at *
  have hz2 : gf + 1 ≤ w2.heap.size := HX.out.room
  have hgl2 : g < w2.heap.size := by omega
  refine (mof_any 7#8 (some ⟨g, 0, none⟩) 12 c _ (body 7 1 258 []) w2 HO.out.bytes (Nat.le_refl _) hcap (by omega)).mono ?_
  rintro e w3 ⟨hp, hb3⟩
  have hp : OfPost 7 (body 7 1 258 []) e := hp
  have he := hp.1 HO4.out
  rw [HO1.out, HO2.out, HO3.out] at he
  subst he
  have hx3 := HX.out.go hb3 hz2
  have ho3 := HO.out.below hb3
  have d1 : w3.cell? ⟨gf, 1, none⟩ = some (.slice (some ⟨g, 0, none⟩) 12 c) := hx3.cell 1 _ rfl
  have b5 := own_bytes ho3 g rfl 5 (by omega)
  have b10 := own_bytes ho3 g rfl 10 (by omega)
  have b11 := own_bytes ho3 g rfl 11 (by omega)
  have c5 : w3.cell? ⟨g, 5, none⟩ = some (.int .u8 1) := b5
  have c10 : w3.cell? ⟨g, 10, none⟩ = some (.int .u8 1) := b10
  have c11 : w3.cell? ⟨g, 11, none⟩ = some (.int .u8 2) := b11
  have HB3 := Lib.hid (Below.trans HB.out (hb3.mono HB.out.size))
  have hgl3 : g < w3.heap.size := Nat.lt_of_lt_of_le hgl2 hb3.size
  have hgf3 : gf < w3.heap.size := Nat.lt_of_lt_of_le hz2 hb3.size
  have hs0 : (str []).toList = [] := by rw [ByteArray.toList_eq]; rfl
  clear hb3 hp hx3 ho3 b5 b10 b11 HO HX HB
  go_wp2
  go_ret
  exact ⟨rfl, HB3.out.alloc HB3.out.size _⟩

end Go.Proofs.Ytbnpamhmippdbaa
