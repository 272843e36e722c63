
/- What the message's Put and Size answer; the head of layer 6's laws. -/
import Derived.Test.YtanloclkbdameaaMsgr
namespace Go.Proofs.Ytanloclkbdameaa
open Go.RowKit
open Fr Ms

theorem size_yes (k x y : Int) (t : Bs) (N : Nat) (hN : 6 * nu k + t.length + 5 = N) (w : World) (hr : rt k x y t.length = true) :
    Calls Try.prog 35 #[.agg #[.int .i64 k, .int .i64 x, .int .i64 y, .string (str t)]] w fun e w' => e = .returned (.int .i64 N) ∧ Below w.heap.size w w' := by
  have HR := Lib.hid hr
  have hK := (rt_iff.1 hr).1
  have HK := Lib.hid hK
  have hm : 6 * nu k + t.length ≤ 2048 := by have h := body_le hr; rwa [body_len] at h
  clear hr hK
  go_enter Try.func35, Try.ntmps35
  go_wp2_with fail
  have hx := Bx.new w _ rfl #[.int .i64 k, .int .i64 x, .int .i64 y, .string (str t)] 63
  have hb : Below w.heap.size w (w.alloc (.cells #[.int .i64 k, .int .i64 x, .int .i64 y, .string (str t)] 63)) := (Below.refl _ _).alloc (Nat.le_refl _) _
  generalize w.alloc (.cells #[.int .i64 k, .int .i64 x, .int .i64 y, .string (str t)] 63) = W at *
  generalize hg : w.heap.size = g at *
  have HG := Lib.hid hg
  have hz0 : g + 1 ≤ W.heap.size := hx.room
  clear hg
  refine (mright_any k x y (str t) _).mono ?_
  rintro e w1 ⟨rfl, hb1⟩
  rw [str_size, HR.out]
  have hx1 := hx.go hb1 hz0
  have hbb := Below.trans hb (hb1.mono (by omega))
  have hz1 : g + 1 ≤ w1.heap.size := hx1.room
  have hc0 : w1.cell? ⟨g, 0, none⟩ = some (.int .i64 k) := hx1.cell 0 _ rfl
  have HX1 := Lib.hid hx1
  have HB1 := Lib.hid hbb
  clear hx hb hb1 hx1 hbb
  go_wp2_with fail
  refine (layout_any k _).mono ?_
  rintro e w2 ⟨rfl, hb2⟩
  rw [HK.out]
  have hb3 : Below w2.heap.size w2 (w2.alloc (.cells #[.int .i64 (nu k), .int .i64 (tx k)] 87)) := (Below.refl _ _).alloc (Nat.le_refl _) _
  have hb23 := Below.trans hb2 (hb3.mono hb2.size)
  have hz2 : g + 1 ≤ w2.heap.size := Nat.le_trans hz1 hb2.size
  have HL := Lib.hid (Bx.new w2 _ rfl #[.int .i64 (nu k), .int .i64 (tx k)] 87)
  have HX2 := Lib.hid (HX1.out.go hb23 hz1)
  have HB2 := Lib.hid (Below.trans HB1.out (hb23.mono (by omega)))
  clear hb2 hb3 hb23 HX1 HB1 hc0 hz1
  go_wp2_with fail
  generalize w2.alloc (.cells #[.int .i64 (nu k), .int .i64 (tx k)] 87) = w3 at *
  generalize w2.heap.size = gl at *
  have hz3 : gl + 1 ≤ w3.heap.size := HL.out.room
  have hn2 : nu k ≤ 2 := nu_le k
  obtain ⟨R, hR⟩ : ∃ R : Nat, R = 6 * nu k := ⟨_, rfl⟩
  have HRR := Lib.hid hR
  rw [← hR] at hN hm
  have hsl := str_size t
  obtain ⟨T, hT⟩ : ∃ T : Nat, T = t.length := ⟨_, rfl⟩
  rw [← hT] at hsl hN hm
  have HN := Lib.hid hN
  clear hR hT hN
  have C0 : Hid (w3.cell? ⟨gl, 0, none⟩ = some (.int .i64 (nu k))) := Lib.hid (HL.out.cell 0 _ rfl)
  have C1 : Hid (w3.cell? ⟨gl, 1, none⟩ = some (.int .i64 (tx k))) := Lib.hid (HL.out.cell 1 _ rfl)
  have C2 : Hid (w3.cell? ⟨g, 3, none⟩ = some (.string (str t))) := Lib.hid (HX2.out.cell 3 _ rfl)
  have hw1 : IntKind.i64.wrap (5 + (R : Int)) = 5 + (R : Int) := IntWalk.i64_in _ (by omega)
  have hw2 : IntKind.i64.wrap (5 + (R : Int) + (T : Int)) = 5 + (R : Int) + (T : Int) := IntWalk.i64_in _ (by omega)
  go_region_held3 (fun w' => w'.cell? ⟨gl, 0, none⟩ = some (.int .i64 (nu k)) ∧ w'.cell? ⟨gl, 1, none⟩ = some (.int .i64 (tx k)) ∧ w'.cell? ⟨g, 3, none⟩ = some (.string (str t)))
    (first | exact ⟨q50, q51, q52⟩ | exact ⟨C0.out, C1.out, C2.out⟩)
    (first
      | (go_at_call 57; refine (lhead_any (nu k) (tx k) R _ hn2 HRR.out).mono ?_; rintro e w5 ⟨rfl, hb5⟩; have hb5 : Below w3.heap.size w3.drew w5 := hb5; have HB5 := Lib.hid (below_back hb5); have q50 := (hb5.cell (p := ⟨gl, 0, none⟩) (by simp; omega)).trans C0.out; have q51 := (hb5.cell (p := ⟨gl, 1, none⟩) (by simp; omega)).trans C1.out; have q52 := (hb5.cell (p := ⟨g, 3, none⟩) (by simp; omega)).trans C2.out; clear hb5))
  rename_i hh
  clear hh hw1 hw2 q50 q51 q52
  go_wp2
  go_ret
  have hg := HG.out
  subst hg
  exact ⟨ret_int (by have := HN.out; omega), Below.trans HB2.out (HB5.out.mono (by omega))⟩

end Go.Proofs.Ytanloclkbdameaa
