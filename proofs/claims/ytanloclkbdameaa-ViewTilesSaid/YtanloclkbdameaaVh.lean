/- A ring and a view of it, by the call's own; what the head of layer 12's laws answers. -/
import Derived.Test.YtanloclkbdameaaVy
namespace Go.Proofs.Ytanloclkbdameaa
open Go.RowKit

/-- a ring and a view of the call's own -/
structure VR (base : Nat) (w0 w : World) (gr gk room g p s : Nat) (L : Bs) : Prop where
  ring : Ring w gr gk room L
  vw : Bx g w (VV p s)
  bel : Below base w0 w
  n1 : g ≠ gr
  n2 : g ≠ gk
  b0 : base ≤ g
  b1 : base ≤ gr
  b2 : base ≤ gk
  hs : base ≤ w.heap.size

section
variable {base gr gk room g p s p2 s2 : Nat} {w0 w w' : World} {L : Bs}

theorem VR.keep (h : VR base w0 w gr gk room g p s L) (ho : Only (fun _ => False) w w') : VR base w0 w' gr gk room g p s L :=
  ⟨h.ring.keep ho (fun h => h) (fun h => h), h.vw.keep ho (fun h => h), Below.trans h.bel (ho.below h.hs (fun _ _ h => h)), h.n1, h.n2, h.b0, h.b1, h.b2, Nat.le_trans h.hs ho.size⟩

theorem VR.turn (h : VR base w0 w gr gk room g p s L) (hv : Bx g w' (VV p2 s2)) (ho : Only (fun k => k = g) w w') : VR base w0 w' gr gk room g p2 s2 L :=
  ⟨h.ring.keep ho (fun e => h.n1 e.symm) (fun e => h.n2 e.symm), hv, Below.trans h.bel (ho.below h.hs (fun k hk e => by have := h.b0; omega)), h.n1, h.n2, h.b0, h.b1, h.b2, Nat.le_trans h.hs ho.size⟩

theorem VR.came (h : VR base w0 w gr gk room g p s L) {L2 : Bs} (hr : Ring w' gr gk room L2) (ho : Only (fun k => k = gr ∨ k = gk) w w') : VR base w0 w' gr gk room g p s L2 :=
  ⟨hr, h.vw.keep ho (fun e => e.elim h.n1 h.n2), Below.trans h.bel (ho.below h.hs (fun k hk e => by have := h.b1; have := h.b2; omega)), h.n1, h.n2, h.b0, h.b1, h.b2, Nat.le_trans h.hs ho.size⟩

theorem VR.drewN (h : VR base w0 w gr gk room g p s L) (n : Nat) : VR base w0 (w.drewN n) gr gk room g p s L := h.keep ((Only.refl _ w).drewN n)
theorem VR.alloc (h : VR base w0 w gr gk room g p s L) (o : Obj) : VR base w0 (w.alloc o) gr gk room g p s L := h.keep ((Only.refl _ w).alloc o)
end

theorem vhead_any (w : World) : Calls Try.prog 28 #[] w fun e w' => e = .returned (.bool true) ∧ Below w.heap.size w w' := by
  have kc := fun (w : World) (C : Array Value) (n c : Nat) => Lib.run_convert_bytes_const (P := Try.prog) w 24 5 C n c Try.underlying24 Try.underlying5
  go_enter Try.func28, Try.ntmps28
  go_wp2_with fail
  refine (new_ring 10 w).mono ?_
  rintro e w1 ⟨rfl, hr, hb1, hs1⟩
  have HR := Lib.hid hr
  have HB1 := Lib.hid hb1
  have HS1 := Lib.hid hs1
  clear hr hb1 hs1
  go_wp2_with fail
  refine (append_ring (HR.out.keep ((Only.refl (fun _ => False) w1).alloc _) (fun h => h) (fun h => h)) (B := w1.heap.size + 1) (some ⟨w1.heap.size, 0, none⟩) 3 3 [97#8, 98#8, 99#8] ⟨rfl, fun _ => ⟨_, 0, rfl, by omega, fun i hi => ?_⟩⟩ (fun _ p hp => by injection hp with hp; subst hp; have := HS1.out; exact ⟨by simp; omega, by simp; omega⟩) (Nat.le_refl _) (by simp) (by decide)).mono ?_
  · rw [cell_of_row _ _ _ _ _ _ (heap_alloc_new _ _)]
    have : i = 0 ∨ i = 1 ∨ i = 2 := by omega
    rcases this with rfl | rfl | rfl <;> rfl
  rintro e w2 ⟨rfl, hr2, ho2⟩
  have hb2 : Below w.heap.size w w2 := Below.trans HB1.out (((Only.refl (fun k => k = w.heap.size + 1 ∨ k = w.heap.size) w1).alloc _ |>.trans ho2).below (by have := HS1.out; omega) (fun k hk => by omega))
  rw [List.nil_append, show roomOf 10 = 10 from rfl] at hr2
  have HR2 := Lib.hid hr2
  have HB2 := Lib.hid hb2
  clear hr2 ho2 hb2 HR kc
  go_wp2_with fail
  refine (vnew_no HR2.out 2 (by decide)).mono ?_
  rintro e w3 ⟨rfl, hx3, ho3⟩
  have hlt := HR2.out.lt
  have HV := Lib.hid (show VR w.heap.size w w3 (w.heap.size + 1) w.heap.size 10 w2.heap.size 1 0 [97#8, 98#8, 99#8] from ⟨HR2.out.keep ho3 (fun h => h) (fun h => h), hx3, Below.trans HB2.out (ho3.below HB2.out.size (fun _ _ h => h)), by omega, by omega, by omega, by omega, by omega, Nat.le_trans HB2.out.size ho3.size⟩)
  clear hx3 ho3 HR2 HB2 HB1 HS1 hlt
  generalize w2.heap.size = g at *
  go_wp2_with fail
  refine (vnext_send HV.out.ring HV.out.vw 100 1 0 (by decide) (by decide) (by decide)).mono ?_
  intro e w4 hs4
  obtain ⟨rfl, hx4, ho4⟩ := hs4.2 (show 0 < countOf 3 1 100 1 from by decide)
  have HV4 := Lib.hid (HV.out.turn hx4 ho4)
  rw [show (1 + countOf (List.length [97#8, 98#8, 99#8]) 1 100 1) = 2 from by decide] at HV4
  rw [show MD 1 ((List.drop 1 [97#8, 98#8, 99#8]).take (countOf (List.length [97#8, 98#8, 99#8]) 1 100 1)) = .agg #[.int .i64 6, .int .i64 1, .int .i64 0, .string ⟨#[98]⟩] from rfl]
  clear hs4 hx4 ho4 HV
  go_upto_region 6 with fail
  have hg4 : g + 1 ≤ w4.heap.size := HV4.out.vw.room
  have HD1 := Lib.hid (Bx.new w4 w4.heap.size rfl #[.int .i64 6, .int .i64 1, .int .i64 0, .string ⟨#[98]⟩] 63)
  have HV5 := Lib.hid (HV4.out.alloc (.cells #[.int .i64 6, .int .i64 1, .int .i64 0, .string ⟨#[98]⟩] 63))
  clear HV4
  generalize w4.alloc (.cells #[.int .i64 6, .int .i64 1, .int .i64 0, .string ⟨#[98]⟩] 63) = w5 at *
  generalize w4.heap.size = m1 at *
  go_wp2_with fail
  refine (vnext_send HV5.out.ring HV5.out.vw 100 1 0 (by decide) (by decide) (by decide)).mono ?_
  intro e w6 hs6
  obtain ⟨rfl, hx6, ho6⟩ := hs6.2 (show 0 < countOf 3 2 100 1 from by decide)
  have HV6 := Lib.hid (HV5.out.turn hx6 ho6)
  have HD6 := Lib.hid (HD1.out.keep ho6 (by omega))
  rw [show (2 + countOf (List.length [97#8, 98#8, 99#8]) 2 100 1) = 3 from by decide] at HV6
  rw [show MD 2 ((List.drop 2 [97#8, 98#8, 99#8]).take (countOf (List.length [97#8, 98#8, 99#8]) 2 100 1)) = .agg #[.int .i64 6, .int .i64 2, .int .i64 0, .string ⟨#[99]⟩] from rfl]
  clear hs6 hx6 ho6 HV5 HD1
  go_upto_region 7 with fail
  have hm6 : m1 + 1 ≤ w6.heap.size := HD6.out.room
  have HD7 := Lib.hid (HD6.out.keep ((Only.refl (fun _ => False) w6).alloc (.cells #[.int .i64 6, .int .i64 2, .int .i64 0, .string ⟨#[99]⟩] 63)) (fun h => h))
  have HE7 := Lib.hid (Bx.new w6 w6.heap.size rfl #[.int .i64 6, .int .i64 2, .int .i64 0, .string ⟨#[99]⟩] 63)
  have HV7 := Lib.hid (HV6.out.alloc (.cells #[.int .i64 6, .int .i64 2, .int .i64 0, .string ⟨#[99]⟩] 63))
  clear HV6 HD6
  generalize w6.alloc (.cells #[.int .i64 6, .int .i64 2, .int .i64 0, .string ⟨#[99]⟩] 63) = w7 at *
  generalize w6.heap.size = m2 at *
  go_wp2_with fail
  refine (vnext_send HV7.out.ring HV7.out.vw 100 1 0 (by decide) (by decide) (by decide)).mono ?_
  intro e w8 hs8
  obtain ⟨rfl, ho8⟩ := hs8.1 (show countOf 3 3 100 1 = 0 from by decide)
  have HB8 := Lib.hid (HV7.out.keep ho8).bel
  have hd8 := HD7.out.keep ho8 (fun h => h)
  have he8 := HE7.out.keep ho8 (fun h => h)
  have d0 := hd8.cell 0 _ rfl
  have d1 := hd8.cell 1 _ rfl
  have d2 := hd8.cell 2 _ rfl
  have d3 := hd8.cell 3 _ rfl
  have e0 := he8.cell 0 _ rfl
  have e1 := he8.cell 1 _ rfl
  have e2 := he8.cell 2 _ rfl
  have e3 := he8.cell 3 _ rfl
  have hr1 : m1 < w8.heap.size := hd8.room
  have hr2 : m2 < w8.heap.size := he8.room
  have hs8 := HB8.out.size
  clear hs8 ho8 HV7 HD7 HE7 hd8 he8
  go_wp2
  go_ret
  exact ⟨rfl, HB8.out.alloc HB8.out.size _⟩

end Go.Proofs.Ytanloclkbdameaa
