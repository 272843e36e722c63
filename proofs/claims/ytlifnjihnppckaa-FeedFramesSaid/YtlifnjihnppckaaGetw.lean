/- What frame.number and frame.Get answer. -/
import Derived.Test.YtlifnjihnppckaaFramew
import Derived.Deep.RegionHeld3
import Derived.IntWalk
namespace Go.Proofs.Ytlifnjihnppckaa
open Go.RowKit
open Fr
open Crc (more)

theorem or_num (x y : BitVec 8) : bits .or .u16 ((x.toNat : Int) * 256) (y.toNat : Int) = ((256 * x.toNat + y.toNat : Nat) : Int) := by
  have hx := x.isLt
  have hy := y.isLt
  have h := u16_or_nat (256 * x.toNat) y.toNat (by omega) (by omega)
  rw [show (((256 * x.toNat : Nat) : Int)) = (x.toNat : Int) * 256 by omega] at h
  rw [h, ← Nat.two_pow_add_eq_or_of_lt (i := 8) (by omega)]

theorem number_any (a : Option Addr) (n cap B : Nat) (l : Bs) (w : World) (hl : Bytes w B a n l) (hn : 2 ≤ n) :
    Calls Try.prog 28 #[.slice a n cap] w fun e w' => e = .returned (.int .u16 (num2 l)) ∧ ∃ m, w' = w.drewN m := by
  obtain ⟨b, off, rfl, hb, hc⟩ := hl.2 (by omega)
  have hc0 := hc 0 (by omega)
  have hc1 := hc 1 (by omega)
  rw [Nat.add_zero] at hc0
  have hi0 : (0 : Int) < (n : Int) := by omega
  have hi1 : (1 : Int) < (n : Int) := by omega
  have H : Hid (num2 l = 256 * (l[0]?.getD 0#8).toNat + (l[1]?.getD 0#8).toNat) := Lib.hid rfl
  have HO := Lib.hid or_num
  generalize num2 l = v at *
  generalize l[0]?.getD 0#8 = x at *
  generalize l[1]?.getD 0#8 = y at *
  have hx := x.isLt
  have hy := y.isLt
  clear hl hc hb hn
  go_enter Try.func28, Try.ntmps28
  go_wp2
  go_quiet (fail)
  go_wp2
  go_ret
  exact ⟨ret_int (by rw [HO.out, H.out]), nq, rfl⟩

/-- what a call that tells a frame ends with: the body lies in new memory -/
def GivesF (w : World) (g : Got) (e : Ending) (w' : World) : Prop :=
  ∃ A c, e = .returned (.tuple #[.agg #[.int .u8 g.k.toNat, .slice A g.body.length c], .int .i64 g.n, .int .i64 g.err]) ∧ Bytes w' w'.heap.size A g.body.length g.body ∧ Below w.heap.size w w' ∧ (0 < g.body.length → ∀ p, A = some p → w.heap.size ≤ p.block)

theorem gives_no {w w' : World} {l : Bs} {er : Nat} (h : err l = er) (he : er ≠ 0) (hb : Below w.heap.size w w') :
    GivesF w (get l) (.returned (.tuple #[.agg #[.int .u8 0, .slice none 0 0], .int .i64 0, .int .i64 er])) w' := by
  rw [get_no h he]
  exact ⟨none, 0, rfl, Bytes.nil _, hb, fun _ p hp => by cases hp⟩

theorem get_short (a : Option Addr) (n cap : Nat) (l : Bs) (w : World) (hl : l.length = n) (hn : n < 2) :
    Calls Try.prog 22 #[.slice a n cap] w (GivesF w (get l)) := by
  have H := Lib.hid (err_short (l := l) (by omega))
  clear hl
  go_enter Try.func22, Try.ntmps22
  go_wp2
  exact bodyPost_ret (v := .tuple #[.agg #[.int .u8 0, .slice none 0 0], .int .i64 0, .int .i64 (5 : Nat)]) (by simp [results, Try.results22, go_sem]) rfl (gives_no H.out (by omega) ((Below.refl _ _).alloc (Nat.le_refl _) _))

theorem get_long (a : Option Addr) (n cap B : Nat) (l : Bs) (w : World) (hl : Bytes w B a n l) (hB : B ≤ w.heap.size) (hn : 2 ≤ n) (h : num2 l = 0 ∨ 2049 < num2 l) :
    Calls Try.prog 22 #[.slice a n cap] w (GivesF w (get l)) := by
  have H := Lib.hid (err_long (l := l) (by rw [hl.1]; omega) h)
  have HL := Lib.hid hl
  have hlt := num2_lt l
  generalize hv : num2 l = v at *
  have HV := Lib.hid hv
  clear hl hv
  go_enter Try.func22, Try.ntmps22
  go_wp2_with fail
  refine (number_any a n cap B l _ (HL.out.below ((Below.refl _ _).alloc hB _)) hn).mono ?_
  rintro e w1 ⟨rfl, m1, rfl⟩
  rw [HV.out]
  have hb1 := below_drewN ((Below.refl w.heap.size w).alloc (Nat.le_refl _) (.cells #[Value.int IntKind.u8 0, Value.slice none 0 0] 38)) m1
  rcases h with rfl | h
  · go_wp2
    exact bodyPost_ret (v := .tuple #[.agg #[.int .u8 0, .slice none 0 0], .int .i64 0, .int .i64 (6 : Nat)]) (by simp [results, Try.results22, go_sem]) rfl (gives_no H.out (by omega) ((hb1.setCell (by simp) _).setCell (by simp) _))
  · go_wp2
    exact bodyPost_ret (v := .tuple #[.agg #[.int .u8 0, .slice none 0 0], .int .i64 0, .int .i64 (6 : Nat)]) (by simp [results, Try.results22, go_sem]) rfl (gives_no H.out (by omega) ((hb1.setCell (by simp) _).setCell (by simp) _))

theorem get_cut (a : Option Addr) (n cap B : Nat) (l : Bs) (w : World) (hl : Bytes w B a n l) (hB : B ≤ w.heap.size) (hn : 2 ≤ n) (h0 : 0 < num2 l) (h1 : num2 l ≤ 2049) (h2 : n < num2 l + 4) :
    Calls Try.prog 22 #[.slice a n cap] w (GivesF w (get l)) := by
  have H := Lib.hid (err_cut (l := l) (by rw [hl.1]; omega) h0 h1 (by rw [hl.1]; omega))
  have HL := Lib.hid hl
  generalize hv : num2 l = v at *
  have HV := Lib.hid hv
  have hv0 : ((v : Int) == 0) = false := by simp; omega
  have hv1 : decide (2049 < (v : Int)) = false := by simp; omega
  clear hl hv
  go_enter Try.func22, Try.ntmps22
  go_wp2_with fail
  refine (number_any a n cap B l _ (HL.out.below ((Below.refl _ _).alloc hB _)) hn).mono ?_
  rintro e w1 ⟨rfl, m1, rfl⟩
  rw [HV.out]
  have hb1 := below_drewN ((Below.refl w.heap.size w).alloc (Nat.le_refl _) (.cells #[Value.int IntKind.u8 0, Value.slice none 0 0] 38)) m1
  go_wp2
  exact bodyPost_ret (v := .tuple #[.agg #[.int .u8 0, .slice none 0 0], .int .i64 0, .int .i64 (5 : Nat)]) (by simp [results, Try.results22, go_sem]) rfl (gives_no H.out (by omega) ((hb1.setCell (by simp) _).setCell (by simp) _))

/-- the cells of a frame's result, just laid -/
structure Res (w : World) (g : Nat) (W : World) : Prop where
  below : Below w.heap.size w W
  eq : w.heap.size = g
  room : g < W.heap.size
  c0 : W.cell? ⟨g, 0, none⟩ = some (.int .u8 0)
  c1 : W.cell? ⟨g, 1, none⟩ = some (.slice none 0 0)
  f0 : W.frozen? ⟨g, 0, none⟩ = false
  f1 : W.frozen? ⟨g, 1, none⟩ = false

theorem res_new (w : World) (m : Nat) : Res w w.heap.size ((w.alloc (.cells #[.int .u8 0, .slice none 0 0] 38)).drewN m) :=
  ⟨below_drewN ((Below.refl _ _).alloc (Nat.le_refl _) _) m, rfl, by simp,
    (cell_of_row (w.alloc (.cells #[.int .u8 0, .slice none 0 0] 38)) _ _ _ _ _ (heap_alloc_new _ _)).trans rfl,
    (cell_of_row (w.alloc (.cells #[.int .u8 0, .slice none 0 0] 38)) _ _ _ _ _ (heap_alloc_new _ _)).trans rfl,
    frozen_of_row (w.alloc (.cells #[.int .u8 0, .slice none 0 0] 38)) _ _ _ _ (heap_alloc_new _ _), frozen_of_row (w.alloc (.cells #[.int .u8 0, .slice none 0 0] 38)) _ _ _ _ (heap_alloc_new _ _)⟩

theorem Res.drewN {w W : World} {g : Nat} (h : Res w g W) (n : Nat) : Res w g (W.drewN n) := ⟨below_drewN h.below n, h.eq, h.room, h.c0, h.c1, h.f0, h.f1⟩

theorem Res.go {w W W' : World} {g : Nat} (h : Res w g W) (hb : Below W.heap.size W.drew W') : Res w g W' :=
  ⟨Below.trans h.below ((show Below W.heap.size W W' from ⟨hb.os, hb.tape, hb.output, hb.size, hb.block⟩).mono h.below.size), h.eq, Nat.lt_of_lt_of_le h.room hb.size, (hb.cell (p := ⟨g, 0, none⟩) h.room).trans h.c0, (hb.cell (p := ⟨g, 1, none⟩) h.room).trans h.c1,
    (hb.frozen (p := ⟨g, 0, none⟩) h.room).trans h.f0, (hb.frozen (p := ⟨g, 1, none⟩) h.room).trans h.f1⟩

theorem get_sum (a : Option Addr) (n cap B : Nat) (l : Bs) (w : World) (hl : Bytes w B a n l) (hB : B ≤ w.heap.size) (hcap : n ≤ cap) (h0 : 0 < num2 l) (h1 : num2 l ≤ 2049) (h2 : num2 l + 4 ≤ n)
    (h3 : sum ((l.drop 2).take (num2 l)) ≠ num2 (l.drop (num2 l + 2))) :
    Calls Try.prog 22 #[.slice a n cap] w (GivesF w (get l)) := by
  have H := Lib.hid (err_sum (l := l) h0 h1 (by rw [hl.1]; omega) h3)
  obtain ⟨b, off, rfl, hb, _⟩ := hl.2 (by omega)
  have HL := Lib.hid hl
  have hs : Bytes w B (some ⟨b, off + 2, none⟩) (num2 l) ((l.drop 2).take (num2 l)) := by
    exact (hl.cut2 (j := 2) (by omega) hcap (by omega)).take (by omega)
  have ht : Bytes w B (some ⟨b, off + (2 + num2 l), none⟩) (n - (2 + num2 l)) (l.drop (2 + num2 l)) := hl.cut2 (by omega) hcap (by omega)
  rw [Nat.add_comm (num2 l) 2] at h3
  have hne : (((more 0xffff#16 ((l.drop 2).take (num2 l))).toNat : Int) != ((num2 (l.drop (2 + num2 l)) : Nat) : Int)) = true := by
    have : ((sum ((l.drop 2).take (num2 l)) : Nat) : Int) ≠ (num2 (l.drop (2 + num2 l)) : Nat) := by omega
    simpa [sum] using this
  generalize hv : num2 l = v at *
  have HV := Lib.hid hv
  have HS := Lib.hid hs
  have HT := Lib.hid ht
  generalize (l.drop 2).take v = body at *
  generalize l.drop (2 + v) = tail at *
  have hv0 : ((v : Int) == 0) = false := by simp; omega
  have hv1 : decide (2049 < (v : Int)) = false := by simp; omega
  have hc1 : ¬ cap = 2 + v := by omega
  clear hl hv h3 hs ht
  go_enter Try.func22, Try.ntmps22
  go_wp2_with fail
  refine (number_any _ n cap B l _ (HL.out.below ((Below.refl _ _).alloc hB _)) (by omega)).mono ?_
  rintro e w1 ⟨rfl, m1, rfl⟩
  rw [HV.out]
  have HR := Lib.hid (res_new w m1)
  generalize (w.alloc (.cells #[Value.int IntKind.u8 0, Value.slice none 0 0] 38)).drewN m1 = W at *
  generalize hg : w.heap.size = g at *
  have HG := Lib.hid hg
  clear hg
  go_wp2
  have HS2 := Lib.hid (HS.out.below (HR.out.below.mono (by rw [HG.out]; exact hB)))
  have HT2 := Lib.hid (HT.out.below (HR.out.below.mono (by rw [HG.out]; exact hB)))
  go_quiet (first
    | (go_at_call 27; exact quiet_left (of_any _ _ _ B _ _ (by omega) (HS2.out.drewN _)))
    | (go_at_call 28; exact quiet_right (number_any _ _ _ B _ _ (HT2.out.drewN _) (by omega))))
  have c0 := HR.out.c0
  have c1 := HR.out.c1
  have f0 := HR.out.f0
  have f1 := HR.out.f1
  go_wp2
  have hg := HG.out
  subst hg
  exact bodyPost_ret (v := .tuple #[.agg #[.int .u8 0, .slice none 0 0], .int .i64 0, .int .i64 (7 : Nat)]) (by simp [results, Try.results22, go_sem, c0, c1]) rfl (gives_no H.out (by omega) (((below_drewN HR.out.below nq).setCell (by simp) _).setCell (by simp) _))

theorem get_ok (a : Option Addr) (n cap B : Nat) (l : Bs) (w : World) (hl : Bytes w B a n l) (hB : B ≤ w.heap.size) (hcap : n ≤ cap) (hn : n ≤ 140737488355328) (h0 : 0 < num2 l) (h1 : num2 l ≤ 2049) (h2 : num2 l + 4 ≤ n)
    (h3 : sum ((l.drop 2).take (num2 l)) = num2 (l.drop (num2 l + 2))) :
    Calls Try.prog 22 #[.slice a n cap] w (GivesF w (get l)) := by
  have H := Lib.hid (get_yes (err_ok (l := l) h0 h1 (by rw [hl.1]; omega) h3))
  obtain ⟨b, off, rfl, hb, hcell⟩ := hl.2 (by omega)
  have hk := hcell 2 (by omega)
  have HL := Lib.hid hl
  have hs : Bytes w B (some ⟨b, off + 2, none⟩) (num2 l) ((l.drop 2).take (num2 l)) := by
    exact (hl.cut2 (j := 2) (by omega) hcap (by omega)).take (by omega)
  have hbd : Bytes w B (some ⟨b, off + 3, none⟩) (num2 l - 1) ((l.drop 3).take (num2 l - 1)) := by
    exact (hl.cut2 (j := 3) (by omega) hcap (by omega)).take (by omega)
  have ht : Bytes w B (some ⟨b, off + (2 + num2 l), none⟩) (n - (2 + num2 l)) (l.drop (2 + num2 l)) := hl.cut2 (by omega) hcap (by omega)
  rw [Nat.add_comm (num2 l) 2] at h3
  have hne : (((more 0xffff#16 ((l.drop 2).take (num2 l))).toNat : Int) != ((num2 (l.drop (2 + num2 l)) : Nat) : Int)) = false := by
    have : ((sum ((l.drop 2).take (num2 l)) : Nat) : Int) = (num2 (l.drop (2 + num2 l)) : Nat) := by omega
    simpa [sum] using this
  generalize hv : num2 l = v at *
  have HV := Lib.hid hv
  have HS := Lib.hid hs
  have HT := Lib.hid ht
  have HBD := Lib.hid hbd
  generalize (l.drop 2).take v = sumd at *
  generalize (l.drop 3).take (v - 1) = body at *
  generalize l[2]?.getD 0#8 = kind at *
  generalize l.drop (2 + v) = tail at *
  have hv0 : ((v : Int) == 0) = false := by simp; omega
  have hv1 : decide (2049 < (v : Int)) = false := by simp; omega
  have hc1 : ¬ cap = 2 + v := by omega
  have hc2 : ¬ cap - 2 = 1 := by omega
  clear hl hv h3 hs ht hbd hcell
  go_enter Try.func22, Try.ntmps22
  go_wp2_with fail
  refine (number_any _ n cap B l _ (HL.out.below ((Below.refl _ _).alloc hB _)) (by omega)).mono ?_
  rintro e w1 ⟨rfl, m1, rfl⟩
  rw [HV.out]
  have HR := Lib.hid (res_new w m1)
  generalize (w.alloc (.cells #[Value.int IntKind.u8 0, Value.slice none 0 0] 38)).drewN m1 = W at *
  generalize hg : w.heap.size = g at *
  have HG := Lib.hid hg
  clear hg
  go_wp2
  have hW : Below B w W := HR.out.below.mono (by rw [HG.out]; exact hB)
  have hW2 : W.heap.size ≥ g := by have := HR.out.room; omega
  have HS2 := Lib.hid (HS.out.below hW)
  have HT2 := Lib.hid (HT.out.below hW)
  have HBD2 := Lib.hid (HBD.out.below hW)
  have hk2 := (hW.cell (p := ⟨b, off + 2, none⟩) hb).trans hk
  have HK := Lib.hid hk2
  clear hW hk hk2
  go_quiet (first
    | (go_at_call 27; exact quiet_left (of_any _ _ _ B _ _ (by omega) (HS2.out.drewN _)))
    | (go_at_call 28; exact quiet_right (number_any _ _ _ B _ _ (HT2.out.drewN _) (by omega))))
  have HR2 := Lib.hid (HR.out.drewN nq)
  have HB3 := Lib.hid (HBD2.out.drewN nq)
  have HK2 : Hid ((W.drewN nq).cell? ⟨b, off + 2, none⟩ = some (.int .u8 kind.toNat)) := Lib.hid HK.out
  clear HS HT HBD HS2 HT2 HBD2 HK HR
  go_wp2
  generalize W.drewN nq = W2 at *
  have c0 := HR2.out.c0
  have c1 := HR2.out.c1
  have f0 := HR2.out.f0
  have f1 := HR2.out.f1
  have hk := HK2.out
  have hbg : b < g := by omega
  have hneA : ∀ i, (⟨g, i, none⟩ : Addr) ≠ ⟨b, off + 2, none⟩ := by
    intro i h
    have h2 := congrArg Addr.block h
    simp only at h2
    omega
  have hi0 : (0 : Int) < (v : Int) := by omega
  have hi1 : (1 : Int) ≤ (v : Int) := by omega
  have hi2 : v ≤ cap - 2 := by omega
  have hB2 : B ≤ W2.heap.size := by have := HR2.out.room; omega
  have hbW : b < W2.heap.size := by omega
  have hsum : IntKind.i64.wrap (2 + (v : Int) + 2) = 2 + (v : Int) + 2 := IntWalk.i64_in _ (by omega)
  go_region_held3 (fun w' => w'.cell? ⟨b, off + 2, none⟩ = some (.int .u8 kind.toNat)) (first | go_keep | exact (World.cell?_setCell_other _ _ _ _ (hneA 1)).trans ((World.cell?_setCell_other _ _ _ _ (hneA 0)).trans hk3))
    (first | (go_at_call 23; refine (clone_any (some ⟨b, off + 2 + 1, none⟩) _ _ B body _ (HB3.out.keep (w' := W2.drew) (fun _ _ => rfl)) hB2 (by omega)).mono ?_; rintro e w3 ⟨A3, c3, rfl, hown, hb3⟩; have HR3 := Lib.hid (HR2.out.go hb3); have hk3 := (hb3.cell (p := ⟨b, off + 2, none⟩) hbW).trans hk; have HO := Lib.hid hown; have q0 := HR3.out.c0; have q1 := HR3.out.c1; have q2 := HR3.out.f0; have q3 := HR3.out.f1; clear hown hb3))
  rename_i hh
  clear hh
  go_wp2
  have hg := HG.out
  subst hg
  refine bodyPost_ret (v := .tuple #[.agg #[.int .u8 kind.toNat, .slice A3 (v - 1) c3], .int .i64 (v + 4 : Nat), .int .i64 (0 : Nat)]) (by simp [results, Try.results22, go_sem, q0, q1]; omega) rfl ?_
  unfold GivesF
  rw [H.out]
  have hl := HO.out.len
  have hgW : w.heap.size < W2.drew.heap.size := HR2.out.room
  refine ⟨A3, c3, by rw [hl], ?_, (HR3.out.below.setCell (by simp) _).setCell (by simp) _, fun hpos p hp => ?_⟩
  case refine_2 =>
    obtain ⟨g3, hg3, hb3, _⟩ := HO.out.form (by rw [← hl]; exact hpos)
    rw [hg3] at hp
    injection hp with hp
    subst hp
    show w.heap.size ≤ g3
    omega
  rw [hl]
  exact Bytes.of_own (ownsRow_setCell_below (ownsRow_setCell_below HO.out.row (by exact hgW) _) (by exact hgW) _)

theorem get_anyF (a : Option Addr) (n cap B : Nat) (l : Bs) (w : World) (hl : Bytes w B a n l) (hB : B ≤ w.heap.size) (hcap : n ≤ cap) (hn : n ≤ 140737488355328) :
    Calls Try.prog 22 #[.slice a n cap] w (GivesF w (get l)) := by
  by_cases h : n < 2
  · exact get_short a n cap l w hl.1 h
  by_cases h2 : num2 l = 0 ∨ 2049 < num2 l
  · exact get_long a n cap B l w hl hB (by omega) h2
  by_cases h3 : n < num2 l + 4
  · exact get_cut a n cap B l w hl hB (by omega) (by omega) (by omega) h3
  by_cases h4 : sum ((l.drop 2).take (num2 l)) = num2 (l.drop (num2 l + 2))
  · exact get_ok a n cap B l w hl hB hcap hn (by omega) (by omega) (by omega) h4
  · exact get_sum a n cap B l w hl hB hcap (by omega) (by omega) (by omega) h4

/-- .. whatever memory the body lies in -/
def Gives (w : World) (g : Got) (e : Ending) (w' : World) : Prop :=
  ∃ A c, e = .returned (.tuple #[.agg #[.int .u8 g.k.toNat, .slice A g.body.length c], .int .i64 g.n, .int .i64 g.err]) ∧ Bytes w' w'.heap.size A g.body.length g.body ∧ Below w.heap.size w w'

theorem get_any (a : Option Addr) (n cap B : Nat) (l : Bs) (w : World) (hl : Bytes w B a n l) (hB : B ≤ w.heap.size) (hcap : n ≤ cap) (hn : n ≤ 140737488355328) :
    Calls Try.prog 22 #[.slice a n cap] w (Gives w (get l)) :=
  (get_anyF a n cap B l w hl hB hcap hn).mono fun _ _ ⟨A, c, h1, h2, h3, _⟩ => ⟨A, c, h1, h2, h3⟩

end Go.Proofs.Ytlifnjihnppckaa
