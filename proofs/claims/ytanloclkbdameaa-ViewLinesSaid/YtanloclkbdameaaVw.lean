/- What a view's calls answer: start, New, At, Strikes, miss, send, Next. -/
import Derived.Test.YtanloclkbdameaaRingx
import Derived.Test.YtanloclkbdameaaMsgz
import Derived.Test.YtanloclkbdameaaBx
import Derived.Deep.RegionHeld
import Derived.RegionTactic
import Derived.Deep.DeepCutAuto
namespace Go.Proofs.Ytanloclkbdameaa
open Go.RowKit

/-- where a viewer begins of n bytes, of which so many are kept -/
def startOf (n room : Nat) (back : Int) : Nat := max (n - (max back 0).toNat) (n - room)

/-- a view: how far, how often bytes were missed -/
abbrev VV (p s : Nat) : Array Value := #[.int .i64 p, .int .i64 s]

section
variable {w w' : World} {gr gk room g p s : Nat} {L : Bs}

theorem Ring.below (h : Ring w gr gk room L) {B : Nat} (hb : Below B w w') (h1 : gr < B) (h2 : gk < B) : Ring w' gr gk room L := by
  obtain ⟨c, h, hI⟩ := h
  exact ⟨c, ⟨h.len, h.pos, h.small, h.few, h.ne, (hb.block gr h1).trans h.head, (hb.block gk h2).trans h.body⟩, hI⟩

theorem start_any (h : Ring w gr gk room L) (back : Int) (hb : back ≤ 9223372036854775807) :
    Calls Try.prog 49 #[.pointer (some ⟨gr, 0, none⟩), .int .i64 back] w fun e w' => e = .returned (.int .i64 (startOf L.length room back : Nat)) ∧ ∃ m, w' = w.drewN m := by
  have HS := Lib.hid (show ((startOf L.length room back : Nat) : Int) = max ((L.length : Int) - max back 0) ((L.length - room : Nat) : Int) from by unfold startOf; omega)
  have HE := Lib.hid (end_ring h)
  have HB := Lib.hid (base_ring h)
  have hN := h.few
  generalize startOf L.length room back = s at *
  obtain ⟨n, hn⟩ : ∃ n, L.length = n := ⟨_, rfl⟩
  obtain ⟨b, hbb⟩ : ∃ b, n - room = b := ⟨_, rfl⟩
  rw [hn, hbb] at HS HB
  rw [hn] at HE hN
  have hbn : b ≤ n := by omega
  clear h hn hbb
  rcases (show back < 0 ∨ (0 ≤ back ∧ (n : Int) - back < b) ∨ (0 ≤ back ∧ (b : Int) ≤ (n : Int) - back) by omega) with h1 | ⟨h1, h2⟩ | ⟨h1, h2⟩
  all_goals
    go_enter Try.func49, Try.ntmps49
    go_wp2_with fail
    refine HE.out.mono ?_
    rintro e w1 ⟨rfl, rfl⟩
    go_wp2_with fail
    refine HB.out.mono ?_
    rintro e w1 ⟨rfl, m, rfl⟩
    go_wp2
    go_ret
    exact ⟨ret_int (by have := HS.out; omega), m, rfl⟩

theorem vnew_no (h : Ring w gr gk room L) (back : Int) (hb : back ≤ 9223372036854775807) :
    Calls Try.prog 30 #[.pointer (some ⟨gr, 0, none⟩), .int .i64 back, .bool false] w fun e w' =>
      e = .returned (.pointer (some ⟨w.heap.size, 0, none⟩)) ∧ Bx w.heap.size w' (VV (startOf L.length room back) 0) ∧ Only (fun _ => False) w w' := by
  have HS := Lib.hid (start_any h back hb)
  clear h
  generalize startOf L.length room back = s at *
  go_enter Try.func30, Try.ntmps30
  go_wp2_with fail
  refine HS.out.mono ?_
  rintro e w1 ⟨rfl, m, rfl⟩
  go_wp2
  go_ret
  exact ⟨rfl, Bx.new (w.drewN m) w.heap.size rfl _ _, ((Only.refl (fun _ => False) w).drewN m).alloc _⟩

theorem vnew_yes (h : Ring w gr gk room L) (back : Int) (hb : back ≤ 9223372036854775807) :
    Calls Try.prog 30 #[.pointer (some ⟨gr, 0, none⟩), .int .i64 back, .bool true] w fun e w' =>
      ∃ r, e = .returned (.pointer (some ⟨w.heap.size, 0, none⟩)) ∧ IsLine (L.length - room) L (startOf L.length room back : Nat) r ∧ Bx w.heap.size w' (VV r 0) ∧ Only (fun _ => False) w w' := by
  have HS := Lib.hid (start_any h back hb)
  have HR := Lib.hid h
  clear h
  generalize startOf L.length room back = s at *
  go_enter Try.func30, Try.ntmps30
  go_wp2_with fail
  refine HS.out.mono ?_
  rintro e w1 ⟨rfl, m, rfl⟩
  go_upto_region 3 with fail
  have hO := ((Only.refl (fun _ => False) w).drewN m).alloc (.cells #[.int .i64 s, .int .i64 0] 81)
  have HB := Lib.hid (Bx.new (w.drewN m) w.heap.size rfl #[.int .i64 s, .int .i64 0] 81)
  have HR1 := Lib.hid (HR.out.keep hO (fun h => h) (fun h => h))
  have HO := Lib.hid hO
  clear hO HR HS
  generalize (w.drewN m).alloc (.cells #[.int .i64 s, .int .i64 0] 81) = W at *
  have hc := HB.out.cell 0 (.int .i64 s) rfl
  go_wp2_with fail
  refine (line_ring HR1.out s).mono ?_
  rintro e w2 ⟨r, rfl, hl, m2, rfl⟩
  have hx := HB.out.drewN m2
  have hf := hx.free 0
  have hc := hx.cell 0 (.int .i64 s) rfl
  have HX := Lib.hid (hx.set 0 (.int .i64 r))
  have HO2 := Lib.hid (HO.out.drewN m2)
  have HL := Lib.hid hl
  clear hx hl HB HR1 HO
  generalize W.drewN m2 = W2 at *
  go_wp2
  go_ret
  exact ⟨r, rfl, HL.out, HX.out, HO2.out.trans' (Bx.only w.heap.size W2 0 (.int .i64 r)) (fun i hi => .inr (by omega))⟩

theorem vat_any (h : Bx g w (VV p s)) : Calls Try.prog 31 #[.pointer (some ⟨g, 0, none⟩)] w fun e w' => e = .returned (.int .i64 p) ∧ w = w' := by
  have hc := h.cell 0 (.int .i64 p) rfl
  clear h
  go_enter Try.func31, Try.ntmps31
  go_wp2
  go_ret
  exact ⟨rfl, rfl⟩

theorem vstrikes_any (h : Bx g w (VV p s)) : Calls Try.prog 36 #[.pointer (some ⟨g, 0, none⟩)] w fun e w' => e = .returned (.int .i64 s) ∧ w = w' := by
  have hc := h.cell 1 (.int .i64 s) rfl
  clear h
  go_enter Try.func36, Try.ntmps36
  go_wp2
  go_ret
  exact ⟨rfl, rfl⟩
end

/-- a message: Gap, Evicted, Data, none -/
abbrev MG (p b : Nat) : Value := .agg #[.int .i64 7, .int .i64 p, .int .i64 b, .string (str [])]
abbrev ME : Value := .agg #[.int .i64 12, .int .i64 0, .int .i64 0, .string (str [])]
abbrev MD (p : Nat) (t : Bs) : Value := .agg #[.int .i64 6, .int .i64 p, .int .i64 0, .string (str t)]
abbrev MZ : Value := .agg #[.int .i64 0, .int .i64 0, .int .i64 0, .string (str [])]

theorem rt_gap {p b : Nat} (h1 : p ≤ 1099511627776) (h2 : b ≤ 1099511627776) : Ms.rt 7 p b 0 = true := by
  rw [Ms.rt_iff]
  refine ⟨by decide, ?_, ?_, by decide⟩ <;> simp [Ms.okN, Ms.nu] <;> omega

section
variable {w w' : World} {gr gk room g p s : Nat} {L : Bs}

theorem only4 (w : World) (G : Nat) (a b c d : Value) : Only (fun k => k = G) w ((((w.setCell ⟨G, 0, none⟩ a).setCell ⟨G, 1, none⟩ b).setCell ⟨G, 2, none⟩ c).setCell ⟨G, 3, none⟩ d) :=
  ((((Only.refl (fun k => k = G) w).setCell (p := ⟨G, 0, none⟩) rfl a).setCell (p := ⟨G, 1, none⟩) rfl b).setCell (p := ⟨G, 2, none⟩) rfl c).setCell (p := ⟨G, 3, none⟩) rfl d

/-- the two messages that miss lays, in memory -/
def mz : Obj := .cells #[.int .i64 0, .int .i64 0, .int .i64 0, .string ⟨#[]⟩] 63
def mg (p b : Nat) : Obj := .cells #[.int .i64 7, .int .i64 p, .int .i64 b, .string ⟨#[]⟩] 63

theorem vmiss_no (h : Bx g w (VV p s)) (b : Nat) (room strikes : Int) (h1 : p ≤ 1099511627776) (h2 : b ≤ 1099511627776) (hno : strikes ≤ s ∨ room < 17) :
    Calls Try.prog 53 #[.pointer (some ⟨g, 0, none⟩), .int .i64 b, .int .i64 room, .int .i64 strikes] w fun e w' => e = .returned ME ∧ Only (fun _ => False) w w' := by
  have hc0 := h.cell 0 (.int .i64 p) rfl
  have hc1 := h.cell 1 (.int .i64 s) rfl
  have hg : g < w.heap.size := h.room
  have HR := Lib.hid (rt_gap h1 h2)
  have HO := Lib.hid (((Only.refl (fun _ => False) w).alloc mz).alloc (mg p b))
  clear h h1 h2
  by_cases hs : strikes ≤ s
  · have hd : decide ((s : Int) ≥ strikes) = true := by simpa using hs
    clear hno
    go_enter Try.func53, Try.ntmps53
    go_wp2
    refine bodyPost_ret (v := ME) (by simp [results, Try.results53, go_sem]; rfl) rfl ⟨rfl, ?_⟩
    exact ((Only.refl (fun _ => False) w).alloc _).alloc _
  · have hd : decide ((s : Int) ≥ strikes) = false := by simp; omega
    have hr : room < 17 := by omega
    go_enter Try.func53, Try.ntmps53
    go_wp2_with fail
    have hz : Bx w.heap.size ((w.alloc mz).alloc (mg p b)) #[.int .i64 0, .int .i64 0, .int .i64 0, .string ⟨#[]⟩] := (Bx.new w w.heap.size rfl _ _).keep ((Only.refl (fun _ => False) _).alloc _) (fun h => h)
    have hw : w.heap.size + 2 = ((w.alloc mz).alloc (mg p b)).heap.size := by simp
    refine (size_yes 7 p b [] 17 rfl ((w.alloc mz).alloc (mg p b)) HR.out).mono ?_
    rintro e w2 ⟨rfl, hb2⟩
    have HZ := Lib.hid (hz.go hb2 (by omega))
    have HO2 := Lib.hid (HO.out.trans (only_of_below hb2))
    have z0 := HZ.out.cell 0 _ rfl
    have z1 := HZ.out.cell 1 _ rfl
    have z2 := HZ.out.cell 2 _ rfl
    have z3 := HZ.out.cell 3 _ rfl
    have f0 := HZ.out.free
    have hG : w.heap.size < w2.heap.size := by have := hb2.size; omega
    clear hz hb2 HZ HO hc0 hc1
    generalize hGe : w.heap.size = G at *
    have HGe := Lib.hid hGe
    clear hGe
    go_wp2
    refine bodyPost_ret (v := ME) (by simp [results, Try.results53, go_sem, z0, z1, z2, z3]; rfl) rfl ⟨rfl, ?_⟩
    exact HO2.out.trans' (only4 w2 G _ _ _ _) (fun i hi => .inr (by rw [HGe.out, hi]; exact Nat.le_refl _))

theorem vmiss_yes (h : Bx g w (VV p s)) (b : Nat) (room strikes : Int) (h1 : p ≤ 1099511627776) (h2 : b ≤ 1099511627776) (hs : (s : Int) < strikes) (hr : 17 ≤ room) (hs2 : s ≤ 1000000) :
    Calls Try.prog 53 #[.pointer (some ⟨g, 0, none⟩), .int .i64 b, .int .i64 room, .int .i64 strikes] w fun e w' => e = .returned (MG p b) ∧ Bx g w' (VV b (s + 1)) ∧ Only (fun k => k = g) w w' := by
  have hc0 := h.cell 0 (.int .i64 p) rfl
  have hc1 := h.cell 1 (.int .i64 s) rfl
  have hg : g < w.heap.size := h.room
  have HR := Lib.hid (rt_gap h1 h2)
  have HO := Lib.hid (((Only.refl (fun _ => False) w).alloc mz).alloc (mg p b))
  have HX := Lib.hid h
  clear h h1 h2
  have hd : decide ((s : Int) ≥ strikes) = false := by simp; omega
  go_enter Try.func53, Try.ntmps53
  go_wp2_with fail
  have hz : Bx w.heap.size ((w.alloc mz).alloc (mg p b)) #[.int .i64 0, .int .i64 0, .int .i64 0, .string ⟨#[]⟩] := (Bx.new w w.heap.size rfl _ _).keep ((Only.refl (fun _ => False) _).alloc _) (fun h => h)
  have hm : Bx (w.heap.size + 1) ((w.alloc mz).alloc (mg p b)) #[.int .i64 7, .int .i64 p, .int .i64 b, .string ⟨#[]⟩] := Bx.new (w.alloc mz) _ (by simp) _ _
  have hw : w.heap.size + 2 = ((w.alloc mz).alloc (mg p b)).heap.size := by simp
  refine (size_yes 7 p b [] 17 rfl ((w.alloc mz).alloc (mg p b)) HR.out).mono ?_
  rintro e w2 ⟨rfl, hb2⟩
  have HZ := Lib.hid (hz.go hb2 (by omega))
  have HM := Lib.hid (hm.go hb2 (by omega))
  have HO2 := Lib.hid (HO.out.trans (only_of_below hb2))
  have HX2 := Lib.hid (HX.out.keep HO2.out (fun h => h))
  have z0 := HZ.out.cell 0 _ rfl
  have z1 := HZ.out.cell 1 _ rfl
  have z2 := HZ.out.cell 2 _ rfl
  have z3 := HZ.out.cell 3 _ rfl
  have f0 := HZ.out.free
  have m0 := HM.out.cell 0 _ rfl
  have m1 := HM.out.cell 1 _ rfl
  have m2 := HM.out.cell 2 _ rfl
  have m3 := HM.out.cell 3 _ rfl
  have g0 := HX2.out.cell 0 (.int .i64 p) rfl
  have g1 := HX2.out.cell 1 (.int .i64 s) rfl
  have f1 := HX2.out.free
  have hG : w.heap.size < w2.heap.size := by have := hb2.size; omega
  clear hz hm hb2 HZ HM HO HX hc0 hc1
  generalize hGe : w.heap.size = G at *
  have n1 : ¬ g = G := by omega
  have n2 : ¬ g = G + 1 := by omega
  have HGe := Lib.hid hGe
  clear hGe
  go_wp2
  refine bodyPost_ret (v := MG p b) (by simp [results, Try.results53, go_sem, z0, z1, z2, z3]; rfl) rfl ⟨rfl, ?_, ?_⟩
  · exact ((HX2.out.set 0 (.int .i64 b)).set 1 (.int .i64 (s + 1 : Nat))).keep (only4 _ G _ _ _ _) (fun e => n1 e)
  · exact (HO2.out.mono (T := fun k => k = g) (fun _ _ h => h.elim)).trans' ((((Only.refl (fun k => k = g ∨ k = G) w2).setCell (p := ⟨g, 0, none⟩) (.inl rfl) _).setCell (p := ⟨g, 1, none⟩) (.inl rfl) _).trans ((only4 _ G _ _ _ _).mono fun k _ hk => .inr hk))
      (fun i hi => hi.imp (fun h => h) (fun h => by rw [HGe.out, h]; exact Nat.le_refl _))
end

end Go.Proofs.Ytanloclkbdameaa
