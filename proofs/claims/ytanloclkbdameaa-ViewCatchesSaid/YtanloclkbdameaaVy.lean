/- What a view's Next answers. -/
import Derived.Test.YtanloclkbdameaaVx
namespace Go.Proofs.Ytanloclkbdameaa
open Go.RowKit

section
variable {w w' : World} {gr gk room g p s : Nat} {L : Bs}

theorem vnext_no (hR : Ring w gr gk room L) (h : Bx g w (VV p s)) (rm most strikes : Int) (hp : p < L.length - room) (hno : strikes ≤ s ∨ rm < 17) :
    Calls Try.prog 33 #[.pointer (some ⟨g, 0, none⟩), .pointer (some ⟨gr, 0, none⟩), .int .i64 rm, .int .i64 most, .int .i64 strikes] w (fun e w' => e = .returned (.tuple #[ME, .bool true]) ∧ Only (fun _ => False) w w') := by
  have hg : g < w.heap.size := h.room
  have hfew := hR.few
  have HX := Lib.hid h
  have HRg := Lib.hid hR
  have hb : ∃ b, L.length - room = b := ⟨_, rfl⟩
  obtain ⟨b, hb⟩ := hb
  have HB := Lib.hid (fun W (hW : Ring W gr gk room L) => base_ring hW)
  rw [hb] at HB hp
  have hb2 : b ≤ 1099511627776 := by omega
  have hd : decide ((p : Int) < (b : Int)) = true := by simpa using hp
  clear h hR hb
  go_enter Try.func33, Try.ntmps33
  go_upto_region 1 with fail
  have hA : Only (fun _ => False) w (w.alloc (.cells #[.int .i64 0, .int .i64 0, .int .i64 0, .string ⟨#[]⟩] 63)) := (Only.refl (fun _ => False) w).alloc _
  have HZ := Lib.hid (Bx.new w w.heap.size rfl #[.int .i64 0, .int .i64 0, .int .i64 0, .string ⟨#[]⟩] 63)
  have HX1 := Lib.hid (HX.out.keep hA (fun h => h))
  have HR1 := Lib.hid (HRg.out.keep hA (fun h => h) (fun h => h))
  have HA := Lib.hid hA
  clear hA HX HRg
  generalize w.alloc (.cells #[.int .i64 0, .int .i64 0, .int .i64 0, .string ⟨#[]⟩] 63) = W at *
  have g0 := fun n => (HX1.out.drewN n).cell 0 (.int .i64 p) rfl
  have g1 := HX1.out.cell 0 (.int .i64 p) rfl
  go_quiet (first | (go_at_call 34; exact Calls.quiet_of (HB.out _ (HR1.out.drewN _))) | fail)
  have HX2 := Lib.hid (HX1.out.drewN nq)
  have HR2 := Lib.hid (HR1.out.drewN nq)
  have HZ2 := Lib.hid (HZ.out.drewN nq)
  have HA2 := Lib.hid (HA.out.drewN nq)
  clear g0 g1 HX1 HR1 HZ HA
  generalize W.drewN nq = W2 at *
  go_wp2_with fail
  refine (HB.out _ HR2.out).mono ?_
  rintro e w3 ⟨rfl, m, hw3⟩
  have HX3 := Lib.hid (hw3 ▸ HX2.out.drewN m)
  have HZ3 := Lib.hid (hw3 ▸ HZ2.out.drewN m)
  have HA3 := Lib.hid (hw3 ▸ HA2.out.drewN m)
  clear hw3 HX2 HR2 HZ2 HA2
  go_wp2_with fail
  refine (vmiss_no HX3.out b rm strikes (by omega) hb2 hno).mono ?_
  rintro e w4 ⟨rfl, ho⟩
  have HZ4 := Lib.hid (HZ3.out.keep ho (fun h => h))
  have HA4 := Lib.hid (HA3.out.trans ho)
  clear ho HX3 HZ3 HA3
  have z0 := HZ4.out.cell 0 _ rfl
  have z1 := HZ4.out.cell 1 _ rfl
  have z2 := HZ4.out.cell 2 _ rfl
  have z3 := HZ4.out.cell 3 _ rfl
  have f0 := HZ4.out.free
  have hG : w.heap.size < w4.heap.size := HZ4.out.room
  clear HZ4
  generalize hGe : w.heap.size = G at *
  have n1 : ¬ g = G := by omega
  have HGe := Lib.hid hGe
  clear hGe
  go_wp2
  refine bodyPost_ret (v := .tuple #[ME, .bool true]) (by simp [results, Try.results33, go_sem, z0, z1, z2, z3]) rfl ⟨rfl, ?_⟩
  exact HA4.out.trans' (only4 w4 G _ _ _ _) (fun i hi => .inr (by rw [HGe.out, hi]; exact Nat.le_refl _))

theorem vnext_yes (hR : Ring w gr gk room L) (h : Bx g w (VV p s)) (rm most strikes : Int) (hp : p < L.length - room) (hs : (s : Int) < strikes) (hrm : 17 ≤ rm) (hs2 : s ≤ 1000000) :
    Calls Try.prog 33 #[.pointer (some ⟨g, 0, none⟩), .pointer (some ⟨gr, 0, none⟩), .int .i64 rm, .int .i64 most, .int .i64 strikes] w (fun e w' => e = .returned (.tuple #[MG p (L.length - room), .bool true]) ∧ Bx g w' (VV (L.length - room) (s + 1)) ∧ Only (fun k => k = g) w w') := by
  have hg : g < w.heap.size := h.room
  have hfew := hR.few
  have HX := Lib.hid h
  have HRg := Lib.hid hR
  have hb : ∃ b, L.length - room = b := ⟨_, rfl⟩
  obtain ⟨b, hb⟩ := hb
  have HB := Lib.hid (fun W (hW : Ring W gr gk room L) => base_ring hW)
  rw [hb] at HB hp ⊢
  have hb2 : b ≤ 1099511627776 := by omega
  have hd : decide ((p : Int) < (b : Int)) = true := by simpa using hp
  clear h hR hb
  go_enter Try.func33, Try.ntmps33
  go_upto_region 1 with fail
  have hA : Only (fun _ => False) w (w.alloc (.cells #[.int .i64 0, .int .i64 0, .int .i64 0, .string ⟨#[]⟩] 63)) := (Only.refl (fun _ => False) w).alloc _
  have HZ := Lib.hid (Bx.new w w.heap.size rfl #[.int .i64 0, .int .i64 0, .int .i64 0, .string ⟨#[]⟩] 63)
  have HX1 := Lib.hid (HX.out.keep hA (fun h => h))
  have HR1 := Lib.hid (HRg.out.keep hA (fun h => h) (fun h => h))
  have HA := Lib.hid hA
  clear hA HX HRg
  generalize w.alloc (.cells #[.int .i64 0, .int .i64 0, .int .i64 0, .string ⟨#[]⟩] 63) = W at *
  have g0 := fun n => (HX1.out.drewN n).cell 0 (.int .i64 p) rfl
  have g1 := HX1.out.cell 0 (.int .i64 p) rfl
  go_quiet (first | (go_at_call 34; exact Calls.quiet_of (HB.out _ (HR1.out.drewN _))) | fail)
  have HX2 := Lib.hid (HX1.out.drewN nq)
  have HR2 := Lib.hid (HR1.out.drewN nq)
  have HZ2 := Lib.hid (HZ.out.drewN nq)
  have HA2 := Lib.hid (HA.out.drewN nq)
  clear g0 g1 HX1 HR1 HZ HA
  generalize W.drewN nq = W2 at *
  go_wp2_with fail
  refine (HB.out _ HR2.out).mono ?_
  rintro e w3 ⟨rfl, m, hw3⟩
  have HX3 := Lib.hid (hw3 ▸ HX2.out.drewN m)
  have HZ3 := Lib.hid (hw3 ▸ HZ2.out.drewN m)
  have HA3 := Lib.hid (hw3 ▸ HA2.out.drewN m)
  clear hw3 HX2 HR2 HZ2 HA2
  go_wp2_with fail
  refine (vmiss_yes HX3.out b rm strikes (by omega) hb2 hs hrm hs2).mono ?_
  rintro e w4 ⟨rfl, hx4, ho⟩
  have HX4 := Lib.hid hx4
  have HZ4 := Lib.hid (HZ3.out.keep ho (by show ¬ _ = g; omega))
  have HA4 := Lib.hid ((HA3.out.mono (T := fun k => k = g) (fun _ _ h => h.elim)).trans ho)
  clear ho hx4 HX3 HZ3 HA3
  have z0 := HZ4.out.cell 0 _ rfl
  have z1 := HZ4.out.cell 1 _ rfl
  have z2 := HZ4.out.cell 2 _ rfl
  have z3 := HZ4.out.cell 3 _ rfl
  have f0 := HZ4.out.free
  have hG : w.heap.size < w4.heap.size := HZ4.out.room
  clear HZ4
  generalize hGe : w.heap.size = G at *
  have n1 : ¬ g = G := by omega
  have HGe := Lib.hid hGe
  clear hGe
  go_wp2
  refine bodyPost_ret (v := .tuple #[MG p b, .bool true]) (by simp [results, Try.results33, go_sem, z0, z1, z2, z3]) rfl ⟨rfl, ?_, ?_⟩
  · exact HX4.out.keep (only4 _ G _ _ _ _) (fun e => n1 e)
  · exact HA4.out.trans' (only4 w4 G _ _ _ _) (fun i hi => .inr (by rw [HGe.out, hi]; exact Nat.le_refl _))

theorem vnext_send (hR : Ring w gr gk room L) (h : Bx g w (VV p s)) (rm most strikes : Int) (hrm : rm ≤ 9223372036854775807) (hlo : L.length ≤ p + room) (hhi : p ≤ L.length) :
    Calls Try.prog 33 #[.pointer (some ⟨g, 0, none⟩), .pointer (some ⟨gr, 0, none⟩), .int .i64 rm, .int .i64 most, .int .i64 strikes] w (SendGives p s g (countOf L.length p rm most) ((L.drop p).take (countOf L.length p rm most)) w) := by
  have hg : g < w.heap.size := h.room
  have hfew := hR.few
  have HX := Lib.hid h
  have HRg := Lib.hid hR
  have hb : ∃ b, L.length - room = b := ⟨_, rfl⟩
  obtain ⟨b, hb⟩ := hb
  have HB := Lib.hid (fun W (hW : Ring W gr gk room L) => base_ring hW)
  rw [hb] at HB
  have HBB := Lib.hid hlo
  have hb2 : b ≤ 1099511627776 := by omega
  have hd : decide ((p : Int) < (b : Int)) = false := by simp; omega
  have hd2 : ¬ p < b := by omega
  clear h hR hb
  go_enter Try.func33, Try.ntmps33
  go_upto_region 1 with fail
  have hA : Only (fun _ => False) w (w.alloc (.cells #[.int .i64 0, .int .i64 0, .int .i64 0, .string ⟨#[]⟩] 63)) := (Only.refl (fun _ => False) w).alloc _
  have HZ := Lib.hid (Bx.new w w.heap.size rfl #[.int .i64 0, .int .i64 0, .int .i64 0, .string ⟨#[]⟩] 63)
  have HX1 := Lib.hid (HX.out.keep hA (fun h => h))
  have HR1 := Lib.hid (HRg.out.keep hA (fun h => h) (fun h => h))
  have HA := Lib.hid hA
  clear hA HX HRg
  generalize w.alloc (.cells #[.int .i64 0, .int .i64 0, .int .i64 0, .string ⟨#[]⟩] 63) = W at *
  have g0 := fun n => (HX1.out.drewN n).cell 0 (.int .i64 p) rfl
  have g1 := HX1.out.cell 0 (.int .i64 p) rfl
  go_quiet (first | (go_at_call 34; exact Calls.quiet_of (HB.out _ (HR1.out.drewN _))) | fail)
  have HX2 := Lib.hid (HX1.out.drewN nq)
  have HR2 := Lib.hid (HR1.out.drewN nq)
  have HZ2 := Lib.hid (HZ.out.drewN nq)
  have HA2 := Lib.hid (HA.out.drewN nq)
  clear g0 g1 HX1 HR1 HZ HA
  generalize W.drewN nq = W2 at *
  go_wp2_with fail
  refine (vsend_any HR2.out HX2.out rm most hrm (by have := HBB.out; omega) hhi).mono ?_
  intro e w4 hs
  by_cases h0 : countOf L.length p rm most = 0
  · obtain ⟨rfl, ho⟩ := hs.1 h0
    have HZ4 := Lib.hid (HZ2.out.keep ho (fun h => h))
    have HA4 := Lib.hid (HA2.out.trans ho)
    clear ho hs HX2 HZ2 HA2
    have H0 := Lib.hid h0
    clear h0
    generalize countOf L.length p rm most = cnt at *
    have z0 := HZ4.out.cell 0 _ rfl
    have z1 := HZ4.out.cell 1 _ rfl
    have z2 := HZ4.out.cell 2 _ rfl
    have z3 := HZ4.out.cell 3 _ rfl
    have f0 := HZ4.out.free
    have hG : w.heap.size < w4.heap.size := HZ4.out.room
    clear HZ4
    generalize hGe : w.heap.size = G at *
    have n1 : ¬ g = G := by omega
    have HGe := Lib.hid hGe
    clear hGe
    go_wp2
    refine bodyPost_ret (v := .tuple #[MZ, .bool false]) (by simp [results, Try.results33, go_sem, z0, z1, z2, z3]) rfl ⟨fun _ => ⟨rfl, ?_⟩, fun h => absurd h (by have := H0.out; omega)⟩
    exact HA4.out.trans' (only4 w4 G _ _ _ _) (fun i hi => .inr (by rw [HGe.out, hi]; exact Nat.le_refl _))
  · obtain ⟨rfl, hx4, ho⟩ := hs.2 (by omega)
    have HX4 := Lib.hid hx4
    have HZ4 := Lib.hid (HZ2.out.keep ho (by show ¬ _ = g; omega))
    have HA4 := Lib.hid ((HA2.out.mono (T := fun k => k = g) (fun _ _ h => h.elim)).trans ho)
    clear ho hx4 hs HX2 HZ2 HA2
    have H0 := Lib.hid h0
    clear h0
    generalize countOf L.length p rm most = cnt at *
    generalize (L.drop p).take cnt = t at *
    have z0 := HZ4.out.cell 0 _ rfl
    have z1 := HZ4.out.cell 1 _ rfl
    have z2 := HZ4.out.cell 2 _ rfl
    have z3 := HZ4.out.cell 3 _ rfl
    have f0 := HZ4.out.free
    have hG : w.heap.size < w4.heap.size := HZ4.out.room
    clear HZ4
    generalize hGe : w.heap.size = G at *
    have n1 : ¬ g = G := by omega
    have HGe := Lib.hid hGe
    clear hGe
    go_wp2
    refine bodyPost_ret (v := .tuple #[MD p t, .bool true]) (by simp [results, Try.results33, go_sem, z0, z1, z2, z3]) rfl ⟨fun h => absurd h H0.out, fun _ => ⟨rfl, ?_, ?_⟩⟩
    · exact HX4.out.keep (only4 _ G _ _ _ _) (fun e => n1 e)
    · exact HA4.out.trans' (only4 w4 G _ _ _ _) (fun i hi => .inr (by rw [HGe.out, hi]; exact Nat.le_refl _))
end

end Go.Proofs.Ytanloclkbdameaa
