/- What the head of layer 7's laws answers; pieces one behind the other. -/
import Derived.Test.YtfehlmoghibamaaSpi
import Derived.Lib.SlBytesConst
namespace Go.Proofs.Ytfehlmoghibamaa
open Go.RowKit
open Sp

/-- pieces one behind the other -/
def catq (T : Nat → Bs) : Nat → Bs
  | 0 => []
  | k + 1 => catq T k ++ T k

theorem catq_len (T : Nat → Bs) (L : Nat → Nat) : ∀ k, (∀ r, r < k → (T r).length = L r) → (catq T k).length = totp L k
  | 0, _ => rfl
  | k + 1, h => by
    rw [catq, totp, List.length_append, catq_len T L k (fun r hr => h r (by omega)), h k (by omega)]

theorem totp_mono (L : Nat → Nat) {j k : Nat} (h : j ≤ k) : totp L j ≤ totp L k := by
  induction k with
  | zero => obtain rfl : j = 0 := by omega
            exact Nat.le_refl _
  | succ k ih =>
    rcases Nat.lt_or_ge j (k + 1) with h' | h'
    · exact Nat.le_trans (ih (by omega)) (by rw [totp]; omega)
    · obtain rfl : j = k + 1 := by omega
      exact Nat.le_refl _

/-- bytes that were just laid, whatever mark they bear -/
theorem lit_new (w : World) (l : Bs) (cs : Array Value) (e : TypeId) (fr : Nat × Nat) (hc : cs = (l.map by8).toArray) : Bytes (w.alloc (.cells cs e fr)) (w.heap.size + 1) (some ⟨w.heap.size, 0, none⟩) l.length l := by
  subst hc
  refine ⟨rfl, fun _ => ⟨_, 0, rfl, by omega, fun i hi => ?_⟩⟩
  rw [cell_of_row _ _ _ _ _ _ (heap_alloc_new _ _)]
  simp [by8, List.getElem?_eq_getElem hi]

theorem only_below {w w' : World} (h : Below w.heap.size w w') (S : Nat → Prop) : Only S w w' := ⟨h.os, h.tape, h.output, h.size, fun k hk _ => h.block k hk⟩

theorem below_only {w0 w w' : World} {g : Nat} (h : Below w0.heap.size w0 w) (ho : Only (fun b => b = g) w w') (hg : w0.heap.size ≤ g) : Below w0.heap.size w0 w' :=
  Below.trans h (ho.below h.size (fun k hk e => by omega))

theorem head_any (w : World) : Calls Try.prog 7 #[] w fun e w' => e = .returned (.bool true) ∧ Below w.heap.size w w' := by
  have kc := fun (w : World) (C : Array Value) (n c : Nat) => Lib.run_convert_bytes_const (P := Try.prog) w 29 5 C n c Try.underlying29 Try.underlying5
  go_enter Try.func7, Try.ntmps7
  go_wp2_with fail
  refine (snew_any 4 w).mono ?_
  rintro e w1 ⟨g, rfl, hg, hs, hb1⟩
  have HS := Lib.hid hs
  have HB := Lib.hid hb1
  clear hs hb1
  go_wp2_with fail
  have HL := Lib.hid (lit_new w1 [97#8, 98#8, 99#8, 100#8, 101#8] #[.int .u8 97, .int .u8 98, .int .u8 99, .int .u8 100, .int .u8 101] 5 (5, 6) rfl)
  have hal : Below w1.heap.size w1 (w1.alloc (.cells #[.int .u8 97, .int .u8 98, .int .u8 99, .int .u8 100, .int .u8 101] 5 (5, 6))) := (Below.refl _ _).alloc (Nat.le_refl _) _
  have HS2 := Lib.hid (HS.out.keep (only_below hal (fun _ => False)) (fun h => h))
  have HB2 := Lib.hid (Below.trans HB.out (hal.mono HB.out.size))
  have hgl := HS.out.lt
  have hsz : (w1.alloc (.cells #[.int .u8 97, .int .u8 98, .int .u8 99, .int .u8 100, .int .u8 101] 5 (5, 6))).heap.size = w1.heap.size + 1 := by simp
  clear hal HS HB kc
  generalize w1.alloc (.cells #[.int .u8 97, .int .u8 98, .int .u8 99, .int .u8 100, .int .u8 101] 5 (5, 6)) = w2 at *
  refine (sput_any g ⟨cols 4, 0, 0, 0⟩ 0 (some ⟨w1.heap.size, 0, none⟩) 5 5 _ _ w2 HS2.out (cols_ok 4) (by omega) HL.out (by omega) (fun _ p hp => by injection hp with hp; subst hp; simp; omega)).mono ?_
  rintro e w3 ⟨rfl, ho3, hs3⟩
  have HS3 := Lib.hid hs3
  have HB3 := Lib.hid (below_only HB2.out ho3 hg)
  clear hs3 ho3 HS2 HB2
  go_wp2_with fail
  refine (sat_any g _ 5 w3 HS3.out (Ok.nxts (cols_ok 4) _) (by omega)).mono ?_
  rintro e w4 ⟨rfl, hb4⟩
  have HB4 := Lib.hid (Below.trans HB3.out (hb4.mono HB3.out.size))
  rw [show (nxts ⟨cols 4, 0, 0, 0⟩ [97#8, 98#8, 99#8, 100#8, 101#8]).c = 1 by decide, show (nxts ⟨cols 4, 0, 0, 0⟩ [97#8, 98#8, 99#8, 100#8, 101#8]).r = 1 by decide]
  clear hb4
  go_wp2
  go_ret
  exact ⟨rfl, HB4.out⟩

end Go.Proofs.Ytfehlmoghibamaa
