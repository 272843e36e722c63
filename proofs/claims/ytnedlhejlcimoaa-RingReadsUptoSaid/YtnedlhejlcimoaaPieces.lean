/- Pieces of bytes that came in as a list: what the laws' own helpers join and few answer. -/
import Derived.Test.YtnedlhejlcimoaaRingx
namespace Go.Proofs.Ytnedlhejlcimoaa
open Go.RowKit
open Rg

/-- the slice (a, n) holds the pieces T, all below block B -/
structure Pieces (w : World) (B : Nat) (a : Option Addr) (n : Nat) (A : Nat → Option Addr) (Ln Cp : Nat → Nat) (T : Nat → Bs) : Prop where
  outer : 0 < n → ∃ b off, a = some ⟨b, off, none⟩ ∧ b < B ∧ ∀ r, r < n → w.cell? ⟨b, off + r, none⟩ = some (.slice (A r) (Ln r) (Cp r))
  inner : ∀ r, r < n → Bytes w B (A r) (Ln r) (T r) ∧ Ln r ≤ Cp r

theorem Pieces.below {w w' : World} {B n : Nat} {a : Option Addr} {A : Nat → Option Addr} {Ln Cp : Nat → Nat} {T : Nat → Bs} (h : Pieces w B a n A Ln Cp T) (hb : Below B w w') : Pieces w' B a n A Ln Cp T :=
  ⟨fun hn => by
    obtain ⟨b, off, e, hlt, hc⟩ := h.outer hn
    exact ⟨b, off, e, hlt, fun r hr => (hb.cell (p := ⟨b, off + r, none⟩) hlt).trans (hc r hr)⟩,
   fun r hr => ⟨(h.inner r hr).1.below hb, (h.inner r hr).2⟩⟩

theorem Bytes.only1 {S : Nat → Prop} {w w' : World} {B n : Nat} {x : Option Addr} {l : Bs} (hl : Bytes w B x n l) (h : Only S w w') (hs : ∀ p, x = some p → ¬ S p.block) : Bytes w' B x n l :=
  ⟨hl.1, fun hn => by
    obtain ⟨q, off, e, hlt, hc⟩ := hl.2 hn
    exact ⟨q, off, e, hlt, fun i hi => (h.cell (p := ⟨q, off + i, none⟩) (cell_lt (hc i hi)) (by simpa using hs _ e)).trans (hc i hi)⟩⟩

theorem Ring.below {w w' : World} {gr gk room : Nat} {L : Bs} (h : Ring w gr gk room L) (hb : Below w.heap.size w w') : Ring w' gr gk room L :=
  h.keep (S := fun _ => False) ⟨hb.os, hb.tape, hb.output, hb.size, fun k hk _ => hb.block k hk⟩ (fun h => h) (fun h => h)

/-- the first r pieces as one -/
def cat (T : Nat → Bs) : Nat → Bs
  | 0 => []
  | r + 1 => cat T r ++ T r

theorem cat_mono (T : Nat → Bs) {r n : Nat} (h : r ≤ n) : (cat T r).length ≤ (cat T n).length := by
  induction n with
  | zero => obtain rfl : r = 0 := by omega
            exact Nat.le_refl _
  | succ n ih =>
    rcases Nat.lt_or_ge r (n + 1) with h' | h'
    · have := ih (by omega)
      simp only [cat, List.length_append]
      omega
    · obtain rfl : r = n + 1 := by omega
      exact Nat.le_refl _

theorem cat_len (T : Nat → Bs) {r n : Nat} (h : r < n) : (cat T r).length + (T r).length ≤ (cat T n).length := by
  have := cat_mono T (show r + 1 ≤ n from h)
  simpa [cat] using this

theorem own_cap {w : World} {base e n : Nat} {v : Value} {xs : List Value} (h : w.ownsRow base e 1 v n xs) : ∃ a c, v = .slice a n c ∧ n ≤ c ∧ ∀ p, a = some p → base ≤ p.block ∧ p.block < w.heap.size := by
  rcases h.2 with ⟨rfl, rfl⟩ | ⟨g, cap, cur, rfl, hb, hg, hc, _⟩
  · exact ⟨none, 0, rfl, Nat.le_refl _, fun p hp => by cases hp⟩
  · exact ⟨_, cap, rfl, hc, fun p hp => by injection hp with hp; subst hp; exact ⟨hb, block_lt hg⟩⟩

theorem own_keep {S : Nat → Prop} {w w' : World} {base e n : Nat} {v : Value} {xs : List Value} (h : w.ownsRow base e 1 v n xs) (hO : Only S w w') (hS : ∀ q, base ≤ q → ¬ S q) : w'.ownsRow base e 1 v n xs := by
  refine ⟨h.1, ?_⟩
  rcases h.2 with h0 | ⟨g, cap, cur, rfl, hb, hg, hrest⟩
  · exact .inl h0
  · exact .inr ⟨g, cap, cur, rfl, hb, (hO.block g (block_lt hg) (hS g hb)).trans hg, hrest⟩

theorem own_drewN {w : World} {base e n : Nat} {v : Value} {xs : List Value} (h : w.ownsRow base e 1 v n xs) (m : Nat) : (w.drewN m).ownsRow base e 1 v n xs :=
  own_keep h ((Only.refl (fun _ => False) w).drewN m) (fun _ _ h => h)

theorem byte_info' : ∃ i, Try.prog.info? 5 = some i ∧ i.zero = some (.int .u8 0) ∧ i.size = 1 ∧ i.bytes = 1 := byte_info

theorem join_any {B n cap : Nat} {a : Option Addr} {A : Nat → Option Addr} {Ln Cp : Nat → Nat} {T : Nat → Bs} (w : World) (h : Pieces w B a n A Ln Cp T) (hB : B ≤ w.heap.size) (hn : n ≤ 1099511627776) (hs : (cat T n).length ≤ 1099511627776) :
    Calls Try.prog 18 #[.slice a n cap] w fun e w' => ∃ x c, e = .returned (.slice x (cat T n).length c) ∧ (cat T n).length ≤ c ∧ Bytes w' w'.heap.size x (cat T n).length (cat T n) ∧
      (∀ p, x = some p → w.heap.size ≤ p.block ∧ p.block < w'.heap.size) ∧ Below w.heap.size w w' := by
  obtain ⟨i0, hi0, hz0, hz1, hz2⟩ := byte_info
  have HP := Lib.hid h
  have HS := Lib.hid hs
  clear h hs
  go_enter Try.func18, Try.ntmps18
  go_wp2
  go_loopw [3, 9] (fun v i wr => ∃ k : Nat, k ≤ n ∧ i = .int .i64 k ∧ wr.ownsRow w.heap.size 5 1 v (cat T k).length ((cat T k).map by8) ∧ Below w.heap.size w wr) (fun _ i _ => n - (intOf i).toNat)
  case atStart => exact ⟨0, by omega, rfl, own_empty w 5 _ (Nat.le_refl _), (Below.refl _ _).alloc (Nat.le_refl _) _⟩
  case round =>
    obtain ⟨k, hk, rfl, hown, hbr⟩ := hrel
    have HO := Lib.hid hown
    have HB := Lib.hid hbr
    have hsz := hbr.size
    clear hown hbr
    by_cases hlt : k < n
    · obtain ⟨b, off, rfl, hbB, hc⟩ := (HP.out.below (HB.out.mono hB)).outer (by omega)
      have hck := hc k hlt
      clear hc
      have hin := (HP.out.below (HB.out.mono hB)).inner k hlt
      have HIn := Lib.hid hin
      clear hin
      have hlen : (cat T k).length + Ln k ≤ 1099511627776 := by
        have h1 := cat_len T hlt
        have h2 := HS.out
        have h3 := HIn.out.1.1
        omega
      go_wp2_with (first
        | (at_builtin
           refine wpList_app rfl (.tmp 13) (.tmp 14) _ rfl w.heap.size 5 i0 _ Try.underlying27 hi0 hz0 hz1 hz2 rfl _ (cat T k).length (cat T k) rfl HO.out B (A k) (Ln k) (Cp k) (T k) rfl HIn.out.1 (by omega) hsz ?_
           intro v1 w1 hown1 hg1 hat1
           have hb1 : Below w.heap.size w w1 := HB.out.grown hg1 hsz (by
             intro q hq
             obtain ⟨x, c, he, _, hxp⟩ := own_cap HO.out
             have hq' : Value.ownBlock (.slice x (cat T k).length c) = some q := by rw [← he]; exact hq
             rcases x with _ | p
             · simp [Value.ownBlock] at hq'
             · simp [Value.ownBlock] at hq'
               have := (hxp p rfl).1
               omega)
           have hown2 : w1.ownsRow w.heap.size 5 1 v1 (cat T (k + 1)).length ((cat T (k + 1)).map by8) := by
             have h3 := HIn.out.1.1
             simp only [cat, List.length_append, h3]
             exact hown1
           have HO1 := Lib.hid hown2
           have HB1 := Lib.hid hb1
           clear hown1 hown2 hb1 hg1 hat1))
      go_roundw
      case rel => exact ⟨k + 1, by omega, by go_num, HO1.out, HB1.out⟩
      case measure => simp [intOf]; omega
    · obtain rfl : k = n := by omega
      obtain ⟨x, c, rfl, hxc, hxp⟩ := own_cap HO.out
      go_wp2
      go_ret
      exact ⟨x, c, rfl, hxc, Bytes.of_own HO.out, hxp, HB.out⟩

theorem room01_any (a : Int) (w : World) : Calls Try.prog 14 #[.int .i64 a] w fun e w' => e = .returned (.int .i64 (roomOf a)) ∧ w = w' := by
  rcases (show a < 1 ∨ (¬ a < 1 ∧ 65536 < a) ∨ (¬ a < 1 ∧ ¬ 65536 < a) by omega) with h | ⟨h1, h2⟩ | ⟨h1, h2⟩
  · have hr : ((roomOf a : Nat) : Int) = 1 := by unfold roomOf; omega
    rw [hr]
    clear hr
    go_enter Try.func14, Try.ntmps14
    go_wp2
    go_ret
    exact ⟨rfl, rfl⟩
  · have hr : ((roomOf a : Nat) : Int) = 65536 := by unfold roomOf; omega
    rw [hr]
    clear hr
    go_enter Try.func14, Try.ntmps14
    go_wp2
    go_ret
    exact ⟨rfl, rfl⟩
  · have hr : ((roomOf a : Nat) : Int) = a := by unfold roomOf; omega
    rw [hr]
    clear hr
    go_enter Try.func14, Try.ntmps14
    go_wp2
    go_ret
    exact ⟨rfl, rfl⟩

def fewB (T : Nat → Bs) (n : Nat) : Bool := decide (n ≤ 60) && decide ((cat T n).length ≤ 2000)

theorem few_any {B n cap : Nat} {a : Option Addr} {A : Nat → Option Addr} {Ln Cp : Nat → Nat} {T : Nat → Bs} (w : World) (h : Pieces w B a n A Ln Cp T) (hB : B ≤ w.heap.size) (hn : n ≤ 1099511627776) (hs : (cat T n).length ≤ 1099511627776) :
    Calls Try.prog 11 #[.slice a n cap] w fun e w' => e = .returned (.bool (fewB T n)) ∧ Below w.heap.size w w' := by
  have HJ := Lib.hid (join_any (cap := cap) w h hB hn hs)
  clear h
  by_cases h60 : n ≤ 60
  · have hd : decide ((n : Int) ≤ 60) = true := by simp; omega
    go_enter Try.func11, Try.ntmps11
    go_wp2_with fail
    refine HJ.out.mono ?_
    rintro e w' ⟨x, c, rfl, _, _, _, hb⟩
    go_wp2
    go_ret
    refine ⟨ret_bool ?_, hb⟩
    unfold fewB
    simp [h60]
    omega
  · have hd : decide ((n : Int) ≤ 60) = false := by simp; omega
    go_enter Try.func11, Try.ntmps11
    go_wp2
    go_ret
    refine ⟨ret_bool ?_, Below.refl _ _⟩
    simp [fewB, h60]

end Go.Proofs.Ytnedlhejlcimoaa
