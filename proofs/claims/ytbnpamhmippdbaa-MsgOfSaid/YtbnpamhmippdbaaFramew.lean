/- What the frame's functions answer: contracts of bytes.Clone, frame.Right, frame.putNumber, frame.Put, frame.number, frame.Get. -/
import Derived.Test.YtbnpamhmippdbaaBase
import Derived.Test.YtbnpamhmippdbaaSumw
import Derived.Test.YtbnpamhmippdbaaFr
import Derived.Deep.QuietTactic
import Derived.BigQuiet
import Derived.Deep.RegionWith
import Derived.StillTailTactics
import Derived.Lib.SliceRun
import Derived.Lib.SlBytesConst
import Derived.Laws.MakeOwn
namespace Go.Proofs.Ytbnpamhmippdbaa
open Go.RowKit
open Fr

theorem clone_any (a : Option Addr) (n cap B : Nat) (l : Bs) (w : World) (hl : Bytes w B a n l) (hB : B ≤ w.heap.size) (hn : n ≤ 140737488355328) :
    Calls Try.prog 20 #[.slice a n cap] w fun e w' => ∃ A c, e = .returned (.slice A n c) ∧ Own w.heap.size w' A n c l ∧ Below w.heap.size w w' := by
  have hnil := fun (w : World) (a : Option Addr) (n c : Nat) => Lib.run_eql_slice_nil (P := Try.prog) w 28 5 a n c 0 0 Try.underlying28
  have HL := Lib.hid hl
  clear hl
  rcases a with _ | ad
  · obtain rfl : n = 0 := by
      rcases Nat.eq_zero_or_pos n with h | h
      · exact h
      · obtain ⟨_, _, h', _⟩ := HL.out.2 h
        cases h'
    obtain rfl : l = [] := List.eq_nil_of_length_eq_zero HL.out.1
    go_enter Try.func20, Try.ntmps20
    go_wp2
    go_ret
    exact ⟨none, 0, rfl, ⟨⟨rfl, .inl ⟨rfl, rfl⟩⟩, Nat.le_refl _⟩, Below.refl _ _⟩
  · go_enter Try.func20, Try.ntmps20
    go_wp2_with (first
      | (at_builtin
         refine wpList_put rfl (.tmp 5) (.tmp 6) rfl w.heap.size (some ⟨w.heap.size, 0, none⟩) 0 0 [] rfl (own_new w _ (Nat.le_refl _)) B (some ad) n cap l rfl (HL.out.below ((Below.refl _ _).alloc hB _)) (by omega) (by simp) ?_
         intro A2 c2 w1 hown hbel))
    rw [Nat.zero_add, List.nil_append] at hown
    have HO := Lib.hid hown
    have HB := Lib.hid hbel
    clear hown hbel
    go_ret
    exact ⟨_, _, rfl, HO.out, Below.trans ((Below.refl _ _).alloc (Nat.le_refl _) _) HB.out⟩

theorem right_yes (k : BitVec 8) (a : Option Addr) (n c : Nat) (w : World) (hn : n ≤ 2048) :
    Calls Try.prog 24 #[.agg #[.int .u8 k.toNat, .slice a n c]] w fun e w' => e = .returned (.bool true) ∧ Below w.heap.size w w' := by
  go_enter Try.func24, Try.ntmps24
  go_wp2
  go_ret
  exact ⟨ret_bool (by simp; omega), (Below.refl _ _).alloc (Nat.le_refl _) _⟩

theorem right_no (k : BitVec 8) (a : Option Addr) (n c : Nat) (w : World) (hn : 2048 < n) :
    Calls Try.prog 24 #[.agg #[.int .u8 k.toNat, .slice a n c]] w fun e w' => e = .returned (.bool false) ∧ Below w.heap.size w w' := by
  go_enter Try.func24, Try.ntmps24
  go_wp2
  go_ret
  exact ⟨ret_bool (by simp; omega), (Below.refl _ _).alloc (Nat.le_refl _) _⟩

theorem num_hi (m : Nat) (h : m < 65536) : ((m : Int) / 256) = (BitVec.ofNat 8 (m / 256)).toNat := by
  rw [BitVec.toNat_ofNat]
  omega

theorem num_lo (m : Nat) : ((m : Int) % 256) = (BitVec.ofNat 8 m).toNat := by
  rw [BitVec.toNat_ofNat]
  omega

theorem putn_any (base : Nat) (A : Option Addr) (n c : Nat) (l : Bs) (v : Int) (m : Nat) (w : World) (hv : v = m) (hm : m < 65536) (hown : Own base w A n c l) (hb : base ≤ w.heap.size) (hn : n ≤ 1000000000) :
    Calls Try.prog 25 #[.slice A n c, .int .u16 v] w fun e w' => ∃ A2 c2, e = .returned (.slice A2 (n + 2) c2) ∧ Own base w' A2 (n + 2) c2 (l ++ num m) ∧ Below base w w' := by
  subst hv
  have HO := Lib.hid hown
  clear hown
  go_enter Try.func25, Try.ntmps25
  go_wp2_with (first
    | (at_builtin
       refine wpList_put rfl (.tmp 5) (.tmp 11) rfl base A n c l rfl (HO.out.below ((Below.refl _ _).alloc (Nat.le_refl _) _)) (w.heap.size + 1) (some ⟨w.heap.size, 0, none⟩) 2 2 (num m) rfl (two_new w _ _ _ _ (num_hi m hm) (num_lo m)) (by omega) (by simp; omega) ?_
       intro A2 c2 w1 hown hbel))
  have HO2 := Lib.hid hown
  have HB2 := Lib.hid hbel
  clear hown hbel
  go_ret
  exact ⟨A2, c2, rfl, HO2.out, Below.trans ((Below.refl _ _).alloc hb _) HB2.out⟩

theorem put_no (a : Option Addr) (n cap B : Nat) (l : Bs) (k : BitVec 8) (a2 : Option Addr) (m c2 : Nat) (w : World) (hl : Bytes w B a n l) (hB : B ≤ w.heap.size) (hn : n ≤ 1000000) (hm : 2048 < m) :
    Calls Try.prog 21 #[.slice a n cap, .agg #[.int .u8 k.toNat, .slice a2 m c2]] w fun e w' => ∃ A c, e = .returned (.slice A n c) ∧ Own w.heap.size w' A n c l ∧ Below w.heap.size w w' := by
  have HL := Lib.hid hl
  clear hl
  go_enter Try.func21, Try.ntmps21
  go_wp2_with fail
  refine (right_no k a2 m c2 _ hm).mono ?_
  rintro e w1 ⟨rfl, hb1⟩
  have hb2 := Below.trans ((Below.refl _ _).alloc (Nat.le_refl _) _) (hb1.mono (by simp))
  have HB2 := Lib.hid hb2
  clear hb1 hb2
  go_wp2_with fail
  refine (clone_any a n cap B l _ (HL.out.below (HB2.out.mono hB)) (Nat.le_trans hB HB2.out.size) (by omega)).mono ?_
  rintro e w2 ⟨A, c, rfl, hown, hb3⟩
  have HO := Lib.hid (hown.mono HB2.out.size)
  have HB3 := Lib.hid (Below.trans HB2.out (hb3.mono HB2.out.size))
  clear hown hb3
  go_wp2
  go_ret
  exact ⟨_, _, rfl, HO.out, HB3.out⟩

/-- a struct of a kind and a body that was just laid, and what came behind -/
structure Box (g : Nat) (W w : World) (k : BitVec 8) (a : Option Addr) (n c : Nat) : Prop where
  below : Below (g + 1) W w
  room : g + 1 ≤ w.heap.size
  kind : w.cell? ⟨g, 0, none⟩ = some (.int .u8 k.toNat)
  body : w.cell? ⟨g, 1, none⟩ = some (.slice a n c)

theorem Box.new (w : World) (k : BitVec 8) (a : Option Addr) (n c : Nat) (v : Value) (hv : v = .int .u8 k.toNat) :
    Box w.heap.size (w.alloc (.cells #[v, .slice a n c] 31)) (w.alloc (.cells #[v, .slice a n c] 31)) k a n c :=
  ⟨Below.refl _ _, by simp, by rw [cell_of_row _ _ _ _ _ _ (heap_alloc_new _ _), hv]; rfl, by rw [cell_of_row _ _ _ _ _ _ (heap_alloc_new _ _)]; rfl⟩

theorem Box.go {g : Nat} {W w w' : World} {k : BitVec 8} {a : Option Addr} {n c : Nat} (h : Box g W w k a n c) (hb : Below (g + 1) w w') : Box g W w' k a n c :=
  ⟨Below.trans h.below hb, Nat.le_trans h.room hb.size, (hb.cell (p := ⟨g, 0, none⟩) (by simp)).trans h.kind, (hb.cell (p := ⟨g, 1, none⟩) (by simp)).trans h.body⟩

theorem put_yes (a : Option Addr) (n cap B : Nat) (l : Bs) (k : BitVec 8) (a2 : Option Addr) (m c2 : Nat) (body : Bs) (w : World) (hl : Bytes w B a n l) (hl2 : Bytes w B a2 m body) (hB : B ≤ w.heap.size) (hn : n ≤ 1000000) (hm : m ≤ 2048) :
    Calls Try.prog 21 #[.slice a n cap, .agg #[.int .u8 k.toNat, .slice a2 m c2]] w fun e w' => ∃ A c, e = .returned (.slice A (n + m + 5) c) ∧ Own w.heap.size w' A (n + m + 5) c (l ++ fr k body) ∧ Below w.heap.size w w' := by
  have HL := Lib.hid hl
  have HL2 := Lib.hid hl2
  clear hl hl2
  have hmk := fun W => make_room W ((n : Int) + 5 + (m : Int)) (n + 5 + m) (by omega) (by omega)
  go_enter Try.func21, Try.ntmps21
  go_wp2_with fail
  have hx := Box.new w k a2 m c2 _ rfl
  have hs : (w.alloc (.cells #[.int .u8 k.toNat, .slice a2 m c2] 31)).heap.size = w.heap.size + 1 := by simp
  have hw : Below w.heap.size w (w.alloc (.cells #[.int .u8 k.toNat, .slice a2 m c2] 31)) := (Below.refl _ _).alloc (Nat.le_refl _) _
  generalize hW : w.alloc (.cells #[.int .u8 k.toNat, .slice a2 m c2] 31) = W at *
  generalize hg : w.heap.size = g at *
  have HW := Lib.hid hw
  have HS := Lib.hid hs
  have HL0 := Lib.hid (HL.out.below (hw.mono hB))
  have HL20 := Lib.hid (HL2.out.below (hw.mono hB))
  have HG := Lib.hid hg
  clear hW hg hw hs HL HL2
  refine (right_yes k a2 m c2 _ hm).mono ?_
  rintro e w1 ⟨rfl, hb1⟩
  rw [HS.out] at hb1
  have HX1 := Lib.hid (hx.go hb1)
  have hc := HX1.out.body
  clear hx hb1
  go_wp2_with (first
    | (at_builtin
       refine wpList_put rfl (.tmp 20) (.tmp 21) rfl (g + 1) _ 0 _ [] rfl (made_new w1 (g + 1) HX1.out.room (n + 5 + m) (by omega)) B a n cap l rfl (HL0.out.below ((HX1.out.below.mono (by omega)).alloc (by have := HX1.out.room; omega) _)) (by omega) (by have := HX1.out.room; simp; omega) ?_
       intro A3 c3 w3 hown hbel
       rw [Nat.zero_add, List.nil_append] at hown
       have HO3 := Lib.hid hown
       have HX3 := Lib.hid (HX1.out.go (Below.trans ((Below.refl _ _).alloc HX1.out.room _) hbel))
       have hc0 := HX3.out.kind
       have hc1 := HX3.out.body
       clear hown hbel hc))
  refine (putn_any (g + 1) A3 n c3 l _ (m + 1) w3 (by omega) (by omega) HO3.out HX3.out.room (by omega)).mono ?_
  rintro e w4 ⟨A4, c4, rfl, hown, hbel⟩
  have HO4 := Lib.hid hown
  have HX4 := Lib.hid (HX3.out.go hbel)
  clear hown hbel hc0 hc1
  have hc0 := HX4.out.kind
  have hc1 := HX4.out.body
  go_wp2_with (first
    | (at_builtin
       (with_reducible refine wpList_put rfl (.tmp 32) (.tmp 35) rfl (g + 1) _ _ _ _ rfl (HO4.out.below ((Below.refl _ _).alloc (Nat.le_refl _) _)) _ _ 1 1 [k] rfl (one_new w4 k) (by omega) (by have := HX4.out.room; simp; omega) ?_)
       intro A5 c5 w5 hown hbel
       have HO5 := Lib.hid hown
       have HX5 := Lib.hid (HX4.out.go (Below.trans ((Below.refl _ _).alloc HX4.out.room _) hbel))
       have hc2 := HX5.out.body
       clear hown hbel hc0 hc1)
    | (at_builtin
       refine wpList_put rfl (.tmp 37) (.tmp 39) rfl (g + 1) _ _ _ _ rfl HO5.out _ _ _ _ body rfl (HL20.out.below (HX5.out.below.mono (by omega))) (by omega) HX5.out.room ?_
       intro A6 c6 w6 hown hbel
       have HO6 := Lib.hid hown
       have HX6 := Lib.hid (HX5.out.go hbel)
       obtain ⟨g6, rfl, hg6, hgg6⟩ := hown.form (by omega)
       have hcap := hown.cap
       have hne : ¬ c6 = n + 2 := by omega
       clear hown hbel hc2))
  have hby := HO6.out.bytes.cut2 (cap := c6) (j := n + 2) (by omega) hcap hne
  have hl0 : l.length = n := HL0.out.1
  have hdr : (l ++ num (m + 1) ++ [k] ++ body).drop (n + 2) = k :: body := by
    rw [List.append_assoc, List.append_assoc, ← List.append_assoc l, List.drop_left' (by rw [List.length_append, hl0, num_len])]
    rfl
  rw [hdr, Nat.zero_add] at hby
  have HBy := Lib.hid hby
  have HLen := Lib.hid hl0
  clear hby hdr hl0
  have hnum : n + 2 + 1 + m - (n + 2) ≤ 9223372036854775807 := by omega
  refine (of_any _ _ _ w6.heap.size (k :: body) w6 hnum HBy.out).mono ?_
  rintro e w7 ⟨rfl, rfl⟩
  go_wp2_with fail
  refine (putn_any (g + 1) _ _ c6 _ _ (sum (k :: body)) w6 rfl (sum_lt _) HO6.out HX6.out.room (by omega)).mono ?_
  rintro e w7 ⟨A7, c7, rfl, hown, hbel⟩
  have HO7 := Lib.hid hown
  have HX7 := Lib.hid (HX6.out.go hbel)
  clear hown hbel
  go_wp2
  go_ret
  have hg := HG.out
  subst hg
  have h7 := HO7.out
  have hbl := HL20.out.1
  rw [show n + 2 + 1 + m + 2 = n + m + 5 by omega, show l ++ num (m + 1) ++ [k] ++ body ++ num (sum (k :: body)) = l ++ fr k body by simp [fr, pre, hbl]] at h7
  exact ⟨A7, c7, slice_ret rfl (by omega) rfl, h7.mono (by omega), Below.trans HW.out (HX7.out.below.mono (by omega))⟩

end Go.Proofs.Ytbnpamhmippdbaa
