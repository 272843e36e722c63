/- The law's head: the document's example. -/
import Derived.Test.YtfmombbembiagaaAuh
namespace Go.Proofs.Ytfmombbembiagaa
open Go.RowKit
open Fr Ms Au

/-- two messages that were just laid -/
theorem two_msgs (w : World) (m n : M) (hm : m.t.length ≤ maxLen) (hn : n.t.length ≤ maxLen) :
    MsIn (w.alloc (.cells #[.int .i64 m.k, .int .i64 m.a, .int .i64 m.b, .string (str m.t), .int .i64 n.k, .int .i64 n.a, .int .i64 n.b, .string (str n.t)] 26)) (w.heap.size + 1) (some ⟨w.heap.size, 0, none⟩) [m, n] := by
  refine ⟨fun _ => ⟨w.heap.size, 0, rfl, by omega, fun r x hr => ?_⟩, fun x hx => ?_⟩
  · have hB := Bx.new w _ rfl #[.int .i64 m.k, .int .i64 m.a, .int .i64 m.b, .string (str m.t), .int .i64 n.k, .int .i64 n.a, .int .i64 n.b, .string (str n.t)] 26
    rcases r with _ | _ | r
    · simp at hr
      subst hr
      exact ⟨hB.cell 0 _ rfl, hB.cell 1 _ rfl, hB.cell 2 _ rfl, hB.cell 3 _ rfl⟩
    · simp at hr
      subst hr
      exact ⟨hB.cell 4 _ rfl, hB.cell 5 _ rfl, hB.cell 6 _ rfl, hB.cell 7 _ rfl⟩
    · simp at hr
  · simp at hx
    rcases hx with rfl | rfl
    · exact hm
    · exact hn

def mW : M := ⟨5, 1, 0, [111#8, 119#8, 110#8, 101#8, 114#8]⟩
def mD : M := ⟨6, 1, 0, [98#8]⟩
def mE : M := ⟨6, 0, 0, [97#8, 98#8]⟩
def oAbc : Bs := [97#8, 98#8, 99#8]

theorem wd_first : IsFirst oAbc 0 [mW, mD] 1 := by
  refine .inl ⟨1, mD, rfl, rfl, ?_, by decide⟩
  intro j m hj hm
  obtain rfl : j = 0 := by omega
  simp at hm
  subst hm
  decide
theorem we_first : IsFirst oAbc 0 [mW, mE] (-1) := by
  refine .inr ⟨rfl, ?_⟩
  intro j m hj hm
  rcases j with _ | _ | j
  · simp at hm
    subst hm
    decide
  · simp at hm
    subst hm
    decide
  · exact absurd hj (by simp)

theorem ex_any (w : World) (m n : M) (hm : m.t.length ≤ maxLen) (hn : n.t.length ≤ maxLen) (r : Int) (hF : IsFirst oAbc 0 [m, n] r) :
    Calls Try.prog 5 #[.slice (some ⟨w.heap.size, 0, none⟩) 2 2, .string ⟨#[97, 98, 99]⟩, .int .i64 0]
      (w.alloc (.cells #[.int .i64 m.k, .int .i64 m.a, .int .i64 m.b, .string (str m.t), .int .i64 n.k, .int .i64 n.a, .int .i64 n.b, .string (str n.t)] 26)) fun e w' => e = .returned (.int .i64 r) ∧ Below w.heap.size w w' := by
  have h := two_msgs w m n hm hn
  have hb := (Below.refl w.heap.size w).alloc (Nat.le_refl _) (.cells #[.int .i64 m.k, .int .i64 m.a, .int .i64 m.b, .string (str m.t), .int .i64 n.k, .int .i64 n.a, .int .i64 n.b, .string (str n.t)] 26)
  have hs : (w.alloc (.cells #[.int .i64 m.k, .int .i64 m.a, .int .i64 m.b, .string (str m.t), .int .i64 n.k, .int .i64 n.a, .int .i64 n.b, .string (str n.t)] 26)).heap.size = w.heap.size + 1 := by simp
  generalize w.alloc (.cells #[.int .i64 m.k, .int .i64 m.a, .int .i64 m.b, .string (str m.t), .int .i64 n.k, .int .i64 n.a, .int .i64 n.b, .string (str n.t)] 26) = W at *
  rw [← hs] at h
  refine (first_any h 2 (by simp) oAbc (by decide) 0).mono ?_
  rintro e w' ⟨q, rfl, hq, hb2⟩
  exact ⟨by rw [isFirst_one hq hF], hb.trans (hb2.mono (by omega))⟩

theorem lhd_any (w : World) : Calls Try.prog 4 #[] w fun e w' => e = .returned (.bool true) ∧ Below w.heap.size w w' := by
  go_enter Try.func4, Try.ntmps4
  go_upto_region 4 with fail
  have eW : str mW.t = ⟨#[111, 119, 110, 101, 114]⟩ := rfl
  have eD : str mD.t = ⟨#[98]⟩ := rfl
  have eE : str mE.t = ⟨#[97, 98]⟩ := rfl
  have eO : str oAbc = ⟨#[97, 98, 99]⟩ := rfl
  rw [← eW, ← eD, ← eE]
  have HEO := Lib.hid eO
  clear eW eD eE eO
  have b1 := (Below.refl w.heap.size w).alloc (Nat.le_refl _) (.cells #[.int .i64 5, .int .i64 1, .int .i64 0, .string (str mW.t)] 26)
  have x1 := Bx.new w _ rfl #[.int .i64 5, .int .i64 1, .int .i64 0, .string (str mW.t)] 26
  have s1 : (w.alloc (.cells #[.int .i64 5, .int .i64 1, .int .i64 0, .string (str mW.t)] 26)).heap.size = w.heap.size + 1 := by simp
  generalize w.alloc (.cells #[.int .i64 5, .int .i64 1, .int .i64 0, .string (str mW.t)] 26) = w1 at *
  rw [← s1]
  have b2 := b1.alloc b1.size (.cells #[.int .i64 6, .int .i64 1, .int .i64 0, .string (str mD.t)] 26)
  have x2 := Bx.new w1 _ rfl #[.int .i64 6, .int .i64 1, .int .i64 0, .string (str mD.t)] 26
  have x12 := x1.go ((Below.refl w1.heap.size w1).alloc (Nat.le_refl _) (.cells #[.int .i64 6, .int .i64 1, .int .i64 0, .string (str mD.t)] 26)) (by omega)
  have s2 : (w1.alloc (.cells #[.int .i64 6, .int .i64 1, .int .i64 0, .string (str mD.t)] 26)).heap.size = w1.heap.size + 1 := by simp
  generalize w1.alloc (.cells #[.int .i64 6, .int .i64 1, .int .i64 0, .string (str mD.t)] 26) = w2 at *
  rw [← s2]
  have b3 := b2.alloc b2.size (.cells #[.int .i64 6, .int .i64 0, .int .i64 0, .string (str mE.t)] 26)
  have x3 := Bx.new w2 _ rfl #[.int .i64 6, .int .i64 0, .int .i64 0, .string (str mE.t)] 26
  have x13 := x12.go ((Below.refl w2.heap.size w2).alloc (Nat.le_refl _) (.cells #[.int .i64 6, .int .i64 0, .int .i64 0, .string (str mE.t)] 26)) (by omega)
  have x23 := x2.go ((Below.refl w2.heap.size w2).alloc (Nat.le_refl _) (.cells #[.int .i64 6, .int .i64 0, .int .i64 0, .string (str mE.t)] 26)) (by omega)
  have s3 : (w2.alloc (.cells #[.int .i64 6, .int .i64 0, .int .i64 0, .string (str mE.t)] 26)).heap.size = w2.heap.size + 1 := by simp
  generalize w2.alloc (.cells #[.int .i64 6, .int .i64 0, .int .i64 0, .string (str mE.t)] 26) = w3 at *
  have HX1 := Lib.hid x13
  have HX2 := Lib.hid x23
  have HX3 := Lib.hid x3
  have HB3 := Lib.hid b3
  have HS := Lib.hid (show w.heap.size + 3 = w3.heap.size by omega)
  have HS2 := Lib.hid (show w1.heap.size < w3.heap.size ∧ w2.heap.size < w3.heap.size by omega)
  clear b1 b2 b3 x1 x2 x3 x12 x13 x23 s1 s2 s3
  generalize w1.heap.size = g1 at *
  generalize w2.heap.size = g2 at *
  obtain ⟨g0, hg0⟩ : ∃ g0, w.heap.size = g0 := ⟨_, rfl⟩
  rw [hg0] at HX1 HB3 HS
  simp only [hg0]
  have HG0 := Lib.hid hg0
  clear hg0
  have k0 := HX1.out.cell 0 _ rfl
  have k1 := HX1.out.cell 1 _ rfl
  have k2 := HX1.out.cell 2 _ rfl
  have k3 := HX1.out.cell 3 _ rfl
  have l0 := HX2.out.cell 0 _ rfl
  have l1 := HX2.out.cell 1 _ rfl
  have l2 := HX2.out.cell 2 _ rfl
  have l3 := HX2.out.cell 3 _ rfl
  simp at k0 k1 k2 k3 l0 l1 l2 l3
  have j0 := HX3.out.cell 0 _ rfl
  have j1 := HX3.out.cell 1 _ rfl
  have j2 := HX3.out.cell 2 _ rfl
  have j3 := HX3.out.cell 3 _ rfl
  simp at j0 j1 j2 j3
  clear HEO
  go_wp2_with fail
  refine (ex_any w3 mW mD (by decide) (by decide) 1 wd_first).mono ?_
  rintro e w4 ⟨rfl, hb4⟩
  have HX1b := Lib.hid (HX1.out.go hb4 (by have := HS.out; omega))
  have HX3b := Lib.hid (HX3.out.go hb4 (by have := HS2.out; omega))
  have HB4 := Lib.hid (HB3.out.trans (hb4.mono (by have := HS.out; omega)))
  clear hb4 k0 k1 k2 k3 j0 j1 j2 j3 l0 l1 l2 l3
  have k0 := HX1b.out.cell 0 _ rfl
  have k1 := HX1b.out.cell 1 _ rfl
  have k2 := HX1b.out.cell 2 _ rfl
  have k3 := HX1b.out.cell 3 _ rfl
  have j0 := HX3b.out.cell 0 _ rfl
  have j1 := HX3b.out.cell 1 _ rfl
  have j2 := HX3b.out.cell 2 _ rfl
  have j3 := HX3b.out.cell 3 _ rfl
  simp at k0 k1 k2 k3 j0 j1 j2 j3
  go_wp2_with fail
  refine (ex_any w4 mW mE (by decide) (by decide) (-1) we_first).mono ?_
  rintro e w5 ⟨rfl, hb5⟩
  have HB5 := Lib.hid (HB4.out.trans (hb5.mono (by have := HB4.out.size; rw [HG0.out] at this; exact this)))
  clear hb5
  go_wp2
  go_ret
  exact ⟨rfl, by rw [HG0.out]; exact HB5.out⟩

end Go.Proofs.Ytfmombbembiagaa
