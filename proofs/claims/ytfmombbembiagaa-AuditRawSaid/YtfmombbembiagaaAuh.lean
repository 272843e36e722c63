/- What the law's own first and its head answer. -/
import Derived.Test.YtfmombbembiagaaAul
namespace Go.Proofs.Ytfmombbembiagaa
open Go.RowKit
open Fr Ms Au

set_option maxHeartbeats 1000000 in
theorem lfirst_any {w : World} {a : Option Addr} {L : List M} (h : MsIn w w.heap.size a L) (cap : Nat) (hn : L.length ≤ 140737488355328) (hcap : L.length ≤ cap) (o : Bs) (ho : o.length ≤ 1099511627776) (sk : Int) :
    Calls Try.prog 6 #[.slice a L.length cap, .string (str o), .int .i64 sk] w (FGives o sk L w) := by
  have HL := Lib.hid h
  have HO := Lib.hid ho
  have HB := Lib.hid (Below.refl w.heap.size w)
  clear h ho
  obtain ⟨g, hg⟩ : ∃ g, w.heap.size = g := ⟨_, rfl⟩
  rw [hg] at HL HB
  have HBel := Lib.hid hg
  clear hg
  obtain ⟨n, hln⟩ : ∃ n, L.length = n := ⟨_, rfl⟩
  rw [hln] at hn hcap
  simp only [hln]
  have HLn := Lib.hid hln
  clear hln
  go_enter Try.func6, Try.ntmps6
  go_wp2_with fail
  go_loopw [11] (fun i wr => ∃ k : Nat, k ≤ n ∧ i = .int .i64 (k : Nat) ∧ good o sk L k ∧ Below g w wr) (fun i _ => n - (intOf i).toNat)
  case atStart => exact ⟨0, by omega, rfl, good_zero _ _ _, HB.out⟩
  case round =>
    obtain ⟨k, hk, rfl, hgood, hb⟩ := hrel
    have HG := Lib.hid hgood
    have HBe := Lib.hid hb
    clear hgood hb HB
    by_cases hlt : k < n
    · obtain ⟨m, hm⟩ : ∃ m, L[k]? = some m := ⟨_, List.getElem?_eq_getElem (by have := HLn.out; omega)⟩
      obtain ⟨b, off, ea, hbB, hc⟩ := (HL.out.below HBe.out).outer (by have := HLn.out; omega)
      subst ea
      obtain ⟨hc0, hc1, hc2, hc3⟩ := hc k m hm
      clear hc
      obtain ⟨K, x, y, t⟩ := m
      simp only at hc0 hc1 hc2 hc3
      have HM := Lib.hid hm
      clear hm
      have hgw := HBe.out.size
      rw [HBel.out] at hgw
      have HN1 := Lib.hid (Bx.new wr _ rfl #[.int .i64 K, .int .i64 x, .int .i64 y, .string (str t)] 26)
      have HB1 := Lib.hid (HBe.out.alloc (by omega) (.cells #[.int .i64 K, .int .i64 x, .int .i64 y, .string (str t)] 26))
      go_upto_region 4 with fail
      generalize wr.alloc (.cells #[.int .i64 K, .int .i64 x, .int .i64 y, .string (str t)] 26) = w2 at *
      obtain ⟨gm, hgm⟩ : ∃ gm, wr.heap.size = gm := ⟨_, rfl⟩
      rw [hgm] at HN1
      simp only [hgm]
      clear hgm hgw hc0 hc1 hc2 hc3
      have m0 := HN1.out.cell 0 (.int .i64 K) rfl
      have m1 := HN1.out.cell 1 (.int .i64 x) rfl
      have m2 := HN1.out.cell 2 (.int .i64 y) rfl
      have m3 := HN1.out.cell 3 (.string (str t)) rfl
      have hs1 := HN1.out.room
      have HLC := Lib.hid (show (L.take k).length = k by rw [List.length_take]; have := HLn.out; omega)
      have HC := Lib.hid (fun W (hW : Below g w W) => by
        have := lmay_any ((HL.out.below hW).take k |> fun h => (⟨fun hn => let ⟨b, off, e, hb, hc⟩ := h.outer hn; ⟨b, off, e, by have := hW.size; rw [HBel.out] at this; omega, hc⟩, h.inner⟩ : MsIn W W.heap.size _ (L.take k))) cap (by rw [HLC.out]; omega) o HO.out sk (by
          rw [HLC.out]
          intro i m hi hm
          rw [List.getElem?_take, if_pos hi] at hm
          rw [List.take_take, Nat.min_eq_left (Nat.le_of_lt hi)]
          exact HG.out i m hi hm) K x y t
        rw [HLC.out] at this
        exact this)
      obtain ⟨q, hq⟩ : ∃ q, mayB o sk (run (L.take k)) ⟨K, x, y, t⟩ = q := ⟨_, rfl⟩
      rw [hq] at HC
      have HQ := Lib.hid hq
      have HD := Lib.hid (HC.out w2.drew (show Below g w w2.drew from below_drewN HB1.out 1))
      clear hq
      go_region_held (fun w' => w'.cell? ⟨gm, 0, none⟩ = some (.int .i64 K) ∧ w'.cell? ⟨gm, 1, none⟩ = some (.int .i64 x) ∧ w'.cell? ⟨gm, 2, none⟩ = some (.int .i64 y) ∧ w'.cell? ⟨gm, 3, none⟩ = some (.string (str t)))
        (first | exact ⟨HNa.out.cell 0 _ rfl, HNa.out.cell 1 _ rfl, HNa.out.cell 2 _ rfl, HNa.out.cell 3 _ rfl⟩ | exact ⟨m0, m1, m2, m3⟩)
        (first | (go_at_call 9; refine HD.out.mono ?_; rintro e wa ⟨rfl, hba⟩; have hba : Below w2.heap.size w2.drew wa := hba; have HBa := Lib.hid (below_back hba); have HNa := Lib.hid (HN1.out.go HBa.out hs1); clear hba) | fail)
      have HBf := Lib.hid (Below.trans HB1.out (HBa.out.mono (by have := HB1.out.size; rw [HBel.out] at this; exact this)))
      cases q
      · go_wp2
        go_ret
        exact f_at HM.out HG.out HQ.out (by rw [HBel.out]; exact HBf.out)
      · go_wp2
        go_roundw
        case rel => exact ⟨k + 1, by omega, by go_num, good_succ HG.out HM.out HQ.out, HBf.out⟩
        case measure => simp [intOf]; omega
    · go_wp2
      go_ret
      exact f_no (by rw [show L.length = k by have := HLn.out; omega]; exact HG.out) (by rw [HBel.out]; exact HBe.out)

end Go.Proofs.Ytfmombbembiagaa
