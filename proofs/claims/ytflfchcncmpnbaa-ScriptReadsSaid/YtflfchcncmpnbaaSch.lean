/- A conf's bytes read again; what the law's own head answers. -/
import Derived.Test.YtflfchcncmpnbaaScb
namespace Go.Proofs.Ytflfchcncmpnbaa
open Go.RowKit
open Sc

theorem cof_three (a : Nat) (ha : a < 16777216) (p r : Bs) (i : Nat) (hp : p.length = 3 * i) : cof (p ++ (three a ++ r)) i = a := by
  unfold cof
  rw [← hp, List.drop_left' rfl, List.take_left' (three_len a), nat_three a ha]

theorem cof_cbs {a b c d e f g h : Int} (k : rt a b c d e f g h = true) (r : Bs) : cf8 (cof (cbs a b c d e f g h ++ r)) = cv a b c d e f g h ∧ rtc (cbs a b c d e f g h ++ r) = true := by
  obtain ⟨⟨a0, a1⟩, ⟨b0, b1⟩, ⟨c0, c1⟩, ⟨d0, d1⟩, ⟨e0, e1⟩, ⟨f0, f1⟩, ⟨g0, g1⟩, ⟨h0, h1⟩⟩ := rt_bounds k
  obtain ⟨ai, rfl⟩ := Int.eq_ofNat_of_zero_le (show 0 ≤ a by omega)
  obtain ⟨bi, rfl⟩ := Int.eq_ofNat_of_zero_le (show 0 ≤ b by omega)
  obtain ⟨ci, rfl⟩ := Int.eq_ofNat_of_zero_le (show 0 ≤ c by omega)
  obtain ⟨di, rfl⟩ := Int.eq_ofNat_of_zero_le (show 0 ≤ d by omega)
  obtain ⟨ei, rfl⟩ := Int.eq_ofNat_of_zero_le (show 0 ≤ e by omega)
  obtain ⟨fi, rfl⟩ := Int.eq_ofNat_of_zero_le (show 0 ≤ f by omega)
  obtain ⟨gi, rfl⟩ := Int.eq_ofNat_of_zero_le (show 0 ≤ g by omega)
  obtain ⟨hi, rfl⟩ := Int.eq_ofNat_of_zero_le (show 0 ≤ h by omega)
  have q0 : cof (cbs ai bi ci di ei fi gi hi ++ r) 0 = ai := by
    rw [show cbs ai bi ci di ei fi gi hi ++ r = ([]) ++ (three ai ++ (three bi ++ (three ci ++ (three di ++ (three ei ++ (three fi ++ (three gi ++ (three hi ++ (r))))))))) by simp [cbs, cfb]]
    exact cof_three _ (by omega) _ _ 0 rfl
  have q1 : cof (cbs ai bi ci di ei fi gi hi ++ r) 1 = bi := by
    rw [show cbs ai bi ci di ei fi gi hi ++ r = (three ai) ++ (three bi ++ (three ci ++ (three di ++ (three ei ++ (three fi ++ (three gi ++ (three hi ++ (r)))))))) by simp [cbs, cfb]]
    exact cof_three _ (by omega) _ _ 1 rfl
  have q2 : cof (cbs ai bi ci di ei fi gi hi ++ r) 2 = ci := by
    rw [show cbs ai bi ci di ei fi gi hi ++ r = (three ai ++ three bi) ++ (three ci ++ (three di ++ (three ei ++ (three fi ++ (three gi ++ (three hi ++ (r))))))) by simp [cbs, cfb]]
    exact cof_three _ (by omega) _ _ 2 rfl
  have q3 : cof (cbs ai bi ci di ei fi gi hi ++ r) 3 = di := by
    rw [show cbs ai bi ci di ei fi gi hi ++ r = (three ai ++ three bi ++ three ci) ++ (three di ++ (three ei ++ (three fi ++ (three gi ++ (three hi ++ (r)))))) by simp [cbs, cfb]]
    exact cof_three _ (by omega) _ _ 3 rfl
  have q4 : cof (cbs ai bi ci di ei fi gi hi ++ r) 4 = ei := by
    rw [show cbs ai bi ci di ei fi gi hi ++ r = (three ai ++ three bi ++ three ci ++ three di) ++ (three ei ++ (three fi ++ (three gi ++ (three hi ++ (r))))) by simp [cbs, cfb]]
    exact cof_three _ (by omega) _ _ 4 rfl
  have q5 : cof (cbs ai bi ci di ei fi gi hi ++ r) 5 = fi := by
    rw [show cbs ai bi ci di ei fi gi hi ++ r = (three ai ++ three bi ++ three ci ++ three di ++ three ei) ++ (three fi ++ (three gi ++ (three hi ++ (r)))) by simp [cbs, cfb]]
    exact cof_three _ (by omega) _ _ 5 rfl
  have q6 : cof (cbs ai bi ci di ei fi gi hi ++ r) 6 = gi := by
    rw [show cbs ai bi ci di ei fi gi hi ++ r = (three ai ++ three bi ++ three ci ++ three di ++ three ei ++ three fi) ++ (three gi ++ (three hi ++ (r))) by simp [cbs, cfb]]
    exact cof_three _ (by omega) _ _ 6 rfl
  have q7 : cof (cbs ai bi ci di ei fi gi hi ++ r) 7 = hi := by
    rw [show cbs ai bi ci di ei fi gi hi ++ r = (three ai ++ three bi ++ three ci ++ three di ++ three ei ++ three fi ++ three gi) ++ (three hi ++ (r)) by simp [cbs, cfb]]
    exact cof_three _ (by omega) _ _ 7 rfl
  unfold rtc cf8 cv
  rw [q0, q1, q2, q3, q4, q5, q6, q7]
  exact ⟨rfl, k⟩

/-- what Decode tells of a conf's bytes and others behind them -/
def CGives (a b c d e f g h : Int) (r : Bs) (w : World) (x : Ending) (w' : World) : Prop :=
  Below w.heap.size w w' ∧ ∃ (L : List Ev) (m er : Nat) (A : Option Addr) (n cp : Nat), x = .returned (.tuple #[.agg (cv a b c d e f g h), .slice A n cp, .int .i64 (24 + m : Nat), .int .i64 er]) ∧
    EvRow w.heap.size w' A n cp L ∧ Reads r L m er

theorem decode_cbs {a b c d e f g h : Int} (k : rt a b c d e f g h = true) (A : Option Addr) (n cap : Nat) (r : Bs) (w : World) (hl : Bytes w w.heap.size A n (cbs a b c d e f g h ++ r)) (hcap : n ≤ cap) (hm : cap ≤ 9223372036854775807) (hn : n ≤ 262144) :
    Calls Try.prog 13 #[.slice A n cap] w (CGives a b c d e f g h r w) := by
  refine (decode_any A n cap _ w hl hcap hm).mono ?_
  rintro x w' ⟨hb, hg⟩
  have hlen := hl.1
  have hlr : (cbs a b c d e f g h ++ r).length = 24 + r.length := by rw [List.length_append, cbs_len]
  obtain ⟨p1, p2⟩ := cof_cbs k r
  rcases hg with ⟨h1, _⟩ | ⟨h1, _⟩ | ⟨_, _, h1, _⟩ | ⟨_, _, _, L, m, er, A', n', c', rfl, hrow, hrd⟩
  · omega
  · omega
  · rw [p2] at h1; cases h1
  · rw [p1]
    rw [List.drop_left' (cbs_len ..)] at hrd
    exact ⟨hb, L, m, er, A', n', c', rfl, hrow, hrd⟩

theorem Own.capmax {base n c : Nat} {w : World} {a : Option Addr} {l : Bs} (h : Own base w a n c l) : c ≤ 9223372036854775807 := by
  rcases h.row.2 with ⟨h0, _⟩ | ⟨g, cap, cur, e, _, _, _, hm, _⟩
  · injection h0 with _ _ h2
    omega
  · injection e with _ _ h2
    unfold maxLen at hm
    omega

theorem rt_default : rt 4096 512 2048 256 3 100 0 80 = true := by decide
theorem tick_right : rtE ⟨5, 0, 0, []⟩ = true := by decide

theorem evs_one : evs [⟨5, 0, 0, []⟩] = [5#8, 0#8, 0#8, 0#8, 0#8, 0#8, 0#8] := by decide
theorem head_bytes : cbs 4096 512 2048 256 3 100 0 80 ++ evs [⟨5, 0, 0, []⟩] = cbs 4096 512 2048 256 3 100 0 80 ++ [5#8, 0#8, 0#8, 0#8, 0#8, 0#8, 0#8] := by rw [evs_one]

set_option maxHeartbeats 2000000 in
theorem lhead_any (w : World) : Calls Try.prog 7 #[] w fun r w' => r = .returned (.bool true) ∧ Below w.heap.size w w' := by
  have hmix : Try.prog.follows .mixedOrders = true := by kernel_rfl
  go_enter Try.func7, Try.ntmps7
  go_upto_region 2 with (first
    | (go_at_call 16
       refine (default_any _).mono ?_
       rintro _ w1 ⟨rfl, hb1⟩
       have HB1 := Lib.hid hb1
       clear hb1)
    | (go_at_call 12
       refine (encode_any 4096 512 2048 256 3 100 0 80 _ 1 1 [⟨5, 0, 0, []⟩] _ (ev_one w1 ⟨5, 0, 0, []⟩ (by decide) 30 |>.more (by simp)) rfl (by omega)).mono ?_
       rintro x w2 ⟨hb2, hg2⟩
       rcases hg2 with ⟨h1, _⟩ | ⟨_, h1, _⟩ | ⟨_, _, _, A2, c2, rfl, ho2⟩
       · exact absurd h1 (by decide)
       · rcases h1 with h1 | ⟨x, hx, h1⟩
         · rw [rt_default] at h1; cases h1
         · simp at hx; subst hx; rw [tick_right] at h1; cases h1)
    | fail)
  rw [show 24 + (evs [⟨5, 0, 0, []⟩]).length = 31 from by decide] at ho2 ⊢
  have ho2 := ho2.mono (base' := w.heap.size) (Nat.le_trans HB1.out.size (by simp))
  have hb3 : Below w.heap.size w w2 := HB1.out.trans (((Below.refl w1.heap.size w1).alloc (Nat.le_refl _) _).trans (hb2.mono (by simp)) |>.mono HB1.out.size)
  obtain ⟨gb, rfl, hg1, hg2⟩ := ho2.form (by omega)
  have hb24 := own_bytes ho2 gb rfl 24 (by omega)
  have hb30 := own_bytes ho2 gb rfl 30 (by omega)
  rw [show ((cbs 4096 512 2048 256 3 100 0 80 ++ evs [⟨5, 0, 0, []⟩])[24]?.getD 0#8) = 5#8 from by decide] at hb24
  rw [show ((cbs 4096 512 2048 256 3 100 0 80 ++ evs [⟨5, 0, 0, []⟩])[30]?.getD 0#8) = 0#8 from by decide] at hb30
  simp at hb24 hb30
  have hcap := ho2.cap
  have HO := Lib.hid ho2
  have HB := Lib.hid hb3
  clear ho2 hb3 hb2 hg1 hg2 HB1
  go_upto_region 4 with fail
  have HRow := Lib.hid (decode_cbs rt_default (some ⟨gb, 0, none⟩) 31 c2 (evs [⟨5, 0, 0, []⟩]) w2 HO.out.bytes hcap HO.out.capmax (by omega))
  clear hb24 hb30
  go_wp2_with fail
  refine HRow.out.mono ?_
  rintro x w3 ⟨hb3, L, m, er, A3, n3, c3, rfl, hrow, hrd⟩
  obtain ⟨rfl, hm, rfl⟩ := reads_all hrd (by intro x hx; simp at hx; subst hx; exact tick_right) (by simp)
  rw [show (evs [⟨5, 0, 0, []⟩]).length = 7 from by decide] at hm
  subst hm
  have hn3 := hrow.len
  simp only [List.length_cons, List.length_nil] at hn3
  subst hn3
  have hev := hrow.evin
  obtain ⟨ge, oe, rfl, hge, hce⟩ := hev.outer (by simp)
  obtain ⟨hc0, hc1, hc2, hc3⟩ := hce 0 _ rfl
  simp only [Nat.zero_mul, Nat.add_zero] at hc0 hc1 hc2 hc3
  have HB3 := Lib.hid (HB.out.trans (hb3.mono HB.out.size))
  clear hrd hrow hev hce hb3 HO HRow HB
  unfold cv
  go_upto_region 5 with fail
  have HC := Lib.hid (Bx.new w3 w3.heap.size rfl #[.int .i64 4096, .int .i64 512, .int .i64 2048, .int .i64 256, .int .i64 3, .int .i64 100, .int .i64 0, .int .i64 80] 23)
  have hbn := (Below.refl w3.heap.size w3).alloc (Nat.le_refl _) (.cells #[.int .i64 4096, .int .i64 512, .int .i64 2048, .int .i64 256, .int .i64 3, .int .i64 100, .int .i64 0, .int .i64 80] 23)
  have HB4 := Lib.hid (HB3.out.trans (hbn.mono HB3.out.size))
  have hE : ∀ W, Below w3.heap.size w3 W → W.cell? ⟨ge, oe, none⟩ = some (.int .i64 5) ∧ W.cell? ⟨ge, oe + 1, none⟩ = some (.int .i64 0) ∧ W.cell? ⟨ge, oe + 2, none⟩ = some (.int .i64 0) ∧ W.cell? ⟨ge, oe + 3, none⟩ = some (.string (str [])) := fun W h =>
    ⟨(h.cell (p := ⟨ge, oe, none⟩) hge).trans hc0, (h.cell (p := ⟨ge, oe + 1, none⟩) hge).trans hc1, (h.cell (p := ⟨ge, oe + 2, none⟩) hge).trans hc2, (h.cell (p := ⟨ge, oe + 3, none⟩) hge).trans hc3⟩
  have HE := Lib.hid hE
  have HBn := Lib.hid hbn
  clear hE hbn hc0 hc1 hc2 hc3
  generalize w3.alloc _ = w4 at *
  have hgw := HC.out.room
  have hg03 := HB3.out.size
  obtain ⟨g3, hg3⟩ : ∃ g3, w3.heap.size = g3 := ⟨_, rfl⟩
  rw [hg3] at HC HE HBn hgw hge hg03
  simp only [hg3]
  clear hg3
  have HCC := Lib.hid (fun (W : World) (h : Bx g3 W #[.int .i64 4096, .int .i64 512, .int .i64 2048, .int .i64 256, .int .i64 3, .int .i64 100, .int .i64 0, .int .i64 80] ∧ Below g3 w3 W) => And.intro h.1.cells8 (HE.out W h.2))
  refine wp_region_held (S := fun W => Bx g3 W #[.int .i64 4096, .int .i64 512, .int .i64 2048, .int .i64 256, .int .i64 3, .int .i64 100, .int .i64 0, .int .i64 80] ∧ Below g3 w3 W) hmix ?_
  change wpAnyH _ _ _ _ _ _ _ _ (World.drew _)
  have hS0 : Bx g3 w4.drew #[.int .i64 4096, .int .i64 512, .int .i64 2048, .int .i64 256, .int .i64 3, .int .i64 100, .int .i64 0, .int .i64 80] ∧ Below g3 w3 w4.drew := ⟨⟨HC.out.head⟩, below_drew HBn.out⟩
  refine wpAnyH_take (i := 0) (v := .int .i64 0) rfl (by kernel_rfl) (by kernel_rfl) (by kernel_rfl) (fun _ _ _ h => h) (.inl ⟨by kernel_rfl, fun W hW => ?_⟩) hS0 ?_
  · go_simp
  refine wpAnyH_take (i := 1) (v := .bool true) rfl (by kernel_rfl) (by kernel_rfl) (by kernel_rfl) (fun _ _ _ h => h) (.inl ⟨by kernel_rfl, fun W hW => ?_⟩) hS0 ?_
  · go_simp
  refine wpAnyH_take (i := 2) (v := .bool true) rfl (by kernel_rfl) (by kernel_rfl) (by kernel_rfl) (fun _ _ _ h => h) (.inl ⟨by kernel_rfl, fun W hW => ?_⟩) hS0 ?_
  · go_simp
  refine wpAnyH_take (i := 3) (v := .int .i64 31) rfl (by kernel_rfl) (by kernel_rfl) (by kernel_rfl) (fun _ _ _ h => h) (.inl ⟨by kernel_rfl, fun W hW => ?_⟩) hS0 ?_
  · go_simp
  refine wpAnyH_take (i := 4) (v := .bool true) rfl (by kernel_rfl) (by kernel_rfl) (by kernel_rfl) (fun _ _ _ h => h) (.inl ⟨by kernel_rfl, fun W hW => ?_⟩) hS0 ?_
  · go_simp
  refine wpAnyH_take (i := 5) (v := .bool true) rfl (by kernel_rfl) (by kernel_rfl) (by kernel_rfl) (fun _ _ _ h => h) (.inl ⟨by kernel_rfl, fun W hW => ?_⟩) hS0 ?_
  · go_simp
  refine wpAnyH_take (i := 6) (v := .bool true) rfl (by kernel_rfl) (by kernel_rfl) (by kernel_rfl) (fun _ _ _ h => h) (.inl ⟨by kernel_rfl, fun W hW => ?_⟩) hS0 ?_
  · go_simp
  refine wpAnyH_take (i := 7) (v := .agg #[.int .i64 4096, .int .i64 512, .int .i64 2048, .int .i64 256, .int .i64 3, .int .i64 100, .int .i64 0, .int .i64 80]) rfl (by kernel_rfl) (by kernel_rfl) (by kernel_rfl) (fun _ _ _ h => h) (.inl ⟨by kernel_rfl, fun W hW => ?_⟩) hS0 ?_
  · obtain ⟨⟨e0, e1, e2, e3, e4, e5, e6, e7⟩, d0, d1, d2, d3⟩ := HCC.out W hW; go_simp
  refine wpAnyH_all (rs := [8]) (by kernel_rfl) (by simp) ?_
  intro z hz
  rw [List.mem_singleton.1 hz]
  clear hz
  unfold wpOp
  go_simp
  refine .inl ((default_any _).mono ?_)
  rintro e w5 ⟨rfl, hb5⟩
  have hb5 : Below w4.heap.size w4.drew w5 := hb5
  have HB5 := Lib.hid (HB4.out.trans ((below_back hb5).mono HB4.out.size))
  have hS1 : Bx g3 w5 #[.int .i64 4096, .int .i64 512, .int .i64 2048, .int .i64 256, .int .i64 3, .int .i64 100, .int .i64 0, .int .i64 80] ∧ Below g3 w3 w5 := ⟨HC.out.go (below_back hb5) hgw, HBn.out.trans ((below_back hb5).mono (by omega))⟩
  clear hS0 hb5
  unfold cv
  go_simp
  have hS0 := hS1
  clear hS1
  refine wpAnyH_take (i := 9) (v := .bool true) rfl (by kernel_rfl) (by kernel_rfl) (by kernel_rfl) (fun _ _ _ h => h) (.inl ⟨by kernel_rfl, fun W hW => ?_⟩) hS0 ?_
  · go_simp
  refine wpAnyH_take (i := 10) (v := .bool true) rfl (by kernel_rfl) (by kernel_rfl) (by kernel_rfl) (fun _ _ _ h => h) (.inl ⟨by kernel_rfl, fun W hW => ?_⟩) hS0 ?_
  · go_simp
  refine wpAnyH_take (i := 11) (v := .bool true) rfl (by kernel_rfl) (by kernel_rfl) (by kernel_rfl) (fun _ _ _ h => h) (.inl ⟨by kernel_rfl, fun W hW => ?_⟩) hS0 ?_
  · go_simp
  refine wpAnyH_take (i := 12) (v := .slice (some ⟨ge, oe, none⟩) 1 c3) rfl (by kernel_rfl) (by kernel_rfl) (by kernel_rfl) (fun _ _ _ h => h) (.inl ⟨by kernel_rfl, fun W hW => ?_⟩) hS0 ?_
  · go_simp
  refine wpAnyH_take (i := 13) (v := .int .i64 1) rfl (by kernel_rfl) (by kernel_rfl) (by kernel_rfl) (fun _ _ _ h => h) (.inl ⟨by kernel_rfl, fun W hW => ?_⟩) hS0 ?_
  · go_simp
  refine wpAnyH_take (i := 14) (v := .bool true) rfl (by kernel_rfl) (by kernel_rfl) (by kernel_rfl) (fun _ _ _ h => h) (.inl ⟨by kernel_rfl, fun W hW => ?_⟩) hS0 ?_
  · go_simp
  refine wpAnyH_take (i := 15) (v := .bool true) rfl (by kernel_rfl) (by kernel_rfl) (by kernel_rfl) (fun _ _ _ h => h) (.inl ⟨by kernel_rfl, fun W hW => ?_⟩) hS0 ?_
  · go_simp
  refine wpAnyH_take (i := 16) (v := .bool true) rfl (by kernel_rfl) (by kernel_rfl) (by kernel_rfl) (fun _ _ _ h => h) (.inl ⟨by kernel_rfl, fun W hW => ?_⟩) hS0 ?_
  · go_simp
  refine wpAnyH_take (i := 17) (v := .slice (some ⟨ge, oe, none⟩) 1 c3) rfl (by kernel_rfl) (by kernel_rfl) (by kernel_rfl) (fun _ _ _ h => h) (.inl ⟨by kernel_rfl, fun W hW => ?_⟩) hS0 ?_
  · go_simp
  refine wpAnyH_take (i := 18) (v := .pointer (some ⟨ge, oe, none⟩)) rfl (by kernel_rfl) (by kernel_rfl) (by kernel_rfl) (fun _ _ _ h => h) (.inl ⟨by kernel_rfl, fun W hW => ?_⟩) hS0 ?_
  · go_simp
  refine wpAnyH_take (i := 19) (v := .agg #[.int .i64 5, .int .i64 0, .int .i64 0, .string ⟨#[]⟩]) rfl (by kernel_rfl) (by kernel_rfl) (by kernel_rfl) (fun _ _ _ h => h) (.inl ⟨by kernel_rfl, fun W hW => ?_⟩) hS0 ?_
  · obtain ⟨⟨e0, e1, e2, e3, e4, e5, e6, e7⟩, d0, d1, d2, d3⟩ := HCC.out W hW; rw [show str [] = ⟨#[]⟩ from rfl] at d3; go_simp
  refine wpAnyH_take (i := 20) (v := .agg #[.int .i64 5, .int .i64 0, .int .i64 0, .string ⟨#[]⟩]) rfl (by kernel_rfl) (by kernel_rfl) (by kernel_rfl) (fun _ _ _ h => h) (.inl ⟨by kernel_rfl, fun W hW => ?_⟩) hS0 ?_
  · go_simp
  refine wpAnyH_take (i := 21) (v := .bool true) rfl (by kernel_rfl) (by kernel_rfl) (by kernel_rfl) (fun _ _ _ h => h) (.inl ⟨by kernel_rfl, fun W hW => ?_⟩) hS0 ?_
  · go_simp
  refine wpAnyH_take (i := 22) (v := .bool true) rfl (by kernel_rfl) (by kernel_rfl) (by kernel_rfl) (fun _ _ _ h => h) (.inl ⟨by kernel_rfl, fun W hW => ?_⟩) hS0 ?_
  · go_simp
  refine wpAnyH_take (i := 23) (v := .bool true) rfl (by kernel_rfl) (by kernel_rfl) (by kernel_rfl) (fun _ _ _ h => h) (.inl ⟨by kernel_rfl, fun W hW => ?_⟩) hS0 ?_
  · go_simp
  refine wpAnyH_done (by kernel_rfl) ?_ _
  go_wp2
  go_ret
  go_simp
  exact HB5.out

end Go.Proofs.Ytflfchcncmpnbaa
