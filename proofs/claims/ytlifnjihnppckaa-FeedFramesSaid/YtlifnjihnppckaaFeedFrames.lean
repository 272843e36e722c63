/- FeedFrames: for every input the law answers true, and its arguments read as before. Conditions: none. -/
import Derived.Test.YtlifnjihnppckaaFh
import Derived.Test.YtlifnjihnppckaaInsf
import Derived.Deep.DeepCutAuto
import Derived.Deep.RegionHeld
namespace Go.Proofs.Ytlifnjihnppckaa.feedFrames
open Go.ChangeShapes Go.WideShapes Go.ChangeAt Go.RowKit
open Fr

set_option maxRecDepth 100000 in
set_option maxHeartbeats 2000000 in
theorem walk (a0 : Option Addr) (len0 cap0 : Nat) (K0 : Nat → BitVec 8) (A0 : Nat → Option Addr) (L0 C0 : Nat → Nat) (T0 : Nat → Bs) (a1 : Option Addr) (len1 cap1 : Nat) (z1 : List Int) (w : World) (w0 : Frs w w.heap.size a0 len0 K0 A0 L0 C0 T0) (g0 : len0 ≤ cap0 ∧ cap0 ≤ maxLen) (w1 : IsRow .i64 w a1 len1 cap1 z1) :
    Calls Try.prog 4 #[.slice a0 len0 cap0, .slice a1 len1 cap1] w fun e w' => e = .returned (.bool true) ∧ Below w.heap.size w w' := by
  have HW0 := Lib.hid w0
  have HW1 := Lib.hid w1
  have hmax0 : len0 ≤ 9223372036854775807 := by have := g0.1; have := g0.2; unfold maxLen at this; omega
  have hmax1 : len1 ≤ 9223372036854775807 := by have h := w1.cap; unfold maxLen at h; omega
  clear w0 w1 g0
  by_cases hlen : 20 < len0 ∨ len1 = 0 ∨ 200 < len1
  · rcases hlen with hlen | rfl | hlen
    all_goals
      go_enter Try.func4, Try.ntmps4
      go_wp2_with fail
      refine (lhead_any w).mono ?_
      rintro e w1 ⟨rfl, hb1⟩
      go_wp2
      all_goals
        go_ret
        exact ⟨rfl, hb1⟩
  · have hl0 : len0 ≤ 20 := by omega
    have hl1 : len1 ≤ 200 := by omega
    have hl2 : 0 < len1 := by omega
    have hd0 : decide (20 < (len0 : Int)) = false := by simp; omega
    have hd1 : decide (200 < (len1 : Int)) = false := by simp; omega
    have hd3 : ((len1 : Int) == 0) = false := by simp; omega
    clear hlen
    go_enter Try.func4, Try.ntmps4
    go_wp2_with fail
    refine (lhead_any w).mono ?_
    rintro e w1 ⟨rfl, hb1⟩
    have HB1 := Lib.hid hb1
    clear hb1
    go_wp2
    go_loopw [5, 30] (fun s5 i wr => ∃ (k : Nat) (A : Option Addr) (n c : Nat), k ≤ len0 ∧ i = .int .i64 k ∧ s5 = .slice A n c ∧ Own w.heap.size wr A n c (cats (frs K0 T0 k)) ∧ n ≤ 105 * k ∧ (∀ r, r < k → L0 r ≤ 100) ∧ Below w.heap.size w wr) (fun _ i _ => len0 - (intOf i).toNat)
    case atStart => exact ⟨0, _, 0, 0, by omega, rfl, rfl, own_new w1 w.heap.size HB1.out.size, by omega, (fun r hr => by omega), HB1.out.alloc HB1.out.size _⟩
    case round =>
      obtain ⟨k, A, n, c, hk, rfl, rfl, hown, hn, hle, hb⟩ := hrel
      have hsz := hb.size
      have HO := Lib.hid hown
      have HB := Lib.hid hb
      have HLe := Lib.hid hle
      clear hown hb hle HB1
      by_cases hlt : k < len0
      · obtain ⟨b, off, rfl, hbB, hc⟩ := (HW0.out.below HB.out).outer (by omega)
        obtain ⟨hc0, hc1⟩ := hc k hlt
        have HIn := Lib.hid ((HW0.out.below HB.out).inner k hlt).1
        have hLr : L0 k ≤ 140737488355328 := by have := (HW0.out.inner k hlt).2; unfold most at this; omega
        clear hc
        by_cases hbig : 100 < L0 k
        · have hd2 : decide (100 < (L0 k : Int)) = true := by simp; omega
          go_wp2
          go_ret
          exact ⟨rfl, HB.out.alloc hsz _⟩
        · have hd2 : decide (100 < (L0 k : Int)) = false := by simp; omega
          go_wp2_with fail
          have hal : Below wr.heap.size wr (wr.alloc (.cells #[.int .u8 (K0 k).toNat, .slice (A0 k) (L0 k) (C0 k)] 38)) := (Below.refl _ _).alloc (Nat.le_refl _) _
          generalize wr.alloc (.cells #[.int .u8 (K0 k).toNat, .slice (A0 k) (L0 k) (C0 k)] 38) = W at *
          have hWs := hal.size
          refine (put_eq A n c W.heap.size _ (K0 k) (A0 k) (L0 k) (C0 k) (T0 k) _ (n + L0 k + 5) rfl (frs_cats K0 T0 k).symm W (HO.out.below hal).bytes ((HIn.out.below (hal.mono hsz)).more (by omega)) (Nat.le_refl _) (by omega) (by omega)).mono ?_
          rintro e w3 ⟨A3, c3, rfl, hown, hb3⟩
          have HO3 := Lib.hid (hown.mono (show w.heap.size ≤ W.heap.size by omega))
          have HB3 := Lib.hid (Below.trans HB.out (Below.trans (hal.mono hsz) (hb3.mono (by omega))))
          clear hal hown hb3 hc0 hc1
          go_wp2
          go_roundw
          case rel => exact ⟨k + 1, A3, n + L0 k + 5, c3, by omega, by go_num, rfl, HO3.out, by omega, (fun r hr => by
            rcases Nat.lt_or_ge r k with h | h
            · exact HLe.out r h
            · obtain rfl : r = k := by omega
              omega), HB3.out⟩
          case measure => simp [intOf]; omega
      · obtain rfl : k = len0 := by omega
        go_wp2_with fail
        refine (feed_new wr).mono ?_
        rintro e w2 ⟨rfl, hf2, hb2⟩
        have HF2 := Lib.hid hf2
        have HO2 := Lib.hid (HO.out.below hb2).mid
        have HBy := Lib.hid ((HO.out.bytes).below hb2)
        have HB2 := Lib.hid (Below.trans HB.out (hb2.mono hsz))
        have hcap := HO.out.cap
        generalize hg : wr.heap.size = g at *
        have hg2 := feed_lt hf2.head
        clear hf2 hb2 HO HB hg
        have hfr : ∀ f ∈ frs K0 T0 k, f.2.length ≤ 2048 := by
          intro f hf
          unfold frs at hf
          rw [List.mem_map] at hf
          obtain ⟨r, hr, rfl⟩ := hf
          have hr2 := List.mem_range.1 hr
          have h1 := HLe.out r hr2
          have h2 := (HW0.out.inner r hr2).1.1
          show (T0 r).length ≤ 2048
          omega
        have htl := tells_frames (frs K0 T0 k) [] hfr (by rw [err_nil]; omega)
        rw [List.append_nil] at htl
        have HTl := Lib.hid htl
        clear hfr htl
        have hst : St g (w2.alloc (.cells #[] 38)) g [] 0 none 0 0 [] (some ⟨w2.heap.size, 0, none⟩) 0 0 [] none 0 0 :=
          ⟨HF2.out.below ((Below.refl _ _).alloc (Nat.le_refl _) _), Mid.nil _ _, FrRow.empty w2 (by omega), (fun b _ ⟨p, hp, _⟩ => by cases hp), (fun b hb ⟨p, hp, hpb⟩ => by
            injection hp with hp
            subst hp
            rcases hb with h1 | ⟨p, hp, _⟩
            · have : w2.heap.size = b := hpb
              omega
            · cases hp), (fun b ⟨p, hp, _⟩ => by cases hp), (fun _ h => by cases h), (fun _ h => by cases h), (fun _ h => by cases h)⟩
        have HSt := Lib.hid hst
        clear hst
        go_wp2
        generalize hB : cats (frs K0 T0 k) = Bx at *
        have HBx := Lib.hid hB
        have HBl := Lib.hid HBy.out.1
        clear hB
        go_loopw [5, 9, 10] (fun s5 s9 s10 wx => ∃ (D : Option Addr) (m d : Nat) (q X : Bs) (R : Option Addr) (fn fc : Nat) (es : List Ent) (a : Option Addr) (an ac : Nat) (l : Bs) (j : Nat), s5 = .slice D m d ∧ s9 = .slice R fn fc ∧ s10 = .int .i64 j ∧ m ≤ d ∧ j + m ≤ n ∧
          Bytes wx g D m q ∧ X ++ q = Bx ∧ Tells X (kl es) l ∧ err l = 5 ∧ St g wx g l 0 none 0 0 [] R fn fc es a an ac ∧ Below w.heap.size w wx) (fun s5 _ _ _ => lenw s5)
        case atStart => exact ⟨A, n, c, Bx, [], _, 0, 0, [], none, 0, 0, [], 0, rfl, rfl, rfl, hcap, by omega, HBy.out.below ((Below.refl _ _).alloc (by omega) _), rfl, .stop [] (by rw [err_nil]; omega), err_nil, HSt.out, HB2.out.alloc HB2.out.size _⟩
        case round =>
          obtain ⟨D, m, d, q, X, R, fn, fc, es, a, an, ac, l, j, rfl, rfl, rfl, hmd, hjm, hq, hX, ht, h5, hst, hb⟩ := hrel
          have HQ := Lib.hid hq
          have HX := Lib.hid hX
          have HT := Lib.hid ht
          have H5 := Lib.hid h5
          have HS := Lib.hid hst
          have HB := Lib.hid hb
          have hgx := feed_lt hst.fed.head
          have hszx := hb.size
          clear hq hX ht h5 hst hb HBy HSt HB2 HO2 HF2
          by_cases hm0 : 0 < m
          · obtain ⟨b, off, rfl, hbB, hc⟩ := HW1.out.ints hl2
            obtain ⟨x, hx, hxl⟩ : ∃ x : Nat, (j : Int) % (len1 : Int) = x ∧ x < len1 := ⟨j % len1, by omega, Nat.mod_lt _ hl2⟩
            have hc0 : wr.cell? ⟨b, off + x, none⟩ = some (.int .i64 (z1.getD x 0)) := (HB.out.cell (p := ⟨b, off + x, none⟩) hbB).trans (hc x hxl)
            clear hc
            generalize z1.getD x 0 = t at hc0
            obtain ⟨r, hr, hand⟩ := and63 t
            go_upto_region 18 with fail
            go_cut [11] (fun s11 wx => (∃ p : Nat, 1 ≤ p ∧ p ≤ m ∧ s11 = .int .i64 p) ∧ wx = wr)
            case first =>
              rcases (show (1 : Int) + r ≤ m ∨ (m : Int) < 1 + r by omega) with h' | h'
              · go_wp2
                go_meet
                exact ⟨⟨1 + r, by omega, by omega, by simp⟩, rfl⟩
              · go_wp2
                go_meet
                exact ⟨⟨m, by omega, by omega, rfl⟩, rfl⟩
            case rest =>
              obtain ⟨⟨p, hp1, hpm, rfl⟩, rfl⟩ := hcut
              have hql := HQ.out.1
              have hXl : X.length + m = n := by have h1 := congrArg List.length HX.out; rw [List.length_append, HBl.out] at h1; omega
              have hts := HT.out.short
              rw [kl_len, HS.out.got.len] at hts
              have hal := HS.out.fed.mid.len
              have hpd : (p : Int) ≤ (d : Int) := by omega
              have hpm2 : (p : Int) ≤ (m : Int) := by omega
              clear hc0 hx hand
              go_wp2_with fail
              refine (push_live _ HS.out.fed g D p d (q.take p) (HQ.out.take hpm) (by omega) (by omega)).mono ?_
              intro e w3 hp
              obtain ⟨R2, f2, c2, es2, r2, a2, n2, d2, rfl, htr, hT, hO⟩ := HS.out.push hp
              have htX := Tells.more (q.take p) htr HT.out
              have hXq : (X ++ q.take p) ++ q.drop p = Bx := by rw [List.append_assoc, List.take_append_drop]; exact HX.out
              have hr5 := htX.begin (q := q.drop p) (by rw [hXq]; exact HTl.out)
              obtain ⟨hk1, hk2⟩ := keep_short hr5
              rw [hk1, hk2] at hT
              have hbg3 : Below g wc w3 := hO.below (by omega) (fun b hb hS => by have := (HS.out.fslt hS).1; omega)
              have hf2 := htr.short
              rw [kl_len, hT.row.len, List.length_append, List.length_take] at hf2
              have HTo := Lib.hid hT
              have HTX := Lib.hid htX
              have HXQ := Lib.hid hXq
              have HR5 := Lib.hid hr5
              have HBg3 := Lib.hid hbg3
              have hszg : g ≤ w3.heap.size := by have := hbg3.size; omega
              clear hp htr htX hXq hr5 hk1 hk2 hT hO hbg3
              go_wp2_with (first
                | (at_builtin
                   refine wpList_fapp rfl (.tmp 61) (.tmp 66) rfl rfl HTo.out.st.got rfl HTo.out.row.src HTo.out.row.ents HTo.out.ready (by omega) hszg ?_
                   intro A6 c6 w6 hr6 ho6 hp6
                   have HN := Lib.hid (HTo.out.append hr6 ho6 hp6)
                   have HBg6 := Lib.hid (Below.trans HBg3.out (ho6.below hszg (fun b hb hS => by have := (HTo.out.st.got.inlt hS).1; omega)))
                   clear hr6 ho6 hp6))
              go_roundw
              case rel => exact ⟨cutA D d p, m - p, d - p, q.drop p, X ++ q.take p, A6, fn + f2, c6, es ++ es2, a2, n2, d2, r2, j + 1, rfl, rfl, by go_num, by omega, by omega, (HQ.out.below HBg6.out).cut hpm hmd, HXQ.out, by rw [kl_app]; exact HTX.out, HR5.out, HN.out, Below.trans HB.out (HBg6.out.mono hsz)⟩
              case measure => show m - p < m; omega
          · obtain rfl : m = 0 := by omega
            have hq0 : q = [] := List.eq_nil_of_length_eq_zero HQ.out.1
            have hXB := HX.out
            rw [hq0, List.append_nil] at hXB
            have ht2 := HT.out
            rw [hXB] at ht2
            obtain ⟨hkl, hl0⟩ := ht2.one HTl.out
            subst hl0
            have han : 0 = an := HS.out.fed.mid.len
            subst han
            have hfn : fn = k := by rw [← HS.out.got.len, ← kl_len, hkl, frs_len]
            subst hfn
            have HKl := Lib.hid hkl
            clear hXB ht2 hkl hq0
            go_wp2_with fail
            refine (same_any HS.out.got.view (HW0.out.below HB.out).view (fun r hr => kl_frs HKl.out r hr) (by omega)).mono ?_
            rintro e w5 ⟨rfl, m5, rfl⟩
            go_wp2_with fail
            refine (feed_len _ (HS.out.fed.drewN m5)).mono ?_
            rintro e w6 ⟨rfl, rfl⟩
            go_wp2_with fail
            refine (feed_err _ (HS.out.fed.drewN m5)).mono ?_
            rintro e w6 ⟨rfl, rfl⟩
            go_wp2
            go_ret
            exact ⟨rfl, below_drewN HB.out m5⟩

set_option maxRecDepth 100000 in
theorem lifted (os : Os) (started : os.Started) (H : Type) (enc : TypeId × Value → H) :
    ReturnsInHanded {} Try.checked os 4 .any (Rows.feedFramesSpec.pre6 enc Try.prog Try.f4 Rows.feedFramesRow.domain false) (Rows.feedFramesSpec.post enc Try.prog Try.f4 false true false false) := by
  refine returnsInHanded_of_change_sized (C := Try.checked) own started (by kernel_rfl) Try.func4
    (ChangeSpec.witness6 (enc := enc) (C := Try.checked) false ⟨#[], #[.slice none 0 0, .slice none 0 0], []⟩ 8 (by kernel_rfl) (by kernel_rfl) (by kernel_rfl) (by kernel_rfl)) ?_
  intro W base args ds gs before hval0 hW hcnd hsz0 _
  have hval : ∀ (j : Nat) t v, Try.f4.params[j]? = some t → args[j]? = some v → Value.okWide Try.prog W .any base t v := hval0
  have hW' := hW
  obtain ⟨p, q, hA0, hV, rfl, hfz, hnd⟩ := hW
  have hsz : (DataW.weightsEach Try.prog (Try.f4.params.toList ++ Rows.feedFramesSpec.plain.varTypes Try.prog) (ds ++ gs)).all (· ≤ reachBytes) = true := hsz0
  have hA : DataW.TrodAll enc Try.prog W 0 (fun _ => true) true Try.f4.params.toList args.toList ds p := hA0
  rw [Try.params4] at hA hval hsz
  obtain ⟨v0, vs0, d0, ds0, p0, q0, hargs, rfl, rfl, h0, r0⟩ := trodAll_cons hA
  obtain ⟨v1, vs1, d1, ds1, p1, q1, rfl, rfl, rfl, h1, r1⟩ := trodAll_cons r0
  obtain ⟨rfl, rfl, rfl⟩ := trodAll_nil r1
  obtain rfl : args = #[v0, v1] := by cases args; simp_all
  obtain ⟨rfl, rfl⟩ := trodVars_none hV
  obtain ⟨a0, len0, cap0, rfl⟩ := okWide_slice Try.underlying27 (hval 0 27 v0 rfl rfl)
  have k0 := h0
  have lt0 : ∀ x ∈ p0, x.block < W.heap.size := by obtain ⟨m, hm⟩ := k0; exact DataW.trod_lt m _ _ _ hm
  obtain ⟨K0, A0, L0, C0, T0, w0, g0⟩ : ∃ K A L C T, Frs W W.heap.size a0 len0 K A L C T ∧ len0 ≤ cap0 ∧ cap0 ≤ maxLen := by
    obtain ⟨fuel, hf⟩ := h0
    exact open_frs hf (fits_of hsz (j := 0) rfl rfl)
  obtain ⟨a1, len1, cap1, rfl⟩ := okWide_slice Try.underlying36 (hval 1 36 v1 rfl rfl)
  have k1 := h1
  have lt1 : ∀ x ∈ p1, x.block < W.heap.size := by obtain ⟨m, hm⟩ := k1; exact DataW.trod_lt m _ _ _ hm
  obtain ⟨z1, w1⟩ : ∃ zs, IsRow .i64 W a1 len1 cap1 zs := by
    obtain ⟨fuel, hf⟩ := h1
    exact open_row hf
  clear hA0 hval0 hsz hsz0
  refine (walk a0 len0 cap0 K0 A0 L0 C0 T0 a1 len1 cap1 z1 W w0 g0 w1).mono fun e W' ⟨he, bel⟩ => ?_
  subst he
  exact ⟨_, rfl, _, _, _, [], _, [], hW', trodAll_mk1 (shut_bool Try.underlying4 _), (trodAll_cons_mk (Below.trod laidOut (by kernel_rfl) (of_decide_eq_true (by kernel_rfl)) k0 bel lt0) (trodAll_cons_mk (Below.trod laidOut (by kernel_rfl) (of_decide_eq_true (by kernel_rfl)) k1 bel lt1) trodAll_mk0)), rfl, bel.frame _, fun h => by cases h⟩

theorem over : Rows.feedFramesRow.holds Try.pinned (OpenSpec.ofChange Rows.feedFramesSpec) :=
  OpenClaim.holds_of_wide 4 Try.f4 rfl rfl rfl rfl rfl rfl rfl ⟨rfl, rfl, rfl, rfl, rfl⟩ rfl rfl rfl rfl rfl (by kernel_rfl) Try.func4 (by kernel_rfl)
    (of_decide_eq_true (by kernel_rfl)) (by unfold Func.isWrapper; first | (rw [if_pos (by decide +kernel)]; kernel_rfl) | (rw [if_neg (by decide +kernel)]; exact ⟨rfl, rfl⟩))
    (fun os started H enc _ => lifted os started H enc)

end Go.Proofs.Ytlifnjihnppckaa.feedFrames
namespace Go.Proofs.Ytlifnjihnppckaa
theorem feedFrames_holds : Rows.FeedFramesSaid := feedFrames.over
#print axioms feedFrames_holds
end Go.Proofs.Ytlifnjihnppckaa
