/- FeedPieces: for every input the law answers true, and its arguments read as before. Conditions: none. -/
import Derived.Test.YtlifnjihnppckaaFh
import Derived.Test.YtlifnjihnppckaaIns
import Derived.Deep.DeepCutAuto
import Derived.Deep.RegionHeld
namespace Go.Proofs.Ytlifnjihnppckaa.feedPieces
open Go.ChangeShapes Go.WideShapes Go.ChangeAt Go.RowKit
open Fr

/-- so many bytes in all -/
def tot (L : Nat → Nat) : Nat → Nat
  | 0 => 0
  | k + 1 => tot L k + L k

theorem tot_le (L : Nat → Nat) (m : Nat) : ∀ k, (∀ r, r < k → L r ≤ m) → tot L k ≤ k * m
  | 0, _ => Nat.zero_le _
  | k + 1, h => by
    have h1 := tot_le L m k (fun r hr => h r (by omega))
    have h2 := h k (by omega)
    simp only [tot, Nat.succ_mul]
    omega

theorem tot_mono (L : Nat → Nat) {k n : Nat} (h : k ≤ n) : tot L k ≤ tot L n := by
  induction n with
  | zero => obtain rfl : k = 0 := by omega
            exact Nat.le_refl _
  | succ n ih =>
    rcases Nat.lt_or_ge k (n + 1) with h' | h'
    · have := ih (by omega)
      simp only [tot]
      omega
    · obtain rfl : k = n + 1 := by omega
      exact Nat.le_refl _

/-- the first pieces as one -/
def catp (T : Nat → Bs) : Nat → Bs
  | 0 => []
  | k + 1 => catp T k ++ T k

theorem catp_len (T : Nat → Bs) (L : Nat → Nat) : ∀ k, (∀ r, r < k → (T r).length = L r) → (catp T k).length = tot L k
  | 0, _ => rfl
  | k + 1, h => by
    simp only [catp, tot, List.length_append]
    rw [catp_len T L k (fun r hr => h r (by omega)), h k (by omega)]

/-- behind k pieces: nothing is broken yet -/
def Live (g : Nat) (X : Bs) (s7 s8 s9 : Value) (w : World) : Prop :=
  ∃ ra rn rc R fn fc es a an ac l, s7 = .slice ra rn rc ∧ s8 = .slice R fn fc ∧ s9 = .int .i64 (0 : Nat) ∧ St g w g l 0 ra rn rc X R fn fc es a an ac ∧ Tells X (kl es) l ∧ err l = 5

/-- it is broken -/
def Dead (g : Nat) (s9 : Value) (w : World) : Prop :=
  ∃ e a ac, e ≠ 0 ∧ s9 = .int .i64 (e : Nat) ∧ Fed g w g a 0 ac [] e

set_option maxRecDepth 100000 in
set_option maxHeartbeats 2000000 in
theorem walk (a0 : Option Addr) (len0 cap0 : Nat) (A0 : Nat → Option Addr) (L0 C0 : Nat → Nat) (T0 : Nat → Bs) (w : World) (w0 : Pcs w w.heap.size a0 len0 A0 L0 C0 T0) (g0 : len0 ≤ cap0 ∧ cap0 ≤ maxLen) :
    Calls Try.prog 3 #[.slice a0 len0 cap0] w fun e w' => e = .returned (.bool true) ∧ Below w.heap.size w w' := by
  have HW0 := Lib.hid w0
  have hmax0 : len0 ≤ 9223372036854775807 := by have := g0.1; have := g0.2; unfold maxLen at this; omega
  clear w0 g0
  by_cases hlen : 60 < len0
  · go_enter Try.func3, Try.ntmps3
    go_wp2_with fail
    refine (lhead_any w).mono ?_
    rintro e w1 ⟨rfl, hb1⟩
    go_wp2
    go_ret
    exact ⟨rfl, hb1⟩
  · have hl0 : len0 ≤ 60 := by omega
    have hd0 : decide (60 < (len0 : Int)) = false := by simp; omega
    clear hlen
    go_enter Try.func3, Try.ntmps3
    go_wp2_with fail
    refine (lhead_any w).mono ?_
    rintro e w1 ⟨rfl, hb1⟩
    have HB1 := Lib.hid hb1
    clear hb1
    go_wp2
    go_loopw [3, 23] (fun s3 i wr => ∃ k : Nat, k ≤ len0 ∧ i = .int .i64 k ∧ s3 = .int .i64 (tot L0 k) ∧ Below w.heap.size w wr) (fun _ i _ => len0 - (intOf i).toNat)
    case atStart => exact ⟨0, by omega, rfl, rfl, HB1.out⟩
    case round =>
      obtain ⟨k, hk, rfl, rfl, hbr⟩ := hrel
      have HBr := Lib.hid hbr
      clear hbr
      by_cases hlt : k < len0
      · obtain ⟨b, off, rfl, hbB, hc⟩ := (HW0.out.below HBr.out).outer (by omega)
        have hc0 := hc k hlt
        clear hc
        have hadd : (tot L0 k : Int) + (L0 k : Int) ≤ 9223372036854775807 := by
          have h1 := tot_le L0 most (k + 1) (fun r hr => Nat.le_trans (HW0.out.inner r (by omega)).2.1 (HW0.out.inner r (by omega)).2.2)
          have h2 : (k + 1) * most ≤ 60 * most := Nat.mul_le_mul_right _ (by omega)
          unfold most at h1 h2
          simp only [tot] at h1
          omega
        go_wp2
        go_roundw
        case rel => exact ⟨k + 1, by omega, by go_num, by simp only [tot]; go_num, HBr.out⟩
        case measure => simp [intOf]; omega
      · obtain rfl : k = len0 := by omega
        by_cases htot : 1000 < tot L0 k
        · go_wp2
          go_ret
          exact ⟨rfl, HBr.out⟩
        · have hd1 : decide (1000 < (tot L0 k : Int)) = false := by simp; omega
          have HLen := Lib.hid (fun j (hj : j ≤ k) => (catp_len T0 L0 j (fun r hr => (HW0.out.inner r (by omega)).1.1) : (catp T0 j).length = tot L0 j))
          clear HB1
          go_wp2_with fail
          refine (feed_new wr).mono ?_
          rintro e w2 ⟨rfl, hf2, hb2⟩
          have HF2 := Lib.hid hf2
          have HB2 := Lib.hid (Below.trans HBr.out (hb2.mono HBr.out.size))
          have hg2 := feed_lt hf2.head
          have hsz : w.heap.size ≤ wr.heap.size := HBr.out.size
          generalize wr.heap.size = g at *
          clear hf2 hb2 HBr
          have hst : St g ((w2.alloc (.cells #[] 5)).alloc (.cells #[] 38)) g [] 0 (some ⟨w2.heap.size, 0, none⟩) 0 0 [] (some ⟨w2.heap.size + 1, 0, none⟩) 0 0 [] none 0 0 := by
            have hal : Below w2.heap.size w2 ((w2.alloc (.cells #[] 5)).alloc (.cells #[] 38)) := ((Below.refl _ _).alloc (Nat.le_refl _) _).alloc (by simp) _
            have hown := (own_new w2 g (by omega)).below ((Below.refl _ _).alloc (Nat.le_refl _) (.cells #[] 38))
            have hrow := FrRow.empty (base := g) (w2.alloc (.cells #[] 5)) (by simp; omega)
            rw [show (w2.alloc (.cells #[] 5)).heap.size = w2.heap.size + 1 by simp] at hrow
            refine ⟨HF2.out.below hal, hown.mid, hrow, ?_, ?_, ?_, (fun _ h => by cases h), (fun _ h => by cases h), (fun _ h => by cases h)⟩
            · rintro b hb ⟨p, hp, hpb⟩
              injection hp with hp
              subst hp
              rcases hb with h1 | ⟨p, hp, _⟩
              · have : w2.heap.size = b := hpb
                omega
              · cases hp
            · rintro b hb ⟨p, hp, hpb⟩
              injection hp with hp
              subst hp
              rcases hb with h1 | ⟨p, hp, _⟩
              · have : w2.heap.size + 1 = b := hpb
                omega
              · cases hp
            · rintro b ⟨p, hp, hpb⟩ ⟨r, hr, hrb⟩
              injection hp with hp
              injection hr with hr
              subst hp hr
              simp at hpb hrb
              omega
          have HSt := Lib.hid hst
          have HB3 := Lib.hid ((HB2.out.alloc HB2.out.size (.cells #[] 5)).alloc (Nat.le_trans HB2.out.size (by simp)) (.cells #[] 38))
          clear hst HF2 HB2
          go_wp2
          go_loopw [7, 8, 9, 39] (fun s7 s8 s9 i wx => ∃ j : Nat, j ≤ k ∧ i = .int .i64 j ∧ (Live g (catp T0 j) s7 s8 s9 wx ∨ Dead g s9 wx) ∧ Below w.heap.size w wx ∧ g ≤ wx.heap.size) (fun _ _ _ i _ => k - (intOf i).toNat)
          case atStart => exact ⟨0, by omega, rfl, .inl ⟨_, _, _, _, _, _, [], none, 0, 0, [], rfl, rfl, rfl, HSt.out, .stop [] (by rw [err_nil]; omega), err_nil⟩, HB3.out, by simp; omega⟩
          case round =>
            obtain ⟨j, hj, rfl, hld, hb, hgx⟩ := hrel
            have HB := Lib.hid hb
            have hszx := hb.size
            clear hb HSt HB3
            by_cases hjl : j < k
            · obtain ⟨b, off, rfl, hbB, hc⟩ := (HW0.out.below HB.out).outer (by omega)
              have hc0 := hc j hjl
              have HIn := Lib.hid ((HW0.out.below HB.out).inner j hjl).1
              clear hc
              rcases hld with hl | hd
              · obtain ⟨ra, rn, rc, R, fn, fc, es, a, an, ac, l, rfl, rfl, rfl, hst, ht, h5⟩ := hl
                have HS := Lib.hid hst
                have HT := Lib.hid ht
                have H5 := Lib.hid h5
                have hX1 := HLen.out j hj
                have hX2 := HLen.out (j + 1) hjl
                have hX3 := tot_mono L0 (show j + 1 ≤ k from hjl)
                have hts := ht.short
                rw [kl_len, hst.got.len] at hts
                have hal := hst.fed.mid.len
                have hrl := hst.all.len
                have hin := HIn.out.1
                simp only [tot] at hX2
                simp only [catp, List.length_append] at hX2
                have hfew : an + L0 j ≤ 1000 ∧ rn + L0 j ≤ 1000 ∧ 5 * fn ≤ 1000 := by
                  simp only [tot] at hX3
                  omega
                obtain ⟨hf1, hf2, hf3⟩ := hfew
                clear hst ht h5 hX1 hX2 hX3 hts hal hrl hin
                go_wp2_with fail
                refine (push_live _ HS.out.fed w.heap.size (A0 j) (L0 j) (C0 j) (T0 j) HIn.out hgx (by omega)).mono ?_
                intro e w3 hp
                obtain ⟨R2, f2, c2, es2, r2, a2, n2, d2, rfl, htr, hT, hO⟩ := HS.out.push hp
                have htX := Tells.more (T0 j) htr HT.out
                have hts := htX.short
                rw [List.length_append, kl_len, kl_len, hT.row.len, HS.out.got.len, List.length_append, HS.out.all.len, HIn.out.1] at hts
                have hbg3 : Below g wr w3 := hO.below hgx (fun b hb hS => by have := (HS.out.fslt hS).1; omega)
                have hszg : g ≤ w3.heap.size := by have := hbg3.size; omega
                have hI3 := Lib.hid (HIn.out.below (hbg3.mono hsz))
                have HTo := Lib.hid hT
                have HTX := Lib.hid htX
                have HBg3 := Lib.hid hbg3
                clear hp htr htX hT hO hbg3 HIn hc0
                go_wp2_with (first
                  | (at_builtin
                     refine wpList_fapp rfl (.tmp 62) (.tmp 63) rfl rfl HTo.out.st.got rfl HTo.out.row.src HTo.out.row.ents HTo.out.ready (by omega) hszg ?_
                     intro A6 c6 w6 hr6 ho6 hp6
                     have hb6 := ho6.below hszg (fun b hb hS => by have := (HTo.out.st.got.inlt hS).1; omega)
                     have HN := Lib.hid (HTo.out.append hr6 ho6 hp6)
                     have HBg6 := Lib.hid (Below.trans HBg3.out hb6)
                     have HI6 := Lib.hid (hI3.out.below (hb6.mono hsz))
                     have hszg6 : g ≤ w6.heap.size := by have := hb6.size; omega
                     clear hr6 ho6 hp6 hb6)
                  | (at_builtin
                     refine wpList_mid rfl (.tmp 65) (.tmp 66) rfl g rfl HN.out.all rfl HI6.out (by omega) hszg6 ?_
                     intro A7 c7 w7 hm7 ho7 hp7
                     have HN7 := Lib.hid (HN.out.grow hm7 ho7 hp7)
                     have HBg7 := Lib.hid (Below.trans HBg6.out (ho7.below hszg6 (fun b hb hS => by have := (HN.out.all.inlt hS).1; omega)))
                     clear hm7 ho7 hp7))
                refine (all_any w7 HN7.out.all.bytes (Nat.le_refl _) HN7.out.all.cap (by omega) HTX.out).mono ?_
                rintro e w8 ⟨A8, n8, c8, es8, rfl, hrow8, hkl8, hb8⟩
                have hn8 : n8 = fn + f2 := by rw [← hrow8.len, ← kl_len, hkl8, ← kl_app, kl_len, HN7.out.got.len]
                subst hn8
                have hkk : kl (es ++ es2) = kl es8 := by rw [kl_app, hkl8]
                have HKk := Lib.hid (fun r (_ : r < fn + f2) => (show ((es ++ es2).getD r ent0).k = (es8.getD r ent0).k ∧ ((es ++ es2).getD r ent0).l = (es8.getD r ent0).l by
                  have h1 := getD_kl (es ++ es2) r
                  have h2 := getD_kl es8 r
                  rw [hkk, h2] at h1
                  simp only [Prod.mk.injEq] at h1
                  exact ⟨h1.1.symm, h1.2.symm⟩))
                have HR8 := Lib.hid hrow8
                have HN8 := Lib.hid (HN7.out.below hb8)
                have hsz7 : g ≤ w7.heap.size := by have := HBg7.out.size; omega
                have HBg8 := Lib.hid (Below.trans HBg7.out (hb8.mono hsz7))
                have hszg8 : g ≤ w8.heap.size := by have := hb8.size; omega
                clear hrow8 hkl8 hb8 hkk
                go_wp2_with fail
                refine (same_any HN8.out.got.view HR8.out.view HKk.out (by omega)).mono ?_
                rintro e w9 ⟨rfl, m9, rfl⟩
                have hn2 := HN8.out.fed.mid.len
                go_wp2_with fail
                refine (feed_err _ (HN8.out.fed.drewN m9)).mono ?_
                rintro e w9 ⟨rfl, rfl⟩
                go_wp2_with fail
                refine (feed_len _ (HN8.out.fed.drewN m9)).mono ?_
                rintro e w9 ⟨rfl, rfl⟩
                clear hn2
                generalize hE2 : broke r2 = be at *
                have HE2 := Lib.hid hE2
                clear hE2
                go_wp2
                go_roundw
                case rel =>
                  refine ⟨j + 1, by omega, by go_num, ?_, below_drewN (Below.trans HB.out (HBg8.out.mono hsz)) m9, hszg8⟩
                  have hst := HN8.out.below (below_drewN (Below.refl _ _) m9)
                  rcases Nat.eq_zero_or_pos be with h0 | h0
                  · left
                    subst h0
                    have h5 := (broke_zero HTX.out.left).1 HE2.out
                    rw [(keep_short h5).1] at hst
                    exact ⟨A7, rn + L0 j, c7, A6, fn + f2, c6, es ++ es2, a2, n2, d2, r2, rfl, rfl, rfl, hst, by rw [kl_app]; exact HTX.out, h5⟩
                  · right
                    have h5 : err r2 ≠ 5 := fun h => by have := (broke_zero HTX.out.left).2 h; rw [HE2.out] at this; omega
                    rw [(keep_else h5).1] at hst
                    have hf := hst.fed
                    obtain rfl : 0 = n2 := hf.mid.len
                    exact ⟨be, a2, d2, by omega, rfl, hf⟩
                case measure => simp [intOf]; omega
              · obtain ⟨e, a, ac, he, rfl, hf⟩ := hd
                have HF := Lib.hid hf
                have hde : ((e : Int) != 0) = true := by simp; omega
                clear hf
                go_wp2_with fail
                refine (push_dead _ HF.out he (A0 j) (L0 j) (C0 j)).mono ?_
                rintro r w3 ⟨rfl, rfl⟩
                go_wp2_with fail
                refine (feed_err _ HF.out).mono ?_
                rintro r w3 ⟨rfl, rfl⟩
                go_wp2_with fail
                refine (feed_len _ HF.out).mono ?_
                rintro r w3 ⟨rfl, rfl⟩
                go_wp2
                go_roundw
                case rel => exact ⟨j + 1, by omega, by go_num, .inr ⟨e, a, ac, he, rfl, HF.out⟩, HB.out, hgx⟩
                case measure => simp [intOf]; omega
            · obtain rfl : j = k := by omega
              go_wp2
              go_ret
              exact ⟨rfl, HB.out⟩

set_option maxRecDepth 100000 in
theorem lifted (os : Os) (started : os.Started) (H : Type) (enc : TypeId × Value → H) :
    ReturnsInHanded {} Try.checked os 3 .any (Rows.feedPiecesSpec.pre6 enc Try.prog Try.f3 Rows.feedPiecesRow.domain false) (Rows.feedPiecesSpec.post enc Try.prog Try.f3 false true false false) := by
  refine returnsInHanded_of_change_sized (C := Try.checked) own started (by kernel_rfl) Try.func3
    (ChangeSpec.witness6 (enc := enc) (C := Try.checked) false ⟨#[], #[.slice none 0 0], []⟩ 8 (by kernel_rfl) (by kernel_rfl) (by kernel_rfl) (by kernel_rfl)) ?_
  intro W base args ds gs before hval0 hW hcnd hsz0 _
  have hval : ∀ (j : Nat) t v, Try.f3.params[j]? = some t → args[j]? = some v → Value.okWide Try.prog W .any base t v := hval0
  have hW' := hW
  obtain ⟨p, q, hA0, hV, rfl, hfz, hnd⟩ := hW
  have hsz : (DataW.weightsEach Try.prog (Try.f3.params.toList ++ Rows.feedPiecesSpec.plain.varTypes Try.prog) (ds ++ gs)).all (· ≤ reachBytes) = true := hsz0
  have hA : DataW.TrodAll enc Try.prog W 0 (fun _ => true) true Try.f3.params.toList args.toList ds p := hA0
  rw [Try.params3] at hA hval hsz
  obtain ⟨v0, vs0, d0, ds0, p0, q0, hargs, rfl, rfl, h0, r0⟩ := trodAll_cons hA
  obtain ⟨rfl, rfl, rfl⟩ := trodAll_nil r0
  obtain rfl : args = #[v0] := by cases args; simp_all
  obtain ⟨rfl, rfl⟩ := trodVars_none hV
  obtain ⟨a0, len0, cap0, rfl⟩ := okWide_slice Try.underlying22 (hval 0 22 v0 rfl rfl)
  have k0 := h0
  have lt0 : ∀ x ∈ p0, x.block < W.heap.size := by obtain ⟨m, hm⟩ := k0; exact DataW.trod_lt m _ _ _ hm
  obtain ⟨A0, L0, C0, T0, w0, g0⟩ : ∃ A L C T, Pcs W W.heap.size a0 len0 A L C T ∧ len0 ≤ cap0 ∧ cap0 ≤ maxLen := by
    obtain ⟨fuel, hf⟩ := h0
    exact open_pcs hf (fits_of hsz (j := 0) rfl rfl)
  clear hA0 hval0 hsz hsz0
  refine (walk a0 len0 cap0 A0 L0 C0 T0 W w0 g0).mono fun e W' ⟨he, bel⟩ => ?_
  subst he
  exact ⟨_, rfl, _, _, _, [], _, [], hW', trodAll_mk1 (shut_bool Try.underlying4 _), (trodAll_cons_mk (Below.trod laidOut (by kernel_rfl) (of_decide_eq_true (by kernel_rfl)) k0 bel lt0) trodAll_mk0), rfl, bel.frame _, fun h => by cases h⟩

theorem over : Rows.feedPiecesRow.holds Try.pinned (OpenSpec.ofChange Rows.feedPiecesSpec) :=
  OpenClaim.holds_of_wide 3 Try.f3 rfl rfl rfl rfl rfl rfl rfl ⟨rfl, rfl, rfl, rfl, rfl⟩ rfl rfl rfl rfl rfl (by kernel_rfl) Try.func3 (by kernel_rfl)
    (of_decide_eq_true (by kernel_rfl)) (by unfold Func.isWrapper; first | (rw [if_pos (by decide +kernel)]; kernel_rfl) | (rw [if_neg (by decide +kernel)]; exact ⟨rfl, rfl⟩))
    (fun os started H enc _ => lifted os started H enc)

end Go.Proofs.Ytlifnjihnppckaa.feedPieces
namespace Go.Proofs.Ytlifnjihnppckaa
theorem feedPieces_holds : Rows.FeedPiecesSaid := feedPieces.over
#print axioms feedPieces_holds
end Go.Proofs.Ytlifnjihnppckaa
