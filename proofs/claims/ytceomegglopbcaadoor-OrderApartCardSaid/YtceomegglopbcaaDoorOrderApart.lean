/- OrderApart: for every input the law answers true, and its arguments read as before. Conditions: none. -/
import Derived.Test.YtceomegglopbcaaDoorOrd
import Derived.Deep.RegionHeld
namespace Go.Proofs.YtceomegglopbcaaDoor.orderApart
open Go.ChangeShapes Go.WideShapes Go.ChangeAt Go.RowKit
open Dgs Orm

/-- two commands in memory, and the table -/
structure AA (w0 w : World) (g3 g4 : Nat) (k0 n0 k1 n1 : Int) : Prop where
  x : Bx g3 w #[.int .i64 k0, .int .i64 n0]
  y : Bx g4 w #[.int .i64 k1, .int .i64 n1]
  ti : TI w
  bel : Below w0.heap.size w0 w

theorem AA.go {w0 w w2 : World} {g3 g4 : Nat} {k0 n0 k1 n1 : Int} (h : AA w0 w g3 g4 k0 n0 k1 n1) (hb : Below w.heap.size w w2) : AA w0 w2 g3 g4 k0 n0 k1 n1 :=
  ⟨h.x.go hb h.x.room, h.y.go hb h.y.room, h.ti.below hb, Below.trans h.bel (hb.mono h.bel.size)⟩

set_option maxRecDepth 100000 in
set_option maxHeartbeats 4000000 in
theorem walk (k_0 n_0 : Int) (k_1 n_1 : Int) (t2 : Bs) (w : World) (w0 : (Lit.int .i64 k_0).wf = true ∧ (Lit.int .i64 n_0).wf = true) (w1 : (Lit.int .i64 k_1).wf = true ∧ (Lit.int .i64 n_1).wf = true) (w2 : t2.length ≤ maxLen) (ht : TI w) :
    Calls Tryd.prog 5 #[.agg #[.int .i64 k_0, .int .i64 n_0], .agg #[.int .i64 k_1, .int .i64 n_1], .string (str t2)] w fun e w' => e = .returned (.bool true) ∧ Below w.heap.size w w' := by
  have HW := Lib.hid (And.intro w0 w1)
  have hmax : t2.length ≤ 9223372036854775807 := by unfold maxLen at w2; omega
  have hts := str_size t2
  have hb0 := below_lit2 w (.cells #[.int .i64 k_0, .int .i64 n_0] 24)
  have hb1 := below_lit2 (w.alloc (.cells #[.int .i64 k_0, .int .i64 n_0] 24)) (.cells #[.int .i64 k_1, .int .i64 n_1] 24)
  have HA0 := Lib.hid (show AA w ((w.alloc (.cells #[.int .i64 k_0, .int .i64 n_0] 24)).alloc (.cells #[.int .i64 k_1, .int .i64 n_1] 24)) w.heap.size (w.heap.size + 1) k_0 n_0 k_1 n_1 from
    ⟨(Bx.new w _ rfl _ _).go hb1 (by simp), Bx.new _ _ (by simp) _ _, (ht.below hb0).below hb1, Below.trans hb0 (hb1.mono (by simp))⟩)
  have hh := ohead_any _ HA0.out.ti
  clear w0 w1 w2 ht hb0 hb1
  go_enter Tryd.func5, Tryd.ntmps5
  go_wp2_with fail
  refine hh.mono ?_
  rintro e w1 ⟨rfl, hb1⟩
  have HA1 := Lib.hid (HA0.out.go hb1)
  have c0 := HA1.out.x.cell 0 _ rfl
  have c1 := HA1.out.x.cell 1 _ rfl
  have d0 := HA1.out.y.cell 0 _ rfl
  have d1 := HA1.out.y.cell 1 _ rfl
  clear hh hb1 HA0
  have hp := oright_any k_0 n_0 w1
  go_wp2_with fail
  refine hp.mono ?_
  clear hp
  rintro e w2 ⟨rfl, hb2⟩
  have HA2 := Lib.hid (HA1.out.go hb2)
  clear c0 c1 d0 d1 hb2 HA1
  have c0 := HA2.out.x.cell 0 _ rfl
  have c1 := HA2.out.x.cell 1 _ rfl
  have d0 := HA2.out.y.cell 0 _ rfl
  have d1 := HA2.out.y.cell 1 _ rfl
  by_cases hr0 : Rt k_0 n_0
  · rw [show rtB k_0 n_0 = true by unfold rtB; simp [hr0]]
    have hp := oright_any k_1 n_1 w2
    have HR0 := Lib.hid hr0
    clear hr0
    go_wp2_with fail
    refine hp.mono ?_
    clear hp
    rintro e w3 ⟨rfl, hb3⟩
    have HA3 := Lib.hid (HA2.out.go hb3)
    clear c0 c1 d0 d1 hb3 HA2
    have c0 := HA3.out.x.cell 0 _ rfl
    have c1 := HA3.out.x.cell 1 _ rfl
    have d0 := HA3.out.y.cell 0 _ rfl
    have d1 := HA3.out.y.cell 1 _ rfl
    by_cases hr1 : Rt k_1 n_1
    · rw [show rtB k_1 n_1 = true by unfold rtB; simp [hr1]]
      have HR1 := Lib.hid hr1
      clear hr1
      by_cases hlen : 40 < t2.length
      · have hd0 : decide (40 < (t2.length : Int)) = true := by simp; omega
        go_wp2
        go_ret
        exact ⟨rfl, HA3.out.bel⟩
      · have hd0 : decide (40 < (t2.length : Int)) = false := by simp; omega
        go_upto_region 5 with fail
        have ht0 := text_of HR0.out
        have ht1 := text_of HR1.out
        have HTX := Lib.hid (And.intro ht0 ht1)
        have HC1 := Lib.hid (ostring_any k_0 n_0 w3.drew (HA3.out.ti.below (below_drew (Below.refl _ _))))
        clear ht0 ht1
        by_cases hk : k_0 = k_1 ∧ n_0 = n_1
        · obtain ⟨rfl, rfl⟩ := hk
          clear c0 c1 d0 d1
          have hzz : ((str (tx k_0 n_0)).toList == (str (tx k_0 n_0)).toList) = true := by simp
          go_region_held (fun w' => w'.cell? ⟨w.heap.size, 0, none⟩ = some (.int .i64 k_0) ∧ w'.cell? ⟨w.heap.size, 1, none⟩ = some (.int .i64 n_0) ∧ w'.cell? ⟨w.heap.size + 1, 0, none⟩ = some (.int .i64 k_0) ∧ w'.cell? ⟨w.heap.size + 1, 1, none⟩ = some (.int .i64 n_0))
            (first | exact ⟨HAb.out.x.cell 0 _ rfl, HAb.out.x.cell 1 _ rfl, HAb.out.y.cell 0 _ rfl, HAb.out.y.cell 1 _ rfl⟩ | exact ⟨HAa.out.x.cell 0 _ rfl, HAa.out.x.cell 1 _ rfl, HAa.out.y.cell 0 _ rfl, HAa.out.y.cell 1 _ rfl⟩ | exact ⟨HA3.out.x.cell 0 _ rfl, HA3.out.x.cell 1 _ rfl, HA3.out.y.cell 0 _ rfl, HA3.out.y.cell 1 _ rfl⟩)
            (first
              | (go_at_call 8; have hc2 := ostring_any k_0 n_0 wa HAa.out.ti; refine hc2.mono ?_; clear hc2; rintro e wb ⟨rfl, hbb⟩; rw [HTX.out.2]; have HAb := Lib.hid (HAa.out.go hbb); clear hbb)
              | (go_at_call 8; refine HC1.out.mono ?_; rintro e wa ⟨rfl, hba⟩; rw [HTX.out.1]; have hba : Below w3.heap.size w3.drew wa := hba; have HAa := Lib.hid (HA3.out.go (below_back hba)); clear hba))
          rename_i hh
          clear hh
          have c0 := HAb.out.x.cell 0 _ rfl
          have c1 := HAb.out.x.cell 1 _ rfl
          clear HA3 HAa
          have hxs := str_size (tx k_0 n_0)
          have hxl := tx_len HR0.out
          have hp := ostring_any k_0 n_0 wb HAb.out.ti
          go_wp2_with fail
          refine hp.mono ?_
          clear hp
          rintro e wc ⟨rfl, hbc⟩
          rw [HTX.out.1]
          have HAc := Lib.hid (HAb.out.go hbc)
          clear hbc c0 c1 HAb
          have c0 := HAc.out.x.cell 0 _ rfl
          have c1 := HAc.out.x.cell 1 _ rfl
          have hp := oparse_any (tx k_0 n_0 ++ t2) wc HAc.out.ti (by rw [List.length_append]; omega)
          rw [str_app] at hp
          go_wp2_with fail
          refine hp.mono ?_
          clear hp
          rintro e wd ⟨hbd, hq⟩
          by_cases hm : t2 = []
          · rw [hm, List.append_nil] at hq
            have hs2 : str t2 = ⟨#[]⟩ := by rw [hm]; rfl
            rw [hs2]
            have hI0 : Is (tx k_0 n_0) k_0 n_0 := ⟨HR0.out, rfl⟩
            rcases hq with ⟨k, n, hi, rfl⟩ | ⟨hno, _⟩
            · obtain ⟨rfl, rfl⟩ := hi.one hI0
              have hbl := below_lit2 wd (.cells #[.int .i64 k, .int .i64 n] 24)
              have hxd := HAc.out.x.go hbd HAc.out.x.room
              have HXd := Lib.hid (hxd.go hbl hxd.room)
              have HYd := Lib.hid (Bx.new wd _ rfl #[.int .i64 k, .int .i64 n] 24)
              have HBd := Lib.hid (Below.trans (Below.trans HAc.out.bel (hbd.mono HAc.out.bel.size)) (hbl.mono (Nat.le_trans HAc.out.bel.size hbd.size)))
              clear hi hI0 hm
              clear c0 c1
              have c0 := HXd.out.cell 0 _ rfl
              have c1 := HXd.out.cell 1 _ rfl
              have e0 := HYd.out.cell 0 _ rfl
              have e1 := HYd.out.cell 1 _ rfl
              clear hbl hbd hxd
              go_wp2
              go_ret
              exact ⟨rfl, HBd.out⟩
            · exact absurd hI0 (hno _ _)
          · have hne : ((str t2).toList == (⟨#[]⟩ : ByteArray).toList) = false := str_ne (m := []) hm
            have hne2 : (str t2).toList.isEmpty = false := by
              cases h : (str t2).toList.isEmpty
              · rfl
              · rw [List.isEmpty_iff] at h
                rw [h, s_nil] at hne
                simp at hne
            rcases hq with ⟨k, n, hi, rfl⟩ | ⟨_, rfl⟩
            · have hdiff : ¬ (k = k_0 ∧ n = n_0) := by
                rintro ⟨rfl, rfl⟩
                have h2 := hi.2
                have h3 : tx k n ++ [] = tx k n ++ t2 := by rw [List.append_nil]; exact h2
                exact hm (List.append_cancel_left h3).symm
              by_cases hk2 : k = k_0
              · have hn2 : (n == n_0) = false := by simp; exact fun h => hdiff ⟨hk2, h⟩
                subst hk2
                clear hdiff hi hm
                have hbl := below_lit2 wd (.cells #[.int .i64 k, .int .i64 n] 24)
                have hxd := HAc.out.x.go hbd HAc.out.x.room
                have HXd := Lib.hid (hxd.go hbl hxd.room)
                have HYd := Lib.hid (Bx.new wd _ rfl #[.int .i64 k, .int .i64 n] 24)
                have HBd := Lib.hid (Below.trans (Below.trans HAc.out.bel (hbd.mono HAc.out.bel.size)) (hbl.mono (Nat.le_trans HAc.out.bel.size hbd.size)))
                clear c0 c1
                have c0 := HXd.out.cell 0 _ rfl
                have c1 := HXd.out.cell 1 _ rfl
                have e0 := HYd.out.cell 0 _ rfl
                have e1 := HYd.out.cell 1 _ rfl
                clear hbl hbd hxd
                go_wp2
                go_ret
                exact ⟨rfl, HBd.out⟩
              · have hk3 : (k == k_0) = false := by simp; exact hk2
                clear hdiff hi hm hk2
                have hbl := below_lit2 wd (.cells #[.int .i64 k, .int .i64 n] 24)
                have hxd := HAc.out.x.go hbd HAc.out.x.room
                have HXd := Lib.hid (hxd.go hbl hxd.room)
                have HYd := Lib.hid (Bx.new wd _ rfl #[.int .i64 k, .int .i64 n] 24)
                have HBd := Lib.hid (Below.trans (Below.trans HAc.out.bel (hbd.mono HAc.out.bel.size)) (hbl.mono (Nat.le_trans HAc.out.bel.size hbd.size)))
                clear c0 c1
                have c0 := HXd.out.cell 0 _ rfl
                have c1 := HXd.out.cell 1 _ rfl
                have e0 := HYd.out.cell 0 _ rfl
                have e1 := HYd.out.cell 1 _ rfl
                clear hbl hbd hxd
                go_wp2
                go_ret
                exact ⟨rfl, HBd.out⟩
            · clear hm
              have hbl := below_lit2 wd (.cells #[.int .i64 0, .int .i64 0] 24)
              have hxd := HAc.out.x.go hbd HAc.out.x.room
              have HXd := Lib.hid (hxd.go hbl hxd.room)
              have HYd := Lib.hid (Bx.new wd _ rfl #[.int .i64 0, .int .i64 0] 24)
              have HBd := Lib.hid (Below.trans (Below.trans HAc.out.bel (hbd.mono HAc.out.bel.size)) (hbl.mono (Nat.le_trans HAc.out.bel.size hbd.size)))
              clear c0 c1
              have c0 := HXd.out.cell 0 _ rfl
              have c1 := HXd.out.cell 1 _ rfl
              have e0 := HYd.out.cell 0 _ rfl
              have e1 := HYd.out.cell 1 _ rfl
              clear hbl hbd hxd
              go_wp2
              go_ret
              exact ⟨rfl, HBd.out⟩
        · have hzz : ((str (tx k_0 n_0)).toList == (str (tx k_1 n_1)).toList) = false := str_ne (fun h => hk (tx_inj HR0.out HR1.out h))
          clear c0 c1 d0 d1
          by_cases hk1 : k_0 = k_1
          · have hn1 : (n_0 == n_1) = false := by simp; exact fun h => hk ⟨hk1, h⟩
            clear hk
            subst hk1
            go_region_held (fun w' => w'.cell? ⟨w.heap.size, 0, none⟩ = some (.int .i64 k_0) ∧ w'.cell? ⟨w.heap.size, 1, none⟩ = some (.int .i64 n_0) ∧ w'.cell? ⟨w.heap.size + 1, 0, none⟩ = some (.int .i64 k_0) ∧ w'.cell? ⟨w.heap.size + 1, 1, none⟩ = some (.int .i64 n_1))
              (first | exact ⟨HAb.out.x.cell 0 _ rfl, HAb.out.x.cell 1 _ rfl, HAb.out.y.cell 0 _ rfl, HAb.out.y.cell 1 _ rfl⟩ | exact ⟨HAa.out.x.cell 0 _ rfl, HAa.out.x.cell 1 _ rfl, HAa.out.y.cell 0 _ rfl, HAa.out.y.cell 1 _ rfl⟩ | exact ⟨HA3.out.x.cell 0 _ rfl, HA3.out.x.cell 1 _ rfl, HA3.out.y.cell 0 _ rfl, HA3.out.y.cell 1 _ rfl⟩)
              (first
                | (go_at_call 8; have hc2 := ostring_any k_0 n_1 wa HAa.out.ti; refine hc2.mono ?_; clear hc2; rintro e wb ⟨rfl, hbb⟩; rw [HTX.out.2]; have HAb := Lib.hid (HAa.out.go hbb); clear hbb)
                | (go_at_call 8; refine HC1.out.mono ?_; rintro e wa ⟨rfl, hba⟩; rw [HTX.out.1]; have hba : Below w3.heap.size w3.drew wa := hba; have HAa := Lib.hid (HA3.out.go (below_back hba)); clear hba))
            rename_i hh
            clear hh
            have c0 := HAb.out.x.cell 0 _ rfl
            have c1 := HAb.out.x.cell 1 _ rfl
            clear HA3 HAa
            have hxs := str_size (tx k_0 n_0)
            have hxl := tx_len HR0.out
            have hp := ostring_any k_0 n_0 wb HAb.out.ti
            go_wp2_with fail
            refine hp.mono ?_
            clear hp
            rintro e wc ⟨rfl, hbc⟩
            rw [HTX.out.1]
            have HAc := Lib.hid (HAb.out.go hbc)
            clear hbc c0 c1 HAb
            have c0 := HAc.out.x.cell 0 _ rfl
            have c1 := HAc.out.x.cell 1 _ rfl
            have hp := oparse_any (tx k_0 n_0 ++ t2) wc HAc.out.ti (by rw [List.length_append]; omega)
            rw [str_app] at hp
            go_wp2_with fail
            refine hp.mono ?_
            clear hp
            rintro e wd ⟨hbd, hq⟩
            by_cases hm : t2 = []
            · rw [hm, List.append_nil] at hq
              have hs2 : str t2 = ⟨#[]⟩ := by rw [hm]; rfl
              rw [hs2]
              have hI0 : Is (tx k_0 n_0) k_0 n_0 := ⟨HR0.out, rfl⟩
              rcases hq with ⟨k, n, hi, rfl⟩ | ⟨hno, _⟩
              · obtain ⟨rfl, rfl⟩ := hi.one hI0
                have hbl := below_lit2 wd (.cells #[.int .i64 k, .int .i64 n] 24)
                have hxd := HAc.out.x.go hbd HAc.out.x.room
                have HXd := Lib.hid (hxd.go hbl hxd.room)
                have HYd := Lib.hid (Bx.new wd _ rfl #[.int .i64 k, .int .i64 n] 24)
                have HBd := Lib.hid (Below.trans (Below.trans HAc.out.bel (hbd.mono HAc.out.bel.size)) (hbl.mono (Nat.le_trans HAc.out.bel.size hbd.size)))
                clear hi hI0 hm
                clear c0 c1
                have c0 := HXd.out.cell 0 _ rfl
                have c1 := HXd.out.cell 1 _ rfl
                have e0 := HYd.out.cell 0 _ rfl
                have e1 := HYd.out.cell 1 _ rfl
                clear hbl hbd hxd
                go_wp2
                go_ret
                exact ⟨rfl, HBd.out⟩
              · exact absurd hI0 (hno _ _)
            · have hne : ((str t2).toList == (⟨#[]⟩ : ByteArray).toList) = false := str_ne (m := []) hm
              have hne2 : (str t2).toList.isEmpty = false := by
                cases h : (str t2).toList.isEmpty
                · rfl
                · rw [List.isEmpty_iff] at h
                  rw [h, s_nil] at hne
                  simp at hne
              rcases hq with ⟨k, n, hi, rfl⟩ | ⟨_, rfl⟩
              · have hdiff : ¬ (k = k_0 ∧ n = n_0) := by
                  rintro ⟨rfl, rfl⟩
                  have h2 := hi.2
                  have h3 : tx k n ++ [] = tx k n ++ t2 := by rw [List.append_nil]; exact h2
                  exact hm (List.append_cancel_left h3).symm
                by_cases hk2 : k = k_0
                · have hn2 : (n == n_0) = false := by simp; exact fun h => hdiff ⟨hk2, h⟩
                  subst hk2
                  clear hdiff hi hm
                  have hbl := below_lit2 wd (.cells #[.int .i64 k, .int .i64 n] 24)
                  have hxd := HAc.out.x.go hbd HAc.out.x.room
                  have HXd := Lib.hid (hxd.go hbl hxd.room)
                  have HYd := Lib.hid (Bx.new wd _ rfl #[.int .i64 k, .int .i64 n] 24)
                  have HBd := Lib.hid (Below.trans (Below.trans HAc.out.bel (hbd.mono HAc.out.bel.size)) (hbl.mono (Nat.le_trans HAc.out.bel.size hbd.size)))
                  clear c0 c1
                  have c0 := HXd.out.cell 0 _ rfl
                  have c1 := HXd.out.cell 1 _ rfl
                  have e0 := HYd.out.cell 0 _ rfl
                  have e1 := HYd.out.cell 1 _ rfl
                  clear hbl hbd hxd
                  go_wp2
                  go_ret
                  exact ⟨rfl, HBd.out⟩
                · have hk3 : (k == k_0) = false := by simp; exact hk2
                  clear hdiff hi hm hk2
                  have hbl := below_lit2 wd (.cells #[.int .i64 k, .int .i64 n] 24)
                  have hxd := HAc.out.x.go hbd HAc.out.x.room
                  have HXd := Lib.hid (hxd.go hbl hxd.room)
                  have HYd := Lib.hid (Bx.new wd _ rfl #[.int .i64 k, .int .i64 n] 24)
                  have HBd := Lib.hid (Below.trans (Below.trans HAc.out.bel (hbd.mono HAc.out.bel.size)) (hbl.mono (Nat.le_trans HAc.out.bel.size hbd.size)))
                  clear c0 c1
                  have c0 := HXd.out.cell 0 _ rfl
                  have c1 := HXd.out.cell 1 _ rfl
                  have e0 := HYd.out.cell 0 _ rfl
                  have e1 := HYd.out.cell 1 _ rfl
                  clear hbl hbd hxd
                  go_wp2
                  go_ret
                  exact ⟨rfl, HBd.out⟩
              · clear hm
                have hbl := below_lit2 wd (.cells #[.int .i64 0, .int .i64 0] 24)
                have hxd := HAc.out.x.go hbd HAc.out.x.room
                have HXd := Lib.hid (hxd.go hbl hxd.room)
                have HYd := Lib.hid (Bx.new wd _ rfl #[.int .i64 0, .int .i64 0] 24)
                have HBd := Lib.hid (Below.trans (Below.trans HAc.out.bel (hbd.mono HAc.out.bel.size)) (hbl.mono (Nat.le_trans HAc.out.bel.size hbd.size)))
                clear c0 c1
                have c0 := HXd.out.cell 0 _ rfl
                have c1 := HXd.out.cell 1 _ rfl
                have e0 := HYd.out.cell 0 _ rfl
                have e1 := HYd.out.cell 1 _ rfl
                clear hbl hbd hxd
                go_wp2
                go_ret
                exact ⟨rfl, HBd.out⟩
          · have hk2 : (k_0 == k_1) = false := by simp; exact hk1
            clear hk hk1
            go_region_held (fun w' => w'.cell? ⟨w.heap.size, 0, none⟩ = some (.int .i64 k_0) ∧ w'.cell? ⟨w.heap.size, 1, none⟩ = some (.int .i64 n_0) ∧ w'.cell? ⟨w.heap.size + 1, 0, none⟩ = some (.int .i64 k_1) ∧ w'.cell? ⟨w.heap.size + 1, 1, none⟩ = some (.int .i64 n_1))
              (first | exact ⟨HAb.out.x.cell 0 _ rfl, HAb.out.x.cell 1 _ rfl, HAb.out.y.cell 0 _ rfl, HAb.out.y.cell 1 _ rfl⟩ | exact ⟨HAa.out.x.cell 0 _ rfl, HAa.out.x.cell 1 _ rfl, HAa.out.y.cell 0 _ rfl, HAa.out.y.cell 1 _ rfl⟩ | exact ⟨HA3.out.x.cell 0 _ rfl, HA3.out.x.cell 1 _ rfl, HA3.out.y.cell 0 _ rfl, HA3.out.y.cell 1 _ rfl⟩)
              (first
                | (go_at_call 8; have hc2 := ostring_any k_1 n_1 wa HAa.out.ti; refine hc2.mono ?_; clear hc2; rintro e wb ⟨rfl, hbb⟩; rw [HTX.out.2]; have HAb := Lib.hid (HAa.out.go hbb); clear hbb)
                | (go_at_call 8; refine HC1.out.mono ?_; rintro e wa ⟨rfl, hba⟩; rw [HTX.out.1]; have hba : Below w3.heap.size w3.drew wa := hba; have HAa := Lib.hid (HA3.out.go (below_back hba)); clear hba))
            rename_i hh
            clear hh
            have c0 := HAb.out.x.cell 0 _ rfl
            have c1 := HAb.out.x.cell 1 _ rfl
            clear HA3 HAa
            have hxs := str_size (tx k_0 n_0)
            have hxl := tx_len HR0.out
            have hp := ostring_any k_0 n_0 wb HAb.out.ti
            go_wp2_with fail
            refine hp.mono ?_
            clear hp
            rintro e wc ⟨rfl, hbc⟩
            rw [HTX.out.1]
            have HAc := Lib.hid (HAb.out.go hbc)
            clear hbc c0 c1 HAb
            have c0 := HAc.out.x.cell 0 _ rfl
            have c1 := HAc.out.x.cell 1 _ rfl
            have hp := oparse_any (tx k_0 n_0 ++ t2) wc HAc.out.ti (by rw [List.length_append]; omega)
            rw [str_app] at hp
            go_wp2_with fail
            refine hp.mono ?_
            clear hp
            rintro e wd ⟨hbd, hq⟩
            by_cases hm : t2 = []
            · rw [hm, List.append_nil] at hq
              have hs2 : str t2 = ⟨#[]⟩ := by rw [hm]; rfl
              rw [hs2]
              have hI0 : Is (tx k_0 n_0) k_0 n_0 := ⟨HR0.out, rfl⟩
              rcases hq with ⟨k, n, hi, rfl⟩ | ⟨hno, _⟩
              · obtain ⟨rfl, rfl⟩ := hi.one hI0
                have hbl := below_lit2 wd (.cells #[.int .i64 k, .int .i64 n] 24)
                have hxd := HAc.out.x.go hbd HAc.out.x.room
                have HXd := Lib.hid (hxd.go hbl hxd.room)
                have HYd := Lib.hid (Bx.new wd _ rfl #[.int .i64 k, .int .i64 n] 24)
                have HBd := Lib.hid (Below.trans (Below.trans HAc.out.bel (hbd.mono HAc.out.bel.size)) (hbl.mono (Nat.le_trans HAc.out.bel.size hbd.size)))
                clear hi hI0 hm
                clear c0 c1
                have c0 := HXd.out.cell 0 _ rfl
                have c1 := HXd.out.cell 1 _ rfl
                have e0 := HYd.out.cell 0 _ rfl
                have e1 := HYd.out.cell 1 _ rfl
                clear hbl hbd hxd
                go_wp2
                go_ret
                exact ⟨rfl, HBd.out⟩
              · exact absurd hI0 (hno _ _)
            · have hne : ((str t2).toList == (⟨#[]⟩ : ByteArray).toList) = false := str_ne (m := []) hm
              have hne2 : (str t2).toList.isEmpty = false := by
                cases h : (str t2).toList.isEmpty
                · rfl
                · rw [List.isEmpty_iff] at h
                  rw [h, s_nil] at hne
                  simp at hne
              rcases hq with ⟨k, n, hi, rfl⟩ | ⟨_, rfl⟩
              · have hdiff : ¬ (k = k_0 ∧ n = n_0) := by
                  rintro ⟨rfl, rfl⟩
                  have h2 := hi.2
                  have h3 : tx k n ++ [] = tx k n ++ t2 := by rw [List.append_nil]; exact h2
                  exact hm (List.append_cancel_left h3).symm
                by_cases hk2 : k = k_0
                · have hn2 : (n == n_0) = false := by simp; exact fun h => hdiff ⟨hk2, h⟩
                  subst hk2
                  clear hdiff hi hm
                  have hbl := below_lit2 wd (.cells #[.int .i64 k, .int .i64 n] 24)
                  have hxd := HAc.out.x.go hbd HAc.out.x.room
                  have HXd := Lib.hid (hxd.go hbl hxd.room)
                  have HYd := Lib.hid (Bx.new wd _ rfl #[.int .i64 k, .int .i64 n] 24)
                  have HBd := Lib.hid (Below.trans (Below.trans HAc.out.bel (hbd.mono HAc.out.bel.size)) (hbl.mono (Nat.le_trans HAc.out.bel.size hbd.size)))
                  clear c0 c1
                  have c0 := HXd.out.cell 0 _ rfl
                  have c1 := HXd.out.cell 1 _ rfl
                  have e0 := HYd.out.cell 0 _ rfl
                  have e1 := HYd.out.cell 1 _ rfl
                  clear hbl hbd hxd
                  go_wp2
                  go_ret
                  exact ⟨rfl, HBd.out⟩
                · have hk3 : (k == k_0) = false := by simp; exact hk2
                  clear hdiff hi hm hk2
                  have hbl := below_lit2 wd (.cells #[.int .i64 k, .int .i64 n] 24)
                  have hxd := HAc.out.x.go hbd HAc.out.x.room
                  have HXd := Lib.hid (hxd.go hbl hxd.room)
                  have HYd := Lib.hid (Bx.new wd _ rfl #[.int .i64 k, .int .i64 n] 24)
                  have HBd := Lib.hid (Below.trans (Below.trans HAc.out.bel (hbd.mono HAc.out.bel.size)) (hbl.mono (Nat.le_trans HAc.out.bel.size hbd.size)))
                  clear c0 c1
                  have c0 := HXd.out.cell 0 _ rfl
                  have c1 := HXd.out.cell 1 _ rfl
                  have e0 := HYd.out.cell 0 _ rfl
                  have e1 := HYd.out.cell 1 _ rfl
                  clear hbl hbd hxd
                  go_wp2
                  go_ret
                  exact ⟨rfl, HBd.out⟩
              · clear hm
                have hbl := below_lit2 wd (.cells #[.int .i64 0, .int .i64 0] 24)
                have hxd := HAc.out.x.go hbd HAc.out.x.room
                have HXd := Lib.hid (hxd.go hbl hxd.room)
                have HYd := Lib.hid (Bx.new wd _ rfl #[.int .i64 0, .int .i64 0] 24)
                have HBd := Lib.hid (Below.trans (Below.trans HAc.out.bel (hbd.mono HAc.out.bel.size)) (hbl.mono (Nat.le_trans HAc.out.bel.size hbd.size)))
                clear c0 c1
                have c0 := HXd.out.cell 0 _ rfl
                have c1 := HXd.out.cell 1 _ rfl
                have e0 := HYd.out.cell 0 _ rfl
                have e1 := HYd.out.cell 1 _ rfl
                clear hbl hbd hxd
                go_wp2
                go_ret
                exact ⟨rfl, HBd.out⟩
    · rw [show rtB k_1 n_1 = false by unfold rtB; simp [hr1]]
      go_wp2
      go_ret
      exact ⟨rfl, HA3.out.bel⟩
  · rw [show rtB k_0 n_0 = false by unfold rtB; simp [hr0]]
    go_wp2
    go_ret
    exact ⟨rfl, HA2.out.bel⟩

set_option maxRecDepth 100000 in
theorem lifted (os : Os) (started : os.Started) (H : Type) (enc : TypeId × Value → H) :
    ReturnsInHanded {} Tryd.checked os 5 .any (fun w args => (Rows.orderApartSpec.pre enc Tryd.prog Tryd.f5 [] false w args ∧ laidMetH Tryd.prog laidL w) ∧ sizedMet enc Tryd.prog Tryd.f5 (OpenSpec.ofChange Rows.orderApartSpec) false w args)
      (Rows.orderApartSpec.post enc Tryd.prog Tryd.f5 false true false false) := by
  refine returnsInHanded_of_change_and (C := Tryd.checked) (X := fun w _ => laidMetH Tryd.prog laidL w) (fun _ _ _ hh h => h.of_heap hh) own started (by kernel_rfl) Tryd.func5
    (ChangeSpec.witness_shaped (enc := enc) (C := Tryd.checked) (os := os) (X := fun w _ => laidMetH Tryd.prog laidL w) false (World.doorLaid Tryd.prog 400 os) #[.agg #[.int .i64 0, .int .i64 0], .agg #[.int .i64 0, .int .i64 0], .string ⟨#[]⟩] 8 rfl (World.shaped_of_RefB (by kernel_rfl) (by kernel_rfl)) (by kernel_rfl) (by kernel_rfl) (by kernel_rfl) (door_met os _)) ?_
  intro W base args ds gs before hval0 hW hcnd hsz0 hL _
  have hti := ti_of hL
  have hval : ∀ (j : Nat) t v, Tryd.f5.params[j]? = some t → args[j]? = some v → Value.okWide Tryd.prog W .any base t v := hval0
  have hW' := hW
  obtain ⟨p, q, hA0, hV, rfl, hfz, hnd⟩ := hW
  have hsz : (DataW.weightsEach Tryd.prog (Tryd.f5.params.toList ++ Rows.orderApartSpec.plain.varTypes Tryd.prog) (ds ++ gs)).all (· ≤ reachBytes) = true := hsz0
  have hA : DataW.TrodAll enc Tryd.prog W 0 (fun _ => true) true Tryd.f5.params.toList args.toList ds p := hA0
  rw [Tryd.params5] at hA hval hsz
  obtain ⟨v0, vs0, d0, ds0, p0, q0, hargs, rfl, rfl, h0, r0⟩ := trodAll_cons hA
  obtain ⟨v1, vs1, d1, ds1, p1, q1, rfl, rfl, rfl, h1, r1⟩ := trodAll_cons r0
  obtain ⟨v2, vs2, d2, ds2, p2, q2, rfl, rfl, rfl, h2, r2⟩ := trodAll_cons r1
  obtain ⟨rfl, rfl, rfl⟩ := trodAll_nil r2
  obtain rfl : args = #[v0, v1, v2] := by cases args; simp_all
  obtain ⟨rfl, rfl⟩ := trodVars_none hV
  have k0 := h0
  have lt0 : ∀ x ∈ p0, x.block < W.heap.size := by obtain ⟨m, hm⟩ := k0; exact DataW.trod_lt m _ _ _ hm
  obtain ⟨k_0, n_0, rfl, w0⟩ := open_order (hval 0 24 v0 rfl rfl) h0
  have k1 := h1
  have lt1 : ∀ x ∈ p1, x.block < W.heap.size := by obtain ⟨m, hm⟩ := k1; exact DataW.trod_lt m _ _ _ hm
  obtain ⟨k_1, n_1, rfl, w1⟩ := open_order (hval 1 24 v1 rfl rfl) h1
  have k2 := h2
  have lt2 : ∀ x ∈ p2, x.block < W.heap.size := by obtain ⟨m, hm⟩ := k2; exact DataW.trod_lt m _ _ _ hm
  obtain ⟨s2, rfl, _, _, hs2⟩ := Go.ChangeMaps.open_string Tryd.underlying9 (hval 2 9 v2 rfl rfl) h2
  obtain ⟨t2, rfl, w2⟩ := as_str s2 hs2
  clear hA0 hval0 hsz hsz0
  refine (walk k_0 n_0 k_1 n_1 t2 W w0 w1 w2 hti).mono fun e W' ⟨he, bel⟩ => ?_
  subst he
  exact ⟨_, rfl, _, _, _, [], _, [], hW', trodAll_mk1 (shut_bool Tryd.underlying4 _), (trodAll_cons_mk (Below.trod laidOut (by kernel_rfl) (of_decide_eq_true (by kernel_rfl)) k0 bel lt0) (trodAll_cons_mk (Below.trod laidOut (by kernel_rfl) (of_decide_eq_true (by kernel_rfl)) k1 bel lt1) (trodAll_cons_mk (Below.trod laidOut (by kernel_rfl) (of_decide_eq_true (by kernel_rfl)) k2 bel lt2) trodAll_mk0))), rfl, bel.frame _, fun h => by cases h⟩

theorem over : Rows.OrderApartSaid :=
  OpenClaim.holds_of_wide 5 Tryd.f5 rfl rfl rfl rfl rfl rfl rfl ⟨rfl, rfl, rfl, rfl, rfl⟩ rfl rfl rfl rfl rfl (by kernel_rfl) Tryd.func5 (by kernel_rfl)
    (of_decide_eq_true (by kernel_rfl)) (by unfold Func.isWrapper; first | (rw [if_pos (by decide +kernel)]; kernel_rfl) | (rw [if_neg (by decide +kernel)]; exact ⟨rfl, rfl⟩))
    (fun os started H enc _ => lifted os started H enc)

end Go.Proofs.YtceomegglopbcaaDoor.orderApart
namespace Go.Proofs.YtceomegglopbcaaDoor
theorem orderApart_holds : Rows.OrderApartCardSaid :=
  Claim7.holds_tied_plain_at .later [] _ true _ true
    orderApart.over (fun _ h => by cases h) (by kernel_rfl) (fun _ h => by cases h) orderApart_row_tie rfl ⟨rfl, rfl⟩ (by kernel_rfl) rfl
    (fun f fn hf hfn => by
      obtain rfl : f = 5 := Option.some.inj ((show Tryd.prog.funcNamed Rows.orderApartRow.func = some 5 by kernel_rfl).symm.trans hf) |>.symm
      obtain rfl : fn = Tryd.f5 := (Option.some.inj (Tryd.func5.symm.trans hfn)).symm
      exact ⟨by kernel_rfl, fun j t ht => by
        rw [Tryd.params5] at ht
        have hm : t ∈ [24, 24, 9] := by simpa using Array.mem_of_getElem? ht
        have hall : ([24, 24, 9].all fun u => !Tryd.prog.wantsStandIn u) = true := by kernel_rfl
        exact (show Tryd.prog.wantsStandIn t = false by simpa using List.all_eq_true.1 hall t hm)⟩)
    (by kernel_rfl)
#print axioms orderApart_holds
end Go.Proofs.YtceomegglopbcaaDoor
