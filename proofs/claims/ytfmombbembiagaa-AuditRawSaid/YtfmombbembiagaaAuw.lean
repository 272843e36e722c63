/- What audit's own functions answer. -/
import Derived.Test.YtfmombbembiagaaAu
import Derived.Test.YtfmombbembiagaaMsgr
import Derived.Test.YtfmombbembiagaaBs
import Derived.Deep.DeepCutAuto
import Derived.Deep.RegionHeld
namespace Go.Proofs.Ytfmombbembiagaa
open Go.RowKit
open Fr Ms Au

def sv (o : Bs) (sk : Int) (s : St) : Array Value := #[.string (str o), .int .i64 sk, .bool s.bg, .bool s.en, .int .i64 (s.up : Nat), .int .i64 (s.gp : Nat)]

theorem str_beq (l m : Bs) : ((str l).toList == (str m).toList) = decide (l = m) := by
  by_cases h : l = m
  · subst h; simp
  · rw [str_ne h]; simp [h]

theorem pre_any (s p : Bs) (w : World) :
    Calls Try.prog 20 #[.string (str s), .string (str p)] w fun e w' => e = .returned (.bool (decide (s.take p.length = p))) ∧ w' = w := by
  have h1 := str_size s
  have h2 := str_size p
  have hcut := s_cut s 0 p.length
  rw [List.drop_zero] at hcut
  by_cases hl : p.length ≤ s.length
  · go_enter Try.func20, Try.ntmps20
    go_wp2
    go_ret
    exact ⟨ret_bool (str_beq _ _), rfl⟩
  · have hfin : decide (s.take p.length = p) = false := by
      simp
      intro h
      have := congrArg List.length h
      simp at this
      omega
    rw [hfin]
    go_enter Try.func20, Try.ntmps20
    go_wp2
    go_ret
    exact ⟨rfl, rfl⟩

theorem hpre_any (s p : Bs) (w : World) :
    Calls Try.prog 18 #[.string (str s), .string (str p)] w fun e w' => e = .returned (.bool (decide (s.take p.length = p))) ∧ w' = w := by
  go_enter Try.func18, Try.ntmps18
  go_wp2_with fail
  refine (pre_any s p w).mono ?_
  rintro e w1 ⟨rfl, hw⟩
  obtain rfl := hw.symm
  go_wp2
  go_ret
  exact ⟨rfl, rfl⟩

theorem mhas_any {g : Nat} {w : World} {o : Bs} {sk : Int} {s : St} (h : Bx g w (sv o sk s)) (n : Int) :
    Calls Try.prog 17 #[.pointer (some ⟨g, 0, none⟩), .int .i64 n] w fun e w' => e = .returned (.bool (decide (n ≤ (o.length : Nat)))) ∧ w' = w := by
  have c0 := h.cell 0 (.string (str o)) rfl
  have HS := Lib.hid (str_size o)
  go_enter Try.func17, Try.ntmps17
  go_wp2
  go_ret
  exact ⟨ret_bool (by rw [HS.out]), rfl⟩

section
variable {g : Nat} {w : World} {o : Bs} {sk : Int} {s : St}

theorem mbeg_any (h : Bx g w (sv o sk s)) (k a b : Int) (t : Bs) :
    Calls Try.prog 11 #[.pointer (some ⟨g, 0, none⟩), .agg #[.int .i64 k, .int .i64 a, .int .i64 b, .string (str t)]] w fun e w' => e = .returned (.bool (begB o ⟨k, a, b, t⟩)) ∧ Below w.heap.size w w' := by
  have hb : Below w.heap.size w (w.alloc (.cells #[.int .i64 k, .int .i64 a, .int .i64 b, .string (str t)] 26)) := (Below.refl _ _).alloc (Nat.le_refl _) _
  have HN := Lib.hid (Bx.new w _ rfl #[.int .i64 k, .int .i64 a, .int .i64 b, .string (str t)] 26)
  have HG := Lib.hid (h.go hb h.room)
  have HB := Lib.hid hb
  have HR := Lib.hid (show begB o ⟨k, a, b, t⟩ = (decide (k = 13) || (decide (k = 5) && decide (b ≤ o.length))) from rfl)
  clear hb h
  by_cases h13 : k = 13
  · subst h13
    go_enter Try.func11, Try.ntmps11
    go_wp2
    go_ret
    exact ⟨ret_bool (by rw [HR.out]; simp), HB.out⟩
  · have d13 : (k == 13) = false := by simp [h13]
    by_cases h5 : k = 5
    · subst h5
      go_enter Try.func11, Try.ntmps11
      go_wp2_with fail
      refine (mhas_any HG.out b).mono ?_
      rintro e w1 ⟨rfl, hw⟩
      obtain rfl := hw.symm
      go_wp2
      go_ret
      exact ⟨ret_bool (by rw [HR.out]; simp), HB.out⟩
    · have d5 : (k == 5) = false := by simp [h5]
      have HF := Lib.hid (show begB o ⟨k, a, b, t⟩ = false by rw [HR.out]; simp [h13, h5])
      clear h13 h5
      go_enter Try.func11, Try.ntmps11
      go_wp2
      go_ret
      exact ⟨ret_bool HF.out.symm, HB.out⟩

theorem mdata_any (h : Bx g w (sv o sk s)) (hu : s.up ≤ o.length) (k a b : Int) (t : Bs) :
    Calls Try.prog 12 #[.pointer (some ⟨g, 0, none⟩), .agg #[.int .i64 k, .int .i64 a, .int .i64 b, .string (str t)]] w fun e w' => e = .returned (.bool (dataB o s ⟨k, a, b, t⟩)) ∧ Below w.heap.size w w' := by
  have hb : Below w.heap.size w (w.alloc (.cells #[.int .i64 k, .int .i64 a, .int .i64 b, .string (str t)] 26)) := (Below.refl _ _).alloc (Nat.le_refl _) _
  have HN := Lib.hid (Bx.new w _ rfl #[.int .i64 k, .int .i64 a, .int .i64 b, .string (str t)] 26)
  have HG := Lib.hid (h.go hb h.room)
  have HB := Lib.hid hb
  have HR := Lib.hid (show dataB o s ⟨k, a, b, t⟩ = (decide (a = s.up) && (!decide (t = []) && decide ((o.drop s.up).take t.length = t))) from rfl)
  clear hb h
  have HS := Lib.hid (str_size o)
  have HT := Lib.hid (s_cut o s.up o.length)
  rw [List.take_length] at HT
  go_enter Try.func12, Try.ntmps12
  go_upto_region 1 with fail
  generalize w.alloc (.cells #[.int .i64 k, .int .i64 a, .int .i64 b, .string (str t)] 26) = w1 at *
  have c0 := HG.out.cell 0 (.string (str o)) rfl
  have c4 := HG.out.cell 4 (.int .i64 (s.up : Nat)) rfl
  have m1 := HN.out.cell 1 (.int .i64 a) rfl
  have m3 := HN.out.cell 3 (.string (str t)) rfl
  by_cases ha : a = s.up
  · by_cases ht : t = []
    · subst ht
      have hx : (str ([] : Bs)).toList = [] := by simp [str]
      have HF := Lib.hid (show dataB o s ⟨k, a, b, []⟩ = false by rw [HR.out]; simp)
      have hd : (a == (s.up : Nat)) = true := by simp [ha]
      clear ha
      go_quiet (fail)
      go_wp2
      go_ret
      exact ⟨ret_bool HF.out.symm, below_drewN HB.out _⟩
    · have hx : (str t).toList.isEmpty = false := by
        rcases t with _ | ⟨c, t⟩
        · exact absurd rfl ht
        · rw [ByteArray.toList_eq]; rfl
      have hx2 : ((str t).toList == (str ([] : Bs)).toList) = false := str_ne ht
      have HF := Lib.hid (show dataB o s ⟨k, a, b, t⟩ = decide ((o.drop s.up).take t.length = t) by rw [HR.out]; simp [ha, ht])
      have hd : (a == (s.up : Nat)) = true := by simp [ha]
      have hs := HS.out
      have hcut := HT.out
      clear ha ht HR
      go_quiet ((go_at_call 18; exact Calls.quiet_of_same (hpre_any _ _ _)))
      go_wp2
      go_ret
      exact ⟨ret_bool HF.out.symm, below_drewN HB.out _⟩
  · have hd : (a == (s.up : Nat)) = false := by simp [ha]
    have HF := Lib.hid (show dataB o s ⟨k, a, b, t⟩ = false by rw [HR.out]; simp [ha])
    clear ha
    go_quiet (fail)
    go_wp2
    go_ret
    exact ⟨ret_bool HF.out.symm, below_drewN HB.out _⟩

theorem mgap_any (h : Bx g w (sv o sk s)) (k a b : Int) (t : Bs) :
    Calls Try.prog 13 #[.pointer (some ⟨g, 0, none⟩), .agg #[.int .i64 k, .int .i64 a, .int .i64 b, .string (str t)]] w fun e w' => e = .returned (.bool (gapB o sk s ⟨k, a, b, t⟩)) ∧ Below w.heap.size w w' := by
  have hb : Below w.heap.size w (w.alloc (.cells #[.int .i64 k, .int .i64 a, .int .i64 b, .string (str t)] 26)) := (Below.refl _ _).alloc (Nat.le_refl _) _
  have HN := Lib.hid (Bx.new w _ rfl #[.int .i64 k, .int .i64 a, .int .i64 b, .string (str t)] 26)
  have HG := Lib.hid (h.go hb h.room)
  have HB := Lib.hid hb
  have HR := Lib.hid (show gapB o sk s ⟨k, a, b, t⟩ = (decide (a = s.up) && (decide (a < b) && (decide (b ≤ o.length) && decide ((s.gp : Int) < sk)))) from rfl)
  clear hb h
  go_enter Try.func13, Try.ntmps13
  go_upto_region 1 with fail
  generalize w.alloc (.cells #[.int .i64 k, .int .i64 a, .int .i64 b, .string (str t)] 26) = w1 at *
  have c1 := HG.out.cell 1 (.int .i64 sk) rfl
  have c4 := HG.out.cell 4 (.int .i64 (s.up : Nat)) rfl
  have c5 := HG.out.cell 5 (.int .i64 (s.gp : Nat)) rfl
  have m1 := HN.out.cell 1 (.int .i64 a) rfl
  have m2 := HN.out.cell 2 (.int .i64 b) rfl
  obtain ⟨d1, h1⟩ : ∃ d, decide (a = s.up) = d := ⟨_, rfl⟩
  obtain ⟨d2, h2⟩ : ∃ d, decide (a < b) = d := ⟨_, rfl⟩
  obtain ⟨d3, h3⟩ : ∃ d, decide (b ≤ o.length) = d := ⟨_, rfl⟩
  rw [h1, h2, h3] at HR
  have e1 : (a == (s.up : Nat)) = d1 := by rw [← h1]; rfl
  have e2 : decide (b > a) = d2 := by rw [← h2]
  have H3 := Lib.hid h3
  clear h1 h2 h3
  cases d1
  · go_quiet (fail)
    go_wp2
    go_ret
    exact ⟨ret_bool (by rw [HR.out]; rfl), below_drewN HB.out _⟩
  cases d2
  · go_quiet (fail)
    go_wp2
    go_ret
    exact ⟨ret_bool (by rw [HR.out]; rfl), below_drewN HB.out _⟩
  have HH := Lib.hid (fun (n : Nat) => show Calls Try.prog 17 #[.pointer (some ⟨g, 0, none⟩), .int .i64 b] (w1.drewN n) fun e w' => e = .returned (.bool d3) ∧ w' = w1.drewN n from by rw [← H3.out]; exact mhas_any (HG.out.drewN n) b)
  cases d3
  · go_quiet ((go_at_call 17; exact Calls.quiet_of_same (HH.out _)))
    go_wp2
    go_ret
    exact ⟨ret_bool (by rw [HR.out]; rfl), below_drewN HB.out _⟩
  · go_quiet ((go_at_call 17; exact Calls.quiet_of_same (HH.out _)))
    go_wp2
    go_ret
    exact ⟨ret_bool (by rw [HR.out]; simp), below_drewN HB.out _⟩

theorem may_any (h : Bx g w (sv o sk s)) (hu : s.up ≤ o.length) (k a b : Int) (t : Bs) :
    Calls Try.prog 7 #[.pointer (some ⟨g, 0, none⟩), .agg #[.int .i64 k, .int .i64 a, .int .i64 b, .string (str t)]] w fun e w' => e = .returned (.bool (mayB o sk s ⟨k, a, b, t⟩)) ∧ Below w.heap.size w w' := by
  have hb : Below w.heap.size w (w.alloc (.cells #[.int .i64 k, .int .i64 a, .int .i64 b, .string (str t)] 26)) := (Below.refl _ _).alloc (Nat.le_refl _) _
  have HN := Lib.hid (Bx.new w _ rfl #[.int .i64 k, .int .i64 a, .int .i64 b, .string (str t)] 26)
  have HG := Lib.hid (h.go hb h.room)
  have HB := Lib.hid hb
  have HU := Lib.hid hu
  have hsz := h.room
  have HR := Lib.hid (show mayB o sk s ⟨k, a, b, t⟩ = (rt k a b (str t).size && (!s.en && (if s.bg then (if k ≤ 5 then false else if k = 6 then dataB o s ⟨k, a, b, t⟩ else if k = 7 then gapB o sk s ⟨k, a, b, t⟩ else true) else begB o ⟨k, a, b, t⟩))) by rw [str_size]; rfl)
  clear hb h hu
  obtain ⟨q, hq⟩ : ∃ q, mayB o sk s ⟨k, a, b, t⟩ = q := ⟨_, rfl⟩
  rw [hq] at HR
  rw [hq]
  clear hq
  go_enter Try.func7, Try.ntmps7
  go_upto_region 1 with fail
  have hs2 : (w.alloc (.cells #[.int .i64 k, .int .i64 a, .int .i64 b, .string (str t)] 26)).heap.size = w.heap.size + 1 := by simp
  generalize w.alloc (.cells #[.int .i64 k, .int .i64 a, .int .i64 b, .string (str t)] 26) = w1 at *
  have HS2 := Lib.hid hs2
  clear hs2
  have m0 := HN.out.cell 0 (.int .i64 k) rfl
  have m1 := HN.out.cell 1 (.int .i64 a) rfl
  have m2 := HN.out.cell 2 (.int .i64 b) rfl
  have m3 := HN.out.cell 3 (.string (str t)) rfl
  have c3 := HG.out.cell 3 (.bool s.en) rfl
  have c2 := HG.out.cell 2 (.bool s.bg) rfl
  go_wp2_with fail
  refine (mright_any k a b (str t) w1).mono ?_
  rintro e w2 ⟨rfl, hb2⟩
  have HG2 := Lib.hid (HG.out.go hb2 (by have := HS2.out; omega))
  have HN2 := Lib.hid (HN.out.go hb2 (by have := HS2.out; omega))
  have HB2 := Lib.hid (HB.out.trans (hb2.mono (by have := HS2.out; omega)))
  clear hb2 m0 m1 m2 m3 c2 c3
  have m0 := HN2.out.cell 0 (.int .i64 k) rfl
  have m1 := HN2.out.cell 1 (.int .i64 a) rfl
  have m2 := HN2.out.cell 2 (.int .i64 b) rfl
  have m3 := HN2.out.cell 3 (.string (str t)) rfl
  have c3 := HG2.out.cell 3 (.bool s.en) rfl
  have c2 := HG2.out.cell 2 (.bool s.bg) rfl
  have hr2 := HB2.out.size
  have HK := Lib.hid (fun h : rt k a b (str t).size = true => (rt_k h).1)
  generalize rt k a b (str t).size = r at *
  cases r
  · go_wp2
    go_ret
    exact ⟨ret_bool (by rw [HR.out]; rfl), HB2.out⟩
  have hk1 := HK.out rfl
  clear HK
  obtain ⟨en, hen⟩ : ∃ v, s.en = v := ⟨_, rfl⟩
  rw [hen] at HR c3
  clear hen
  cases en
  rotate_left
  · go_wp2
    go_ret
    exact ⟨ret_bool (by rw [HR.out]; rfl), HB2.out⟩
  obtain ⟨bg, hbg⟩ : ∃ v, s.bg = v := ⟨_, rfl⟩
  rw [hbg] at HR c2
  clear hbg
  cases bg
  · go_wp2_with fail
    refine (mbeg_any HG2.out k a b t).mono ?_
    rintro e w3 ⟨rfl, hb3⟩
    have HB3 := Lib.hid (HB2.out.trans (hb3.mono hr2))
    clear hb3
    go_wp2
    go_ret
    exact ⟨ret_bool (by rw [HR.out]; rfl), HB3.out⟩
  by_cases h5 : 1 ≤ k ∧ k ≤ 5
  · rcases (show k = 1 ∨ k = 2 ∨ k = 3 ∨ k = 4 ∨ k = 5 by omega) with rfl | rfl | rfl | rfl | rfl
    all_goals
      go_wp2
      go_ret
      exact ⟨ret_bool (by rw [HR.out]; rfl), HB2.out⟩
  have hk6 : 6 ≤ k := by omega
  clear h5 hk1
  have e1 : (k == 1) = false := by simp; omega
  have e2 : (k == 2) = false := by simp; omega
  have e3 : (k == 3) = false := by simp; omega
  have e4 : (k == 4) = false := by simp; omega
  have e5 : (k == 5) = false := by simp; omega
  by_cases h6 : k = 6
  · subst h6
    clear e1 e2 e3 e4 e5
    go_wp2_with fail
    refine (mdata_any HG2.out HU.out 6 a b t).mono ?_
    rintro e w3 ⟨rfl, hb3⟩
    have HB3 := Lib.hid (HB2.out.trans (hb3.mono hr2))
    clear hb3
    go_wp2
    go_ret
    exact ⟨ret_bool (by rw [HR.out]; rfl), HB3.out⟩
  by_cases h7 : k = 7
  · subst h7
    clear e1 e2 e3 e4 e5 h6
    go_wp2_with fail
    refine (mgap_any HG2.out 7 a b t).mono ?_
    rintro e w3 ⟨rfl, hb3⟩
    have HB3 := Lib.hid (HB2.out.trans (hb3.mono hr2))
    clear hb3
    go_wp2
    go_ret
    exact ⟨ret_bool (by rw [HR.out]; rfl), HB3.out⟩
  · have e6 : (k == 6) = false := by simp [h6]
    have e7 : (k == 7) = false := by simp [h7]
    have HF := Lib.hid (show true = q by rw [HR.out]; simp [h6, h7]; omega)
    clear h6 h7
    go_wp2
    go_ret
    exact ⟨ret_bool HF.out, HB2.out⟩

/-- what a message that may be leaves -/
def TkGives (g : Nat) (o : Bs) (sk : Int) (s : St) (w : World) (e : Ending) (w' : World) : Prop := e = .returned (.tuple #[]) ∧ Bx g w' (sv o sk s) ∧ Only (fun b => b = g) w w'

theorem tk_of {e : Ending} {w w' : World} {vs : Array Value} (he : e = .returned (.tuple #[])) (hv : Bx g w' vs) (hvs : vs = sv o sk s) (ho : Only (fun b => b = g) w w') : TkGives g o sk s w e w' := ⟨he, hvs ▸ hv, ho⟩

theorem take_any (h : Bx g w (sv o sk s)) (k a b : Int) (t : Bs) (hb0 : 0 ≤ b) (hsum : s.up + t.length ≤ 140737488355328) (hgp : s.gp ≤ 140737488355328) :
    Calls Try.prog 8 #[.pointer (some ⟨g, 0, none⟩), .agg #[.int .i64 k, .int .i64 a, .int .i64 b, .string (str t)]] w (TkGives g o sk (takeS s ⟨k, a, b, t⟩) w) := by
  have hO : Only (fun b => b = g) w (w.alloc (.cells #[.int .i64 k, .int .i64 a, .int .i64 b, .string (str t)] 26)) := (Only.refl _ w).alloc _
  have HN := Lib.hid (Bx.new w _ rfl #[.int .i64 k, .int .i64 a, .int .i64 b, .string (str t)] 26)
  have hr := h.room
  have HG := Lib.hid (h.go ((Below.refl w.heap.size w).alloc (Nat.le_refl _) (.cells #[.int .i64 k, .int .i64 a, .int .i64 b, .string (str t)] 26)) hr)
  have HO := Lib.hid hO
  have hbN : b = (b.toNat : Nat) := by omega
  have HBN := Lib.hid hbN
  have HT := Lib.hid (str_size t)
  have hts : (str t).size ≤ 140737488355328 := by rw [str_size]; omega
  have hts2 : (s.up : Int) + (str t).size ≤ 140737488355328 := by rw [str_size]; omega
  clear hO h hbN hb0 hsum
  go_enter Try.func8, Try.ntmps8
  go_upto_region 1 with fail
  generalize w.alloc (.cells #[.int .i64 k, .int .i64 a, .int .i64 b, .string (str t)] 26) = w1 at *
  obtain ⟨gm, hgm⟩ : ∃ gm, w.heap.size = gm := ⟨_, rfl⟩
  rw [hgm] at HN hr
  simp only [hgm]
  clear hgm
  have hne : gm ≠ g := by omega
  have m0 := HN.out.cell 0 (.int .i64 k) rfl
  have m2 := HN.out.cell 2 (.int .i64 b) rfl
  have m3 := HN.out.cell 3 (.string (str t)) rfl
  have c2 := HG.out.cell 2 (.bool s.bg) rfl
  have c3 := HG.out.cell 3 (.bool s.en) rfl
  have c4 := HG.out.cell 4 (.int .i64 (s.up : Nat)) rfl
  have c5 := HG.out.cell 5 (.int .i64 (s.gp : Nat)) rfl
  have f2 := HG.out.free 2
  have f3 := HG.out.free 3
  have f4 := HG.out.free 4
  have f5 := HG.out.free 5
  rcases (show k = 5 ∨ k = 6 ∨ k = 7 ∨ k = 12 ∨ k = 13 ∨ (k ≠ 5 ∧ k ≠ 6 ∧ k ≠ 7 ∧ k ≠ 12 ∧ k ≠ 13) by omega) with rfl | rfl | rfl | rfl | rfl | ⟨n5, n6, n7, n12, n13⟩
  · go_wp2
    refine bodyPost_ret (v := .tuple #[]) (by simp [results, Try.results8, go_sem]) rfl (tk_of rfl ((HG.out.set 2 _).set 4 _) ?_ ((HO.out.setCell (p := ⟨g, 2, none⟩) rfl _).setCell (p := ⟨g, 4, none⟩) rfl _))
    simp [sv, takeS]
    have := HBN.out
    omega
  · go_wp2
    go_region
    go_wp2
    refine bodyPost_ret (v := .tuple #[]) (by simp [results, Try.results8, go_sem]) rfl (tk_of rfl (((HG.out.set 2 _).set 4 _).drewN 1) ?_ ((HO.out.setCell (p := ⟨g, 2, none⟩) rfl _).setCell (p := ⟨g, 4, none⟩) rfl _).drew)
    simp [sv, takeS, HT.out]
  · go_wp2
    refine bodyPost_ret (v := .tuple #[]) (by simp [results, Try.results8, go_sem]) rfl (tk_of rfl (((HG.out.set 2 _).set 4 _).set 5 _) ?_ (((HO.out.setCell (p := ⟨g, 2, none⟩) rfl _).setCell (p := ⟨g, 4, none⟩) rfl _).setCell (p := ⟨g, 5, none⟩) rfl _))
    simp [sv, takeS]
    have := HBN.out
    omega
  · go_wp2
    refine bodyPost_ret (v := .tuple #[]) (by simp [results, Try.results8, go_sem]) rfl (tk_of rfl ((HG.out.set 2 _).set 3 _) ?_ ((HO.out.setCell (p := ⟨g, 2, none⟩) rfl _).setCell (p := ⟨g, 3, none⟩) rfl _))
    simp [sv, takeS]
  · go_wp2
    refine bodyPost_ret (v := .tuple #[]) (by simp [results, Try.results8, go_sem]) rfl (tk_of rfl ((HG.out.set 2 _).set 3 _) ?_ ((HO.out.setCell (p := ⟨g, 2, none⟩) rfl _).setCell (p := ⟨g, 3, none⟩) rfl _))
    simp [sv, takeS]
  · have e1 : (k == 5) = false := by simp [n5]
    have e2 : (k == 6) = false := by simp [n6]
    have e3 : (k == 7) = false := by simp [n7]
    have e4 : (k == 12) = false := by simp [n12]
    have e5 : (k == 13) = false := by simp [n13]
    have HF := Lib.hid (show takeS s ⟨k, a, b, t⟩ = ⟨true, s.en, s.up, s.gp⟩ by simp [takeS, n5, n6, n7, n12, n13])
    clear n5 n6 n7 n12 n13
    go_wp2
    refine bodyPost_ret (v := .tuple #[]) (by simp [results, Try.results8, go_sem]) rfl (tk_of rfl (HG.out.set 2 _) ?_ (HO.out.setCell (p := ⟨g, 2, none⟩) rfl _))
    rw [HF.out]
    simp [sv]
end

end Go.Proofs.Ytfmombbembiagaa
