/- What the head of layer 4's laws answers. -/
import Derived.Test.YtlifnjihnppckaaFst
namespace Go.Proofs.Ytlifnjihnppckaa
open Go.RowKit
open Fr

theorem kl_nil {es : List Ent} (h : kl es = []) : es = [] := by
  cases es with
  | nil => rfl
  | cons e es => simp [kl] at h

/-- a Push of too few bytes -/
theorem push_few {base g : Nat} {w w' : World} {a : Option Addr} {lt : Bs} {E : Ending} (h : PushGives base w g a lt E w') (he : err lt = 5) :
    ∃ R c a2 n2 c2, E = .returned (.slice R 0 c) ∧ Fed base w' g a2 n2 c2 lt 0 ∧ (∀ p, a2 = some p → In a p.block ∨ w.heap.size ≤ p.block) ∧ Only (fun b => b = g ∨ In a b) w w' := by
  obtain ⟨R, rn, rc, es, r, a2, n2, c2, rfl, ht, hrow, hfed, _, _, hfrom, hO⟩ := h
  obtain ⟨h1, rfl⟩ := tells_stop ht (by omega)
  have h2 := kl_nil h1
  subst h2
  have h3 : 0 = rn := hrow.len
  subst h3
  obtain ⟨h4, h5⟩ := keep_short he
  rw [h4, h5] at hfed
  exact ⟨R, rc, a2, n2, c2, rfl, hfed, hfrom, hO⟩

/-- a Push of bytes of which it is known what is told -/
theorem push_known {base g : Nat} {w w' : World} {a : Option Addr} {lt r : Bs} {fs : List (BitVec 8 × Bs)} {E : Ending} (h : PushGives base w g a lt E w') (ht : Tells lt fs r) :
    ∃ R c es a2 n2 c2, E = .returned (.slice R fs.length c) ∧ kl es = fs ∧ FrRow w.heap.size w' R fs.length c es ∧ Fed base w' g a2 n2 c2 (keep r) (broke r) ∧ Only (fun b => b = g ∨ In a b) w w' := by
  obtain ⟨R, rn, rc, es, r', a2, n2, c2, rfl, ht', hrow, hfed, _, _, hfrom, hO⟩ := h
  obtain ⟨h1, rfl⟩ := ht'.one ht
  have h3 : fs.length = rn := by rw [← hrow.len, ← h1]; simp [kl]
  subst h3
  exact ⟨R, rc, es, a2, n2, c2, rfl, h1, hrow, hfed, hO⟩

theorem lhead_any (w : World) : Calls Try.prog 8 #[] w fun e w' => e = .returned (.bool true) ∧ Below w.heap.size w w' := by
  have hfl : (fr 9#8 []).length = 5 := by rw [fr_len]; rfl
  have hcut : ∀ k, k < 5 → err ((fr 9#8 []).take k) = 5 := fun k hk => err_fr_cut 9#8 [] (by simp) k (by simpa using hk)
  have hall : Tells (fr 9#8 []) [(9#8, [])] [] := by
    have := tells_frames [(9#8, [])] [] (by simp) (by rw [err_nil]; omega)
    simpa [cats] using this
  have HPut := Lib.hid (fun w : World => put_eq none 0 0 w.heap.size [] 9#8 none 0 0 [] (fr 9#8 []) 5 rfl rfl w (Bytes.nil _) (Bytes.nil _) (Nat.le_refl _) (by omega) (by omega))
  have HL := Lib.hid hfl
  have HC := Lib.hid hcut
  have HA := Lib.hid hall
  clear hfl hcut hall
  generalize fr 9#8 [] = F at *
  go_enter Try.func8, Try.ntmps8
  go_wp2_with fail
  refine (feed_new w).mono ?_
  rintro e w1 ⟨rfl, hf1, hb1⟩
  have HF1 := Lib.hid hf1
  have HB1 := Lib.hid hb1
  clear hf1 hb1
  go_wp2_with fail
  refine (HPut.out w1).mono ?_
  rintro e w2 ⟨A, cb, rfl, hown, hb2⟩
  have hf2 := HF1.out.below hb2
  obtain ⟨gb, rfl, hg1, hg2⟩ := hown.form (by omega)
  have hg0 : w.heap.size < w1.heap.size := feed_lt HF1.out.head
  have hcb := hown.cap
  have HF2 := Lib.hid hf2
  have HB2 := Lib.hid (Below.trans HB1.out (hb2.mono HB1.out.size))
  have HO2 := Lib.hid hown.mid
  have hz1 : w1.heap.size ≤ gb := hg1
  generalize w1.heap.size = z at *
  have hzz : w.heap.size ≤ z := by omega
  generalize hzg : w.heap.size = g at *
  have HZ := Lib.hid hzg
  clear hown hb2 hf2 HF1 HB1 hg1 hg2 hzg
  go_wp2
  go_loopw [3] (fun i wr => ∃ (k : Nat) (a : Option Addr) (n c : Nat), k ≤ 4 ∧ i = .int .i64 k ∧ Fed g wr g a n c (F.take k) 0 ∧ Mid z wr (some ⟨gb, 0, none⟩) 5 cb F ∧ ¬ In a gb ∧ Below g w wr) (fun i _ => 4 - (intOf i).toNat)
  case atStart => exact ⟨0, none, 0, 0, by omega, rfl, HF2.out, HO2.out, (fun ⟨_, h, _⟩ => by cases h), HB2.out⟩
  case round =>
    obtain ⟨k, a, n, c, hk, rfl, hf, ho, hna, hb⟩ := hrel
    have HF := Lib.hid hf
    have HO := Lib.hid ho
    have HB := Lib.hid hb
    have hlen : n = k := by have := hf.mid.len; rw [List.length_take, HL.out] at this; omega
    have hsz : g ≤ wr.heap.size := by have := feed_lt hf.head; omega
    clear hf ho hb HF2 HO2 HB2
    by_cases hlt : k < 4
    · have hc1 : ¬ cb = k := by omega
      have hpiece : Bytes wr wr.heap.size (some ⟨gb, k, none⟩) 1 ((F.drop k).take 1) := by
        have := (HO.out.bytes.cut2 (cap := cb) (j := k) (by omega) hcb hc1).take (k := 1) (by omega)
        rwa [Nat.zero_add] at this
      have hk1 : (k : Int) + 1 ≤ (cb : Int) := by omega
      have HPc := Lib.hid hpiece
      clear hpiece
      go_wp2_with fail
      refine (push_live wr HF.out wr.heap.size _ 1 (cb - k) _ HPc.out hsz (by omega)).mono ?_
      intro e w3 hp
      have hcat : F.take k ++ (F.drop k).take 1 = F.take (k + 1) := List.take_add.symm
      rw [hcat] at hp
      obtain ⟨R, c3, a2, n2, d2, rfl, hf3, hfrom, hO⟩ := push_few hp (HC.out (k + 1) (by omega))
      have hgb := (HO.out.lt rfl).2
      have HF3 := Lib.hid hf3
      have HO3 := Lib.hid (HO.out.only hO (fun p hp hS => by
        injection hp with hp
        subst hp
        rcases hS with h1 | h1
        · have : gb = g := h1
          omega
        · exact hna h1))
      have hno : ¬ In a2 gb := by
        rintro ⟨p, hp2, hpg⟩
        rcases hfrom p hp2 with h1 | h1
        · exact hna (hpg ▸ h1)
        · have : gb < wr.heap.size := hgb
          omega
      have HB3 := Lib.hid (Below.trans HB.out (hO.below hsz (fun b hb hS => by
        rcases hS with h1 | h1
        · omega
        · have := (HF.out.mid.lt h1.choose_spec.1).1
          have := h1.choose_spec.2
          omega)))
      clear hp hcat hf3 hfrom hO
      go_wp2
      go_roundw
      case rel => exact ⟨k + 1, a2, n2, d2, by omega, by go_num, HF3.out, HO3.out, hno, HB3.out⟩
      case measure => simp [intOf]; omega
    · obtain rfl : k = 4 := by omega
      have hpiece : Bytes wr wr.heap.size (some ⟨gb, 4, none⟩) 1 (F.drop 4) := by
        have := HO.out.bytes.cut2 (cap := cb) (j := 4) (by omega) hcb (by omega)
        rwa [Nat.zero_add] at this
      have HPc := Lib.hid hpiece
      clear hpiece
      go_wp2_with fail
      refine (push_live wr HF.out wr.heap.size _ 1 (cb - 4) _ HPc.out hsz (by omega)).mono ?_
      intro e w3 hp
      rw [List.take_append_drop] at hp
      obtain ⟨R, c3, es, a2, n2, d2, rfl, hkl, hrow, hf3, hO⟩ := push_known hp HA.out
      obtain ⟨h4, h5⟩ := keep_short err_nil
      rw [h4, h5] at hf3
      have hn2 : n2 = 0 := hf3.mid.len.symm
      subst hn2
      have HF3 := Lib.hid hf3
      have HB3 := Lib.hid (Below.trans HB.out (hO.below hsz (fun b hb hS => by
        rcases hS with h1 | h1
        · omega
        · have := (HF.out.mid.lt h1.choose_spec.1).1
          have := h1.choose_spec.2
          omega)))
      obtain ⟨b, off, rfl, _, hc⟩ := hrow.view.outer (by simp)
      have hc0 := (hc 0 (by simp)).1
      have hk0 := getD_kl es 0
      rw [hkl] at hk0
      simp only [List.getD_cons_zero, Prod.mk.injEq] at hk0
      rw [Nat.zero_mul, Nat.add_zero, ← hk0.1] at hc0
      have hc9 : w3.cell? ⟨b, off, none⟩ = some (.int .u8 9) := hc0
      clear hp h4 h5 hf3 hO hkl hrow hc hc0 hk0
      go_wp2_with fail
      refine (feed_len w3 HF3.out).mono ?_
      rintro e w4 ⟨rfl, rfl⟩
      go_wp2_with fail
      refine (feed_err w3 HF3.out).mono ?_
      rintro e w4 ⟨rfl, rfl⟩
      go_wp2
      go_ret
      have hz := HZ.out
      subst hz
      exact ⟨rfl, HB3.out⟩

/-- the first k frames -/
def frs (K : Nat → BitVec 8) (T : Nat → Bs) (k : Nat) : List (BitVec 8 × Bs) := (List.range k).map fun r => (K r, T r)

theorem frs_succ (K : Nat → BitVec 8) (T : Nat → Bs) (k : Nat) : frs K T (k + 1) = frs K T k ++ [(K k, T k)] := by simp [frs, List.range_succ]
theorem frs_len (K : Nat → BitVec 8) (T : Nat → Bs) (k : Nat) : (frs K T k).length = k := by simp [frs]
theorem frs_cats (K : Nat → BitVec 8) (T : Nat → Bs) (k : Nat) : cats (frs K T (k + 1)) = cats (frs K T k) ++ fr (K k) (T k) := by rw [frs_succ, cats_app]; simp [cats]
theorem frs_getD (K : Nat → BitVec 8) (T : Nat → Bs) (k r : Nat) (h : r < k) : (frs K T k).getD r (0#8, []) = (K r, T r) := by
  unfold frs
  rw [List.getD_eq_getElem?_getD, List.getElem?_map, List.getElem?_range h]
  rfl

theorem kl_frs {es : List Ent} {K : Nat → BitVec 8} {T : Nat → Bs} {k : Nat} (h : kl es = frs K T k) (r : Nat) (hr : r < k) : (es.getD r ent0).k = K r ∧ (es.getD r ent0).l = T r := by
  have h1 := getD_kl es r
  rw [h, frs_getD K T k r hr] at h1
  simp only [Prod.mk.injEq] at h1
  exact ⟨h1.1.symm, h1.2.symm⟩

theorem kl_len (es : List Ent) : (kl es).length = es.length := by simp [kl]

theorem kl_app (es fs : List Ent) : kl (es ++ fs) = kl es ++ kl fs := by simp [kl]

end Go.Proofs.Ytlifnjihnppckaa
