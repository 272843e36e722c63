/- What the law's own Few, Same answer. -/
import Derived.Test.YtflfchcncmpnbaaScd
namespace Go.Proofs.Ytflfchcncmpnbaa
open Go.RowKit
open Sc

def tot (L : List Ev) : Nat := (L.map fun e => e.t.length).sum
def fewB (L : List Ev) : Bool := decide (L.length ≤ 120) && decide (tot L ≤ 6000)

theorem tot_snoc (L : List Ev) (k : Nat) (e : Ev) (h : L[k]? = some e) : tot (L.take (k + 1)) = tot (L.take k) + e.t.length := by
  rw [List.take_add_one, h]
  simp [tot]
theorem tot_le (L : List Ev) (h : ∀ e ∈ L, e.t.length ≤ 4000) : tot L ≤ L.length * 4000 := by
  induction L with
  | nil => simp [tot]
  | cons x L ih =>
    have h1 := ih (fun e he => h e (by simp [he]))
    have h2 := h x (by simp)
    simp only [tot, List.map_cons, List.sum_cons, List.length_cons] at h1 ⊢
    omega

/-- what Few tells: if yes, there are few events, and of events that may be few bytes -/
def FewGives (L : List Ev) (w : World) (r : Ending) (w' : World) : Prop :=
  ∃ b : Bool, r = .returned (.bool b) ∧ Below w.heap.size w w' ∧ (b = true → L.length ≤ 120 ∧ ((∀ e ∈ L, rtE e = true) → tot L ≤ 6000)) ∧ ((∀ e ∈ L, e.t.length ≤ 4000) → b = fewB L)

theorem few_not {L : List Ev} {w w' : World} {b : Bool} (hn : b = true → L.length ≤ 120) (ha : ¬ ((∀ e ∈ L, e.t.length ≤ 4000) ∧ L.length ≤ 140737488355328)) (hb : Below w.heap.size w w') : FewGives L w (.returned (.bool b)) w' :=
  ⟨b, rfl, hb, fun h => ⟨hn h, fun k => absurd ⟨fun e he => (rtE_in (k e he)).2.2.2.2.2.2, Nat.le_trans (hn h) (by omega)⟩ ha⟩, fun h => by
    have h2 : ¬ L.length ≤ 120 := fun k => ha ⟨h, by omega⟩
    have h3 : fewB L = false := by simp [fewB, h2]
    rw [h3]
    cases b
    · rfl
    · exact absurd (hn rfl) h2⟩
theorem few_is {L : List Ev} {w w' : World} {b : Bool} (hn : b = fewB L) (hb : Below w.heap.size w w') : FewGives L w (.returned (.bool b)) w' :=
  ⟨b, rfl, hb, fun h => by
    rw [hn] at h
    simp only [fewB, Bool.and_eq_true, decide_eq_true_eq] at h
    exact ⟨h.1, fun _ => h.2⟩, fun _ => hn⟩

theorem few_any (A : Option Addr) (n cap : Nat) (L : List Ev) (w : World) (hl : EvIn w w.heap.size A L) (hn : L.length = n) (hm : n ≤ 9223372036854775807) :
    Calls Try.prog 8 #[.slice A n cap] w (FewGives L w) := by
  have HL := Lib.hid hl
  have HN := Lib.hid hn
  have HB := Lib.hid (Below.refl w.heap.size w)
  clear hl hn
  obtain ⟨g, hg⟩ : ∃ g, w.heap.size = g := ⟨_, rfl⟩
  rw [hg] at HL HB
  have HG := Lib.hid hg
  clear hg
  by_cases hall : (∀ e ∈ L, e.t.length ≤ 4000) ∧ L.length ≤ 140737488355328
  · have HAll := Lib.hid hall.1
    have hm := (show n ≤ 140737488355328 by rw [← HN.out]; exact hall.2)
    clear hall
    go_enter Try.func8, Try.ntmps8
    go_wp2_with fail
    go_loopw [3, 8] (fun s i wr => ∃ (k v : Nat), k ≤ n ∧ i = .int .i64 (k : Nat) ∧ s = .int .i64 (v : Nat) ∧ Hid (v = tot (L.take k)) ∧ Below g w wr) (fun _ i _ => n - (intOf i).toNat)
    case atStart => exact ⟨0, 0, by omega, rfl, rfl, Lib.hid rfl, HB.out⟩
    case round =>
      obtain ⟨k, v, hk, rfl, rfl, HV, hb⟩ := hrel
      have HBk := Lib.hid hb
      have hgw := hb.size
      rw [HG.out] at hgw
      clear hb HB
      have hv3 : v ≤ 562949953421312000 := by
        have h1 := tot_le (L.take k) (fun e he => HAll.out e (List.mem_of_mem_take he))
        have h2 : (L.take k).length ≤ 140737488355328 := by simp; omega
        have := HV.out
        omega
      by_cases hlt : k < n
      · obtain ⟨x, hx⟩ : ∃ x, L[k]? = some x := ⟨_, List.getElem?_eq_getElem (by have := HN.out; omega)⟩
        obtain ⟨bb, off, rfl, hbB, hc⟩ := (HL.out.below HBk.out).outer (by have := HN.out; omega)
        obtain ⟨hc0, hc1, hc2, hc3⟩ := hc k x hx
        have HT := Lib.hid (tot_snoc L k x hx)
        have HSz := Lib.hid (str_size x.t)
        have hs2 : (str x.t).size ≤ 4000 := by rw [str_size]; exact HAll.out x (List.mem_of_getElem? hx)
        clear hc hx
        have HE := Lib.hid (Bx.new wr wr.heap.size rfl #[.int .i64 x.k, .int .i64 x.i, .int .i64 x.n, .string (str x.t)] 30)
        have HBe := Lib.hid (HBk.out.alloc (by omega) (.cells #[.int .i64 x.k, .int .i64 x.i, .int .i64 x.n, .string (str x.t)] 30))
        go_upto_region 5 with fail
        generalize wr.alloc _ = w5 at *
        clear hc0 hc1 hc2 hc3
        obtain ⟨m0, m1, m2, m3⟩ := HE.out.ev
        go_wp2_with fail
        go_roundw
        case rel => exact ⟨k + 1, v + (str x.t).size, by omega, by go_num, by go_num, Lib.hid (by rw [HT.out, HV.out, HSz.out]), HBe.out⟩
        case measure => simp [intOf]; omega
      · obtain rfl : k = n := by omega
        have hv2 := HV.out
        rw [List.take_of_length_le (by rw [HN.out]; omega)] at hv2
        have HV2 := Lib.hid hv2
        clear hv2
        have HF := Lib.hid (show fewB L = (decide (k ≤ 120) && decide (v ≤ 6000)) by rw [HV2.out, ← HN.out]; rfl)
        by_cases h120 : k ≤ 120
        · have hd : decide ((k : Int) ≤ 120) = true := by simp; omega
          by_cases h6 : v ≤ 6000
          · have hd2 : decide ((v : Int) ≤ 6000) = true := by simp; omega
            go_wp2
            go_ret
            exact few_is (by rw [HF.out]; simp; omega) (by rw [HG.out]; exact HBk.out)
          · have hd2 : decide ((v : Int) ≤ 6000) = false := by simp; omega
            go_wp2
            go_ret
            exact few_is (by rw [HF.out]; simp; omega) (by rw [HG.out]; exact HBk.out)
        · have hd : decide ((k : Int) ≤ 120) = false := by simp; omega
          go_wp2
          go_ret
          exact few_is (by rw [HF.out]; simp; omega) (by rw [HG.out]; exact HBk.out)
  · have HAll := Lib.hid hall
    clear hall
    go_enter Try.func8, Try.ntmps8
    go_wp2_with fail
    go_loopw [3, 8] (fun s i wr => ∃ (k : Nat) (v : Int), k ≤ n ∧ i = .int .i64 (k : Nat) ∧ s = .int .i64 v ∧ Below g w wr) (fun _ i _ => n - (intOf i).toNat)
    case atStart => exact ⟨0, 0, by omega, rfl, rfl, HB.out⟩
    case round =>
      obtain ⟨k, v, hk, rfl, rfl, hb⟩ := hrel
      have HBk := Lib.hid hb
      have hgw := hb.size
      rw [HG.out] at hgw
      clear hb HB
      by_cases hlt : k < n
      · obtain ⟨x, hx⟩ : ∃ x, L[k]? = some x := ⟨_, List.getElem?_eq_getElem (by have := HN.out; omega)⟩
        obtain ⟨bb, off, rfl, hbB, hc⟩ := (HL.out.below HBk.out).outer (by have := HN.out; omega)
        obtain ⟨hc0, hc1, hc2, hc3⟩ := hc k x hx
        clear hc hx
        have HE := Lib.hid (Bx.new wr wr.heap.size rfl #[.int .i64 x.k, .int .i64 x.i, .int .i64 x.n, .string (str x.t)] 30)
        have HBe := Lib.hid (HBk.out.alloc (by omega) (.cells #[.int .i64 x.k, .int .i64 x.i, .int .i64 x.n, .string (str x.t)] 30))
        go_upto_region 5 with fail
        generalize wr.alloc _ = w5 at *
        clear hc0 hc1 hc2 hc3
        obtain ⟨m0, m1, m2, m3⟩ := HE.out.ev
        go_wp2_with fail
        go_roundw
        case rel => exact ⟨k + 1, _, by omega, by go_num, rfl, HBe.out⟩
        case measure => simp [intOf]; omega
      · obtain rfl : k = n := by omega
        by_cases h120 : k ≤ 120
        · have hd : decide ((k : Int) ≤ 120) = true := by simp; omega
          obtain ⟨q, hq⟩ : ∃ q, decide (v ≤ 6000) = q := ⟨_, rfl⟩
          cases q
          all_goals
            go_wp2
            go_ret
            exact few_not (fun _ => by rw [HN.out]; exact h120) HAll.out (by rw [HG.out]; exact HBk.out)
        · have hd : decide ((k : Int) ≤ 120) = false := by simp; omega
          go_wp2
          go_ret
          exact few_not (fun h => by cases h) HAll.out (by rw [HG.out]; exact HBk.out)

/-- what Same tells -/
def SameGives (a b : List Ev) (w : World) (r : Ending) (w' : World) : Prop := ∃ q : Bool, r = .returned (.bool q) ∧ Below w.heap.size w w' ∧ (q = true ↔ a = b)

theorem same_no {a b : List Ev} {w w' : World} (h : a ≠ b) (hb : Below w.heap.size w w') : SameGives a b w (.returned (.bool false)) w' := ⟨false, rfl, hb, by simp [h]⟩
theorem same_yes {a b : List Ev} {w w' : World} (h : a = b) (hb : Below w.heap.size w w') : SameGives a b w (.returned (.bool true)) w' := ⟨true, rfl, hb, by simp [h]⟩

theorem ev_ne {x y : Ev} (h : (x.k ≠ y.k) ∨ (x.i ≠ y.i) ∨ (x.n ≠ y.n) ∨ (x.t ≠ y.t)) : x ≠ y := by
  rintro rfl
  rcases h with h | h | h | h <;> exact h rfl

set_option maxHeartbeats 1000000 in
theorem same_any (A1 A2 : Option Addr) (n1 n2 c1 c2 : Nat) (L M : List Ev) (w : World) (hl : EvIn w w.heap.size A1 L) (hm : EvIn w w.heap.size A2 M) (hn1 : L.length = n1) (hn2 : M.length = n2) (hb1 : n1 ≤ 140737488355328) :
    Calls Try.prog 15 #[.slice A1 n1 c1, .slice A2 n2 c2] w (SameGives L M w) := by
  have HL := Lib.hid hl
  have HM := Lib.hid hm
  have HN1 := Lib.hid hn1
  have HN2 := Lib.hid hn2
  clear hl hm hn1 hn2
  by_cases hne : n1 = n2
  · subst hne
    go_enter Try.func15, Try.ntmps15
    go_wp2_with fail
    go_loopw [13] (fun i wr => ∃ k : Nat, k ≤ n1 ∧ i = .int .i64 (k : Nat) ∧ L.take k = M.take k ∧ ∃ q, wr = w.drewN q) (fun i _ => n1 - (intOf i).toNat)
    case atStart => exact ⟨0, by omega, rfl, rfl, 0, rfl⟩
    case round =>
      obtain ⟨k, hk, rfl, htk, q, rfl⟩ := hrel
      have HT := Lib.hid htk
      clear htk
      by_cases hlt : k < n1
      · obtain ⟨x, hx⟩ : ∃ x, L[k]? = some x := ⟨_, List.getElem?_eq_getElem (by have := HN1.out; omega)⟩
        obtain ⟨y, hy⟩ : ∃ y, M[k]? = some y := ⟨_, List.getElem?_eq_getElem (by have := HN2.out; omega)⟩
        obtain ⟨b1, o1, rfl, _, hc⟩ := HL.out.outer (by have := HN1.out; omega)
        obtain ⟨b2, o2, rfl, _, hd⟩ := HM.out.outer (by have := HN2.out; omega)
        obtain ⟨p0, p1, p2, p3⟩ := hc k x hx
        obtain ⟨q0, q1, q2, q3⟩ := hd k y hy
        have HX := Lib.hid hx
        have HY := Lib.hid hy
        clear hc hd hx hy
        obtain ⟨xk, xi, xn, xt⟩ := x
        obtain ⟨yk, yi, yn, yt⟩ := y
        simp only at p0 p1 p2 p3 q0 q1 q2 q3
        go_upto_region 6 with fail
        have HNe := Lib.hid (fun (h : (⟨xk, xi, xn, xt⟩ : Ev) ≠ ⟨yk, yi, yn, yt⟩) => (show L ≠ M by
          intro e
          have h1 := HX.out
          rw [e, HY.out] at h1
          exact h (Option.some.inj h1).symm))
        rcases (show (xk ≠ yk) ∨ (xk = yk ∧ xi ≠ yi) ∨ (xk = yk ∧ xi = yi ∧ xn ≠ yn) ∨ (xk = yk ∧ xi = yi ∧ xn = yn ∧ xt ≠ yt) ∨ (xk = yk ∧ xi = yi ∧ xn = yn ∧ xt = yt) by
          by_cases a : xk = yk <;> by_cases b : xi = yi <;> by_cases c : xn = yn <;> by_cases d : xt = yt <;> simp [a, b, c, d]) with hc | ⟨rfl, hc⟩ | ⟨rfl, rfl, hc⟩ | ⟨rfl, rfl, rfl, hc⟩ | ⟨rfl, rfl, rfl, rfl⟩
        · have he : (xk == yk) = false := by simpa using hc
          have HQ := Lib.hid (HNe.out (ev_ne (.inl hc)))
          clear hc
          go_quiet (fail)
          go_wp2
          go_ret
          exact same_no HQ.out ⟨rfl, rfl, rfl, Nat.le_refl _, fun _ _ => rfl⟩
        · have he : (xi == yi) = false := by simpa using hc
          have HQ := Lib.hid (HNe.out (ev_ne (.inr (.inl hc))))
          clear hc
          go_quiet (fail)
          go_wp2
          go_ret
          exact same_no HQ.out ⟨rfl, rfl, rfl, Nat.le_refl _, fun _ _ => rfl⟩
        · have he : (xn == yn) = false := by simpa using hc
          have HQ := Lib.hid (HNe.out (ev_ne (.inr (.inr (.inl hc)))))
          clear hc
          go_quiet (fail)
          go_wp2
          go_ret
          exact same_no HQ.out ⟨rfl, rfl, rfl, Nat.le_refl _, fun _ _ => rfl⟩
        · have he : ((str xt).toList == (str yt).toList) = false := str_ne hc
          have HQ := Lib.hid (HNe.out (ev_ne (.inr (.inr (.inr hc)))))
          clear hc
          go_quiet (fail)
          go_wp2
          go_ret
          exact same_no HQ.out ⟨rfl, rfl, rfl, Nat.le_refl _, fun _ _ => rfl⟩
        · go_quiet (fail)
          go_wp2
          go_roundw
          case rel => exact ⟨k + 1, by omega, by go_num, by rw [List.take_add_one, List.take_add_one, HX.out, HY.out, HT.out], _, rfl⟩
          case measure => simp [intOf]; omega
      · obtain rfl : k = n1 := by omega
        have HQ := Lib.hid (show L = M by
          have := HT.out
          rw [List.take_of_length_le (by rw [HN1.out]; omega), List.take_of_length_le (by rw [HN2.out]; omega)] at this
          exact this)
        go_wp2
        go_ret
        exact same_yes HQ.out ⟨rfl, rfl, rfl, Nat.le_refl _, fun _ _ => rfl⟩
  · have HQ := Lib.hid (show L ≠ M by
      rintro rfl
      exact hne (HN1.out.symm.trans HN2.out))
    have hd : ((n1 : Int) == (n2 : Int)) = false := by simp; omega
    clear hne
    go_enter Try.func15, Try.ntmps15
    go_wp2
    go_ret
    exact same_no HQ.out (Below.refl _ _)

end Go.Proofs.Ytflfchcncmpnbaa
