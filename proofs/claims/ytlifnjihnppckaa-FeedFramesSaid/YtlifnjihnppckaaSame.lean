/- What the laws' own Same and All answer. -/
import Derived.Test.YtlifnjihnppckaaFrw
import Derived.Test.YtlifnjihnppckaaFlaw
import Derived.Deep.DeepCutAuto
namespace Go.Proofs.Ytlifnjihnppckaa
open Go.RowKit
open Fr

theorem same_any {w : World} {B B' n c c' : Nat} {a a' : Option Addr} {K K' : Nat → BitVec 8} {A A' : Nat → Option Addr} {Ln Cp Ln' Cp' : Nat → Nat} {T T' : Nat → Bs}
    (h1 : Fv w B a n K A Ln Cp T) (h2 : Fv w B' a' n K' A' Ln' Cp' T') (heq : ∀ r, r < n → K r = K' r ∧ T r = T' r) (hn : n ≤ 1000000000000) :
    Calls Try.prog 14 #[.slice a n c, .slice a' n c'] w fun e w' => e = .returned (.bool true) ∧ ∃ m, w' = w.drewN m := by
  have H1 := Lib.hid h1
  have H2 := Lib.hid h2
  have HE := Lib.hid heq
  clear h1 h2 heq
  go_enter Try.func14, Try.ntmps14
  go_wp2
  go_loopw [13] (fun i wr => ∃ k m : Nat, k ≤ n ∧ i = .int .i64 k ∧ wr = w.drewN m) (fun i _ => n - (intOf i).toNat)
  case atStart => exact ⟨0, 0, by omega, rfl, rfl⟩
  case round =>
    obtain ⟨k, m, hk, rfl, rfl⟩ := hrel
    by_cases hlt : k < n
    · obtain ⟨b, off, rfl, _, hc⟩ := (H1.out.drewN m).outer (by omega)
      obtain ⟨b', off', rfl, _, hc'⟩ := (H2.out.drewN m).outer (by omega)
      obtain ⟨c0, c1⟩ := hc k hlt
      obtain ⟨d0, d1⟩ := hc' k hlt
      have hi1 := (H1.out.drewN m).inner k hlt
      have hi2 := (H2.out.drewN m).inner k hlt
      obtain ⟨e1, e2⟩ := HE.out k hlt
      rw [← e1] at d0
      rw [← e2] at hi2
      clear hc hc' e1 e2
      generalize hW : w.drewN m = W at *
      have HWd := Lib.hid hW
      clear hW
      have k1 := fun N => conv_str (cap := Cp k) (hi1.keep (w' := W.drewN N) (fun _ _ => rfl))
      have k2 := fun N => conv_str (cap := Cp' k) (hi2.keep (w' := W.drewN N) (fun _ _ => rfl))
      clear hi1 hi2
      go_wp2
      go_quiet (fail)
      go_wp2
      go_roundw
      case rel => exact ⟨k + 1, m + nq, by omega, by go_num, by rw [← HWd.out]; simp⟩
      case measure => simp [intOf]; omega
    · obtain rfl : k = n := by omega
      go_wp2
      go_ret
      exact ⟨rfl, m, rfl⟩

theorem rec_fr {es : List Ent} {e : Ent} {fs : List (BitVec 8 × Bs)} : kl (es ++ [e]) ++ fs = kl es ++ (e.k, e.l) :: fs := by simp [kl]

theorem get_err (l : Bs) : (Fr.get l).err = err l := by
  unfold Fr.get
  split
  · simp [*]
  · rfl

theorem fsrc_one (w : World) (e : Ent) (C : Array Value) (hC : C = (Ent.cells e).toArray) (fr : Nat × Nat) : Fsrc (w.alloc (.cells C 38 fr)) (some ⟨w.heap.size, 0, none⟩) 1 [e] := by
  subst hC
  refine ⟨rfl, fun _ => ⟨_, rfl, fun j u hu => ?_⟩⟩
  rw [add_none, cell_of_row _ _ _ _ _ _ (heap_alloc_new _ _), Nat.zero_add]
  simpa [cellsOf] using hu

def lenv : Value → Nat
  | .slice _ m _ => m
  | _ => 0

/-- what All ends with -/
def AllGives (w : World) (fs : List (BitVec 8 × Bs)) (left er : Nat) (e : Ending) (w' : World) : Prop :=
  ∃ A n c es, e = .returned (.tuple #[.slice A n c, .int .i64 left, .int .i64 er]) ∧ FrRow w.heap.size w' A n c es ∧ kl es = fs ∧ Below w.heap.size w w'

theorem all_any {B n cap : Nat} {a : Option Addr} {l r : Bs} {fs : List (BitVec 8 × Bs)} (w : World) (hl : Bytes w B a n l) (hB : B ≤ w.heap.size) (hcap : n ≤ cap) (hn : n ≤ 1000000000) (ht : Tells l fs r) :
    Calls Try.prog 13 #[.slice a n cap] w (AllGives w fs (keep r).length (broke r)) := by
  have HL := Lib.hid hl
  have HT := Lib.hid ht
  have hdl := ht.left
  have HDL := Lib.hid hdl
  clear hl ht hdl
  go_enter Try.func13, Try.ntmps13
  go_wp2
  go_loopw [0, 5] (fun s0 s5 wr => ∃ (A : Option Addr) (m c : Nat) (q : Bs) (R : Option Addr) (rn rc : Nat) (es : List Ent) (gs : List (BitVec 8 × Bs)), s0 = .slice A m c ∧ s5 = .slice R rn rc ∧ m ≤ c ∧ m ≤ n ∧ Bytes wr B A m q ∧ FrRow w.heap.size wr R rn rc es ∧
    Tells q gs r ∧ kl es ++ gs = fs ∧ 5 * rn ≤ n ∧ 5 * rn + m ≤ n ∧ Off (fun b => w.heap.size ≤ b) es ∧ Below w.heap.size w wr) (fun s0 _ _ => lenv s0)
  case atStart => exact ⟨a, n, cap, l, _, 0, 0, [], fs, rfl, rfl, hcap, Nat.le_refl _, HL.out.below ((Below.refl _ _).alloc hB _), FrRow.empty w (Nat.le_refl _), HT.out, rfl, by omega, by omega, (fun _ h => by cases h), (Below.refl _ _).alloc (Nat.le_refl _) _⟩
  case round =>
    obtain ⟨A, m, c, q, R, rn, rc, es, gs, rfl, rfl, hmc, hmn, hq, hrow, htq, hkl, h5, h6, hoff, hbr⟩ := hrel
    have HQ := Lib.hid hq
    have HR := Lib.hid hrow
    have HTq := Lib.hid htq
    have HK := Lib.hid hkl
    have HO := Lib.hid hoff
    have HBr := Lib.hid hbr
    have hBr : B ≤ wr.heap.size := Nat.le_trans hB hbr.size
    clear hq hrow htq hkl hoff hbr HL HT
    go_wp2_with fail
    refine (lget_any A m c B q wr HQ.out hBr hmc (by omega)).mono ?_
    rintro e w3 ⟨A3, c3, rfl, hby, hb3⟩
    have HR3 := Lib.hid (HR.out.below hb3)
    have HQ3 := Lib.hid (HQ.out.below (hb3.mono hBr))
    have HB3 := Lib.hid (Below.trans HBr.out (hb3.mono HBr.out.size))
    have HBy := Lib.hid hby
    clear hby hb3 HR HQ HBr
    have hqm := HQ3.out.1
    by_cases he : err q = 0
    · obtain ⟨gs2, hgs, ht2⟩ := tells_next HTq.out he
      obtain ⟨hn5, hnm⟩ := get_n5 he
      have hbl := get_body_len he
      have hge := get_err q
      rw [he] at hge
      rw [hqm] at hnm
      rw [hge]
      generalize get q = g at *
      have HT2 := Lib.hid ht2
      have HGs := Lib.hid hgs
      have HBl := Lib.hid hbl
      clear ht2 hgs hbl hge he HTq hqm
      have hal : ∀ o, Below w3.heap.size w3 (w3.alloc o) := fun o => (Below.refl _ _).alloc (Nat.le_refl _) o
      have hB3 : B ≤ w3.heap.size := Nat.le_trans hB HB3.out.size
      have hN1 : (g.n : Int) ≤ (m : Int) := by omega
      have HOff : Hid (Off (fun b => w.heap.size ≤ b) (es ++ [⟨g.k, A3, g.body.length, c3, g.body⟩])) := Lib.hid (by
        refine Off.app HO.out ?_
        intro e he hn p hp
        rw [List.mem_singleton] at he
        subst he
        obtain ⟨b, off, e1, hlt, _⟩ := HBy.out.2 hn
        rw [show A3 = some p from hp] at e1
        injection e1 with e1
        subst e1
        show ¬ w.heap.size ≤ b
        omega)
      go_wp2_with (first
        | (at_builtin
           refine wpList_fapp rfl (.tmp 27) (.tmp 31) rfl rfl (HR3.out.below (hal _)) rfl (fsrc_one w3 ⟨g.k, A3, g.body.length, c3, g.body⟩ _ rfl _) ?ents ?off (by omega) (Nat.le_trans HB3.out.size (by simp)) ?_
           case ents =>
             intro e he
             rw [List.mem_singleton] at he
             subst he
             exact (HBy.out.below ((hal _).mono hB3)).more (Nat.le_trans hB3 (by simp))
           case off => exact HOff.out.mono fun b ⟨p, hp, hb⟩ => hb ▸ (HR3.out.lt hp).1
           intro A5 c5 w5 hr5 ho5 hp5
           have HR5 := Lib.hid hr5
           have HO5 := Lib.hid ho5
           clear hr5 ho5 hp5))
      go_roundw
      case rel =>
        have hsz : w.heap.size ≤ (w3.alloc (.cells #[.int .u8 g.k.toNat, .slice A3 g.body.length c3] 38)).heap.size := Nat.le_trans HB3.out.size (by simp)
        have hb5 := HO5.out.below hsz (fun k hk ⟨p, hp, hb⟩ => by have := (HR3.out.lt hp).1; omega)
        exact ⟨cutA A c g.n, m - g.n, c - g.n, q.drop g.n, A5, rn + 1, c5, _, gs2, rfl, rfl, by omega, by omega, ((HQ3.out.below ((hal _).mono hB3)).below (hb5.mono hB)).cut hnm hmc, HR5.out, HT2.out, by rw [rec_fr, ← HGs.out]; exact HK.out, by omega, by omega, HOff.out, Below.trans (HB3.out.alloc HB3.out.size _) hb5⟩
      case measure => show m - g.n < m; omega
    · obtain ⟨hgs, hrq⟩ := tells_stop HTq.out he
      have hg := get_no rfl he
      rw [hg]
      subst hgs hrq
      have hk2 := HK.out
      rw [List.append_nil] at hk2
      have HK2 := Lib.hid hk2
      have hkp := @keep_short r
      have hke := @keep_else r
      have HKp := Lib.hid hkp
      have HKe := Lib.hid hke
      have HQm := Lib.hid hqm
      clear hg hk2 hkp hke HK hqm
      by_cases h55 : err r = 5
      · have hd : ((err r : Int) == 5) = true := by simp; omega
        go_wp2
        refine bodyPost_ret (v := .tuple #[.slice R rn rc, .int .i64 m, .int .i64 (0 : Nat)]) (by simp [results, Try.results13, go_sem]) rfl ?_
        exact ⟨R, rn, rc, es, by rw [(HKp.out h55).1, (HKp.out h55).2, HQm.out], HR3.out, HK2.out, HB3.out⟩
      · have hd : ((err r : Int) == 5) = false := by simp; omega
        have hd2 : ((err r : Int) != 0) = true := by simp; omega
        go_wp2
        refine bodyPost_ret (v := .tuple #[.slice R rn rc, .int .i64 (0 : Nat), .int .i64 (err r)]) (by simp [results, Try.results13, go_sem]) rfl ?_
        exact ⟨R, rn, rc, es, by rw [(HKe.out h55).1, (HKe.out h55).2]; rfl, HR3.out, HK2.out, HB3.out⟩

end Go.Proofs.Ytlifnjihnppckaa
