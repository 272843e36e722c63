/- What layer 8's laws' own Parts and same answer. -/
import Derived.Test.YtceomegglopbcaaRow
import Derived.Test.YtceomegglopbcaaLx
import Derived.Deep.DeepCutAuto
namespace Go.Proofs.Ytceomegglopbcaa
open Go.RowKit
open Lx

def sv (b : Bs) : Value := .string (str b)
def strs (ss : List Bs) : List Value := ss.map sv

theorem strs_one (ss : List Bs) : ∀ v ∈ strs ss, v.oneCell' = true := by
  intro v hv
  simp only [strs, List.mem_map] at hv
  obtain ⟨b, _, rfl⟩ := hv
  rfl
theorem strs_app (a b : List Bs) : strs (a ++ b) = strs a ++ strs b := by simp [strs]
theorem strs_len (a : List Bs) : (strs a).length = a.length := by simp [strs]
theorem strs_get (ss : List Bs) (j : Nat) (h : j < ss.length) : (strs ss)[j]? = some (sv (ss.getD j [])) := by
  simp [strs, List.getElem?_eq_getElem h, List.getD_eq_getElem?_getD]

theorem elem_str : Elem 27 9 (.string (str [])) 16 := ⟨Try.underlying27, by
  obtain ⟨i, h1, h2, h3, h4⟩ := (info_parts (by kernel_rfl) : ∃ i, Try.prog.info? 9 = some i ∧ i.zero = some (.string ⟨#[]⟩) ∧ i.size = 1 ∧ i.bytes = 16)
  exact ⟨i, h1, h2, h3, h4⟩, rfl, by omega⟩

theorem at_val (b off i : Nat) : (Addr.add ⟨b, off, none⟩ i) = ⟨b, off + i, none⟩ := add_none b off i

/-- keystrokes and commands side by side -/
structure KO (base : Nat) (w : World) (ka : Option Addr) (kn kc : Nat) (K : Bs) (ra : Option Addr) (rn rc : Nat) (C : List Bs) : Prop where
  keys : Mid base w ka kn kc K
  cmds : Rw base w ra rn rc (strs C)
  apart : ∀ b, In ka b → ¬ In ra b

section
variable {base kn kc rn rc : Nat} {w w' : World} {ka ra : Option Addr} {K : Bs} {C : List Bs}

theorem KO.below (h : KO base w ka kn kc K ra rn rc C) (hb : Below w.heap.size w w') : KO base w' ka kn kc K ra rn rc C := ⟨h.keys.below hb, h.cmds.below hb, h.apart⟩

theorem KO.key (h : KO base w ka kn kc K ra rn rc C) {A2 : Option Addr} {n2 c2 : Nat} {K2 : Bs} (hm : Mid base w' A2 n2 c2 K2) (ho : Only (In ka) w w') (hp : ∀ p, A2 = some p → In ka p.block ∨ w.heap.size ≤ p.block) :
    KO base w' A2 n2 c2 K2 ra rn rc C := by
  refine ⟨hm, h.cmds.only ho (fun b hb hk => h.apart b hk hb), ?_⟩
  rintro b ⟨p, hp2, rfl⟩ hb
  rcases hp p hp2 with h1 | h1
  · exact h.apart _ h1 hb
  · have := (h.cmds.inlt hb).2; omega

theorem KO.cmd (h : KO base w ka kn kc K ra rn rc C) {A2 : Option Addr} {n2 c2 : Nat} {C2 : List Bs} (hm : Rw base w' A2 n2 c2 (strs C2)) (ho : Only (In ra) w w') (hp : ∀ b, In A2 b → In ra b ∨ w.heap.size ≤ b) :
    KO base w' ka kn kc K A2 n2 c2 C2 := by
  refine ⟨h.keys.only ho (fun p hp hr => h.apart _ ⟨p, hp, rfl⟩ hr), hm, ?_⟩
  intro b hb hb2
  rcases hp b hb2 with h1 | h1
  · exact h.apart _ hb h1
  · have := (h.keys.inlt hb).2; omega
end

theorem only_self {S : Nat → Prop} {B : Nat} {w0 w w' : World} (hb : Below B w0 w) (hB : B ≤ w.heap.size) (ho : Only S w w') (hs : ∀ b, S b → B ≤ b) : Below B w0 w' :=
  Below.trans hb (ho.below hB (fun k hk hS => by have := hs k hS; omega))

def PartsGives (base : Nat) (w : World) (l : Bs) (e : Ending) (w' : World) : Prop :=
  ∃ ka kn kc ra rn rc, e = .returned (.tuple #[.slice ka kn kc, .slice ra rn rc]) ∧ KO base w' ka kn kc (lkeys lx0 l) ra rn rc (lcmds lx0 l) ∧ Below base w w'

/-- where the round stands -/
structure PI (base : Nat) (w0 w : World) (l : Bs) (i : Nat) (ka : Option Addr) (kn kc : Nat) (ra : Option Addr) (rn rc : Nat) : Prop where
  ko : KO base w ka kn kc (K l i) ra rn rc (C l i)
  bel : Below base w0 w
  room : base ≤ w.heap.size
  kle : kn ≤ i
  rle : rn ≤ i

section
variable {base kn kc rn rc i i2 : Nat} {w0 w w1 w2 : World} {ka ra : Option Addr} {l : Bs}

theorem PI.below (h : PI base w0 w l i ka kn kc ra rn rc) (hb : Below w.heap.size w w1) : PI base w0 w1 l i ka kn kc ra rn rc :=
  ⟨h.ko.below hb, Below.trans h.bel (hb.mono h.room), Nat.le_trans h.room hb.size, h.kle, h.rle⟩

theorem PI.skip (h : PI base w0 w l i ka kn kc ra rn rc) (hK : K l i2 = K l i) (hC : C l i2 = C l i) (hi : i ≤ i2) : PI base w0 w l i2 ka kn kc ra rn rc :=
  ⟨by rw [hK, hC]; exact h.ko, h.bel, h.room, Nat.le_trans h.kle hi, Nat.le_trans h.rle hi⟩

theorem PI.key (h : PI base w0 w l i ka kn kc ra rn rc) {x : BitVec 8} (hK : K l i2 = K l i ++ [x]) (hC : C l i2 = C l i) (hi : i + 1 ≤ i2) {A2 : Option Addr} {c2 : Nat}
    (hm : Mid base w2 A2 (kn + 1) c2 (K l i ++ [x])) (ho : Only (In ka) w w2) (hp : ∀ p, A2 = some p → In ka p.block ∨ w.heap.size ≤ p.block) : PI base w0 w2 l i2 A2 (kn + 1) c2 ra rn rc := by
  refine ⟨?_, only_self h.bel h.room ho (fun b hb => (h.ko.keys.inlt hb).1), Nat.le_trans h.room ho.size, ?_, ?_⟩
  · have := h.ko.key hm ho hp
    rwa [← hK, ← hC] at this
  · have := h.kle; omega
  · have := h.rle; omega

theorem PI.cmd (h : PI base w0 w l i ka kn kc ra rn rc) {x : Bs} (hK : K l i2 = K l i) (hC : C l i2 = C l i ++ [x]) (hi : i + 1 ≤ i2) {A2 : Option Addr} {c2 : Nat}
    (hm : Rw base w2 A2 (rn + 1) c2 (strs (C l i) ++ [sv x])) (ho : Only (In ra) w w2) (hp : ∀ b, In A2 b → In ra b ∨ w.heap.size ≤ b) : PI base w0 w2 l i2 ka kn kc A2 (rn + 1) c2 := by
  refine ⟨?_, only_self h.bel h.room ho (fun b hb => (h.ko.cmds.inlt hb).1), Nat.le_trans h.room ho.size, ?_, ?_⟩
  · have := h.ko.cmd (C2 := C l i ++ [x]) (by rw [strs_app]; exact hm) ho hp
    rwa [← hC, ← hK] at this
  · have := h.kle; omega
  · have := h.rle; omega

theorem PI.fin (h : PI base w0 w l i ka kn kc ra rn rc) (hK : K l i = lkeys lx0 l) (hC : C l i = lcmds lx0 l) : KO base w ka kn kc (lkeys lx0 l) ra rn rc (lcmds lx0 l) := by
  rw [← hK, ← hC]; exact h.ko
end

theorem at_small (l : Bs) (i : Nat) : (at_ l i).toNat < 256 := (at_ l i).isLt

theorem lit1 (w : World) (x : BitVec 8) (v : Int) (hv : v = x.toNat) : Bytes (w.alloc (.cells #[.int .u8 v] 5)) (w.heap.size + 1) (some ⟨w.heap.size, 0, none⟩) 1 [x] := by
  subst hv
  exact one_new w x

theorem Bytes.at {w : World} {B n g off : Nat} {l : Bs} (h : Bytes w B (some ⟨g, off, none⟩) n l) (i : Nat) (hi : i < n) : w.cell? ⟨g, off + i, none⟩ = some (.int .u8 (at_ l i).toNat) := by
  obtain ⟨b, o, e, _, hc⟩ := h.2 (by omega)
  injection e with e
  injection e with e1 e2
  subst e1 e2
  exact hc i hi

theorem Bytes.part {w : World} {B n g off cap i j : Nat} {l : Bs} (h : Bytes w B (some ⟨g, off, none⟩) n l) (hij : i ≤ j) (hj : j < n) (hc : n ≤ cap) : Bytes w B (some ⟨g, off + i, none⟩) (j - i) (Lx.cut l i j) := by
  have h1 := (h.cut2 (j := i) (by omega) hc (by omega)).take (k := j - i) (by omega)
  exact h1

theorem lits (w : World) (x : Bs) (v : Value) (hv : v = sv x) : Vals (w.alloc (.cells #[v] 9)) (w.heap.size + 1) (some ⟨w.heap.size, 0, none⟩) 1 [sv x] := by
  subst hv
  exact Vals.lit w [sv x] 9 (strs_one [x]) (0, 0) _ rfl

theorem below_lit (w : World) (o : Obj) : Below w.heap.size w (w.alloc o) := (Below.refl _ _).alloc (Nat.le_refl _) o

theorem pi_new (w : World) (l : Bs) : PI w.heap.size w ((w.alloc (.cells #[] 5)).alloc (.cells #[] 9)) l 0 (some ⟨w.heap.size, 0, none⟩) 0 0 (some ⟨w.heap.size + 1, 0, none⟩) 0 0 := by
  have h1 : Mid w.heap.size (w.alloc (.cells #[] 5)) (some ⟨w.heap.size, 0, none⟩) 0 0 [] := (own_new w w.heap.size (Nat.le_refl _)).mid
  have h2 := Rw.fresh (w.alloc (.cells #[] 5)) w.heap.size [] 9 (by simp) (by simp) (by simp) (0, 0) rfl
  refine ⟨⟨h1.below (below_lit _ _), by have h3 := h2; simp at h3; exact h3, ?_⟩, ?_, by simp; omega, by omega, by omega⟩
  · rintro b ⟨p, hp, rfl⟩ ⟨q, hq, e⟩
    injection hp with hp
    injection hq with hq
    subst hp hq
    simp at e
  · exact Below.trans (below_lit _ _) ((below_lit _ _).mono (by simp))

set_option maxRecDepth 100000 in
set_option maxHeartbeats 1000000 in
theorem parts_any (w : World) (B n cap : Nat) (a : Option Addr) (l : Bs) (h : Bytes w B a n l) (hB : B ≤ w.heap.size) (hn : n ≤ 1000000) (hcap : n ≤ cap) (hc2 : cap ≤ maxLen) :
    Calls Try.prog 10 #[.slice a n cap] w (PartsGives w.heap.size w l) := by
  have HW := Lib.hid h
  have hll : l.length = n := h.1
  have HLL := Lib.hid hll
  clear h hll
  have hcap2 : cap ≤ 9223372036854775807 := by unfold maxLen at hc2; omega
  have HB := Lib.hid hB
  clear hc2 hB
  have HP0 := Lib.hid (pi_new w l)
  go_enter Try.func10, Try.ntmps10
  go_wp2
  go_loopw [4, 5, 6] (fun s4 s5 s6 wr => ∃ i ka kn kc ra rn rc, i ≤ n ∧ s6 = .int .i64 (i : Nat) ∧ s4 = .slice ka kn kc ∧ s5 = .slice ra rn rc ∧ S l i = lx0 ∧ PI w.heap.size w wr l i ka kn kc ra rn rc) (fun _ _ s6 _ => n - (intOf s6).toNat)
  case atStart => exact ⟨0, _, _, _, _, _, _, by omega, rfl, rfl, rfl, rfl, HP0.out⟩
  case round =>
    obtain ⟨i, ka, kn, kc, ra, rn, rc, hi, rfl, rfl, rfl, hs, hp⟩ := hrel
    have HS := Lib.hid hs
    have HP := Lib.hid hp
    clear hs hp HP0
    by_cases hlt : i < n
    · obtain ⟨g, off, rfl, hgB, hc⟩ := (HW.out.below (HP.out.bel.mono HB.out)).2 (by omega)
      have hc0 : wr.cell? ⟨g, off + i, none⟩ = some (.int .u8 (at_ l i).toNat) := hc i hlt
      have hx8 := at_small l i
      by_cases hx : (at_ l i).toNat = 29
      · have HE := Lib.hid (esc_step (by rw [HLL.out]; exact hlt) HS.out hx)
        rw [hx] at hc0
        by_cases h1 : i + 1 = n
        · have HF := Lib.hid (HP.out.fin (by rw [← HE.out.2.1, h1, ← HLL.out]; exact K_all l) (by rw [← HE.out.2.2, h1, ← HLL.out]; exact C_all l))
          have h1' : ((i : Int) + 1 == (n : Int)) = true := by simp; omega
          clear hc hx HE HS h1
          go_wp2
          exact bodyPost_ret (v := .tuple #[.slice ka kn kc, .slice ra rn rc]) (by simp [results, Try.results10, go_sem]) rfl ⟨ka, kn, kc, ra, rn, rc, rfl, HF.out, HP.out.bel⟩
        · have h1' : ((i : Int) + 1 == (n : Int)) = false := by simp; omega
          have hlt1 : i + 1 < n := by omega
          have hc1 : wr.cell? ⟨g, off + (i + 1), none⟩ = some (.int .u8 (at_ l (i + 1)).toNat) := hc (i + 1) (by omega)
          have hy8 := at_small l (i + 1)
          by_cases hy : (at_ l (i + 1)).toNat = 29
          · have HT := Lib.hid (esc_twice (by rw [HLL.out]; omega) HE.out.1 hy)
            have hroom := HP.out.room
            have hkle := HP.out.kle
            rw [hy] at hc1
            have HY := Lib.hid hy
            clear hc hx hy h1
            go_wp2_with (first
              | (at_builtin
                 refine wpList_mid rfl (.tmp 40) (.tmp 41) rfl w.heap.size rfl (HP.out.ko.keys.below (below_lit _ _)) rfl (lit1 wr 29#8 29 rfl) (by omega) (by simp; omega) ?_
                 intro A2 c2 w2 hm ho hp2
                 have HP2 := Lib.hid ((HP.out.below (below_lit _ _)).key (i2 := i + 2) (by rw [HT.out.2.1, HE.out.2.1]) (by rw [HT.out.2.2, HE.out.2.2]) (by omega) hm ho hp2)
                 have hc3 : w2.cell? ⟨g, off + (i + 1), none⟩ = some (.int .u8 29) := by have := (HW.out.below (HP2.out.bel.mono HB.out)).at (i + 1) hlt1; rwa [HY.out] at this
                 clear hm ho hp2))
            go_roundw
            case rel => exact ⟨i + 2, _, _, _, _, _, _, by omega, by go_num, rfl, rfl, HT.out.1, HP2.out⟩
            case measure => simp [intOf]; omega
          by_cases hy2 : (at_ l (i + 1)).toNat = 58
          · have HT := Lib.hid (esc_colon (by rw [HLL.out]; omega) HE.out.1 hy2)
            rw [hy2] at hc1
            clear hc hx hy hy2 h1
            go_wp2
            go_loop [7] (fun s7 => ∃ j : Nat, i + 2 ≤ j ∧ j ≤ n ∧ s7 = .int .i64 j ∧ S l j = ⟨2, cut l (i + 2) j⟩ ∧ K l j = K l i ∧ C l j = C l i) (fun s7 => n - (intOf s7).toNat)
            case atStart => exact ⟨i + 2, by omega, by omega, by go_num, by rw [cut_nil]; exact HT.out.1, HT.out.2.1.trans HE.out.2.1, HT.out.2.2.trans HE.out.2.2⟩
            case round =>
              obtain ⟨j, hij, hjn, rfl, hsj, hkj, hcj⟩ := hrel
              have HJ := Lib.hid (And.intro hsj (And.intro hkj hcj))
              clear hsj hkj hcj
              by_cases hjl : j < n
              · have hcz := (HW.out.below (HP.out.bel.mono HB.out)).at j hjl
                have hz8 := at_small l j
                by_cases hz : (at_ l j).toNat = 10
                · have HT2 := Lib.hid (in_end (by rw [HLL.out]; exact hjl) HJ.out.1 hz)
                  have hcv := conv_str (cap := cap - (i + 2)) ((HW.out.below (HP.out.bel.mono HB.out)).part hij hjl hcap)
                  have hsz := str_size (cut l (i + 2) j)
                  rw [cut_len l hij (by rw [HLL.out]; omega)] at hsz
                  have hcl := cut_len l hij (by rw [HLL.out]; omega)
                  rw [hz] at hcz
                  have hroom := HP.out.room
                  have hrle := HP.out.rle
                  clear hz
                  by_cases hlong : 80 < j - (i + 2)
                  · have HX := Lib.hid (show C l (j + 1) = C l i ++ [[]] by rw [HT2.out.2.2, HJ.out.2.2]; unfold shut; rw [if_pos (by rw [hcl]; exact hlong)])
                    have hlong2 : (80 : Int) < ((j - (i + 2) : Nat) : Int) := by omega
                    clear hcl
                    go_wp2_with (first
                      | (at_builtin
                         refine wpList_rw elem_str rfl (.tmp 79) (.tmp 81) rfl w.heap.size rfl (HP.out.ko.cmds.below (below_lit _ _)) rfl (lits wr [] _ rfl) (by omega) (by simp; omega) ?_
                         intro A2 c2 w2 hm ho hp2
                         have HP2 := Lib.hid ((HP.out.below (below_lit _ _)).cmd (i2 := j + 1) (by rw [HT2.out.2.1, HJ.out.2.1]) HX.out (by omega) hm ho hp2)
                         clear hm ho hp2))
                    go_roundw
                    case rel => exact ⟨j + 1, _, _, _, _, _, _, by omega, by go_num, rfl, rfl, HT2.out.1, HP2.out⟩
                    case measure => simp [intOf]; omega
                  · have HX := Lib.hid (show C l (j + 1) = C l i ++ [cut l (i + 2) j] by rw [HT2.out.2.2, HJ.out.2.2]; unfold shut; rw [if_neg (by rw [hcl]; exact hlong)])
                    have hlong2 : ¬ (80 : Int) < ((j - (i + 2) : Nat) : Int) := by omega
                    clear hcl
                    go_wp2_with (first
                      | (at_builtin
                         refine wpList_rw elem_str rfl (.tmp 79) (.tmp 81) rfl w.heap.size rfl (HP.out.ko.cmds.below (below_lit _ _)) rfl (lits wr (cut l (i + 2) j) _ rfl) (by omega) (by simp; omega) ?_
                         intro A2 c2 w2 hm ho hp2
                         have HP2 := Lib.hid ((HP.out.below (below_lit _ _)).cmd (i2 := j + 1) (by rw [HT2.out.2.1, HJ.out.2.1]) HX.out (by omega) hm ho hp2)
                         clear hm ho hp2))
                    go_roundw
                    case rel => exact ⟨j + 1, _, _, _, _, _, _, by omega, by go_num, rfl, rfl, HT2.out.1, HP2.out⟩
                    case measure => simp [intOf]; omega
                · have HS2 := Lib.hid (in_step (by rw [HLL.out]; exact hjl) HJ.out.1 hz)
                  have HC2 := Lib.hid (cut_next l hij (by rw [HLL.out]; exact hjl))
                  have hn3 : (((at_ l j).toNat : Int) == 10) = false := by simp; omega
                  generalize (at_ l j).toNat = z at *
                  clear hz
                  go_wp2
                  go_round
                  case rel => exact ⟨j + 1, by omega, by omega, by go_num, by rw [HC2.out]; exact HS2.out.1, HS2.out.2.1.trans HJ.out.2.1, HS2.out.2.2.trans HJ.out.2.2⟩
                  case measure => simp [intOf]; omega
              · obtain rfl : j = n := by omega
                have HF := Lib.hid (HP.out.fin (by rw [← HJ.out.2.1, ← HLL.out]; exact K_all l) (by rw [← HJ.out.2.2, ← HLL.out]; exact C_all l))
                go_wp2
                exact bodyPost_ret (v := .tuple #[.slice ka kn kc, .slice ra rn rc]) (by simp [results, Try.results10, go_sem]) rfl ⟨ka, kn, kc, ra, rn, rc, rfl, HF.out, HP.out.bel⟩
          · have HT := Lib.hid (esc_other (by rw [HLL.out]; omega) HE.out.1 hy hy2)
            have hn1 : (((at_ l (i + 1)).toNat : Int) == 29) = false := by simp; omega
            have hn2 : (((at_ l (i + 1)).toNat : Int) == 58) = false := by simp; omega
            have HP2 := Lib.hid (HP.out.skip (i2 := i + 2) (by rw [HT.out.2.1, HE.out.2.1]) (by rw [HT.out.2.2, HE.out.2.2]) (by omega))
            generalize (at_ l (i + 1)).toNat = y at *
            clear hc hx hy hy2 h1
            go_wp2
            go_roundw
            case rel => exact ⟨i + 2, _, _, _, _, _, _, by omega, by go_num, rfl, rfl, HT.out.1, HP2.out⟩
            case measure => simp [intOf]; omega
      · have HK := Lib.hid (plain_step (by rw [HLL.out]; exact hlt) HS.out hx)
        have hne : (((at_ l i).toNat : Int) == 29) = false := by simp; omega
        obtain ⟨v, hv⟩ : ∃ v : Int, v = (at_ l i).toNat := ⟨_, rfl⟩
        have HV := Lib.hid hv
        have hroom := HP.out.room
        have hkle := HP.out.kle
        clear hc
        rw [← hv] at hc0 hne
        clear hv hx
        go_wp2_with (first
          | (at_builtin
             refine wpList_mid rfl (.tmp 20) (.tmp 25) rfl w.heap.size rfl (HP.out.ko.keys.below (below_lit _ _)) rfl (lit1 wr (at_ l i) v HV.out) (by omega) (by simp; omega) ?_
             intro A2 c2 w2 hm ho hp2
             have HP2 := Lib.hid ((HP.out.below (below_lit _ _)).key HK.out.2.1 HK.out.2.2 (Nat.le_refl _) hm ho hp2)
             clear hm ho hp2))
        go_roundw
        case rel => exact ⟨i + 1, _, _, _, _, _, _, by omega, by go_num, rfl, rfl, HK.out.1, HP2.out⟩
        case measure => simp [intOf]; omega
    · obtain rfl : i = n := by omega
      have HF := Lib.hid (HP.out.fin (by rw [← HLL.out]; exact K_all l) (by rw [← HLL.out]; exact C_all l))
      go_wp2
      exact bodyPost_ret (v := .tuple #[.slice ka kn kc, .slice ra rn rc]) (by simp [results, Try.results10, go_sem]) rfl ⟨ka, kn, kc, ra, rn, rc, rfl, HF.out, HP.out.bel⟩

end Go.Proofs.Ytceomegglopbcaa
