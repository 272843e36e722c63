
/- Law 10's own model of a table, in memory: where it lies, what its parts answer. -/
import Derived.Test.YtanloclkbdameaaRw
import Derived.Test.YtanloclkbdameaaBx
import Derived.Test.YtanloclkbdameaaMp
import Derived.Deep.RegionLaw
import Derived.BigRegion
import Derived.BigQuiet
import Derived.Deep.DeepCutAuto
namespace Go.Proofs.Ytanloclkbdameaa
open Go.RowKit

theorem elem_int : Elem 45 3 (.int .i64 0) 8 := ⟨Try.underlying45, info_parts (by kernel_rfl), rfl, by omega⟩

/-- a model in block g, its parts written out; M: its blocks -/
structure MdAt (M : Nat → Prop) (g bm : Nat) (a : Option Addr) (n c : Nat) (w : World) (s : Fl) : Prop where
  bx : Bx g w #[.int .i64 s.lease, .int .i64 s.left, .map (some bm), .bool false, .slice a n c]
  rm : Rm bm w s.roles
  rw : Rw 0 w a n c (ints s.line)
  d1 : bm ≠ g
  d2 : ¬ In a g
  d3 : ¬ In a bm
  m1 : M g
  m2 : M bm
  m3 : ∀ b, In a b → M b
  lt : ∀ b, M b → b < w.heap.size

def Md (M : Nat → Prop) (g : Nat) (w : World) (s : Fl) : Prop := ∃ bm a n c, MdAt M g bm a n c w s

/-- what a call of the model's leaves -/
def MdGives (M : Nat → Prop) (g : Nat) (w : World) (s2 : Fl) (v : Value) (e : Ending) (w' : World) : Prop :=
  ∃ M2, e = .returned v ∧ Md M2 g w' s2 ∧ (∀ b, M2 b → M b ∨ w.heap.size ≤ b) ∧ Only M w w'

section
variable {M : Nat → Prop} {g bm n c N : Nat} {a : Option Addr} {w w' : World} {s : Fl}

theorem MdAt.len (h : MdAt M g bm a n c w s) : s.line.length = n := by have := h.rw.len; rwa [ints_len] at this

theorem MdAt.keep {S : Nat → Prop} (h : MdAt M g bm a n c w s) (hO : Only S w w') (hS : ∀ b, M b → ¬ S b) : MdAt M g bm a n c w' s :=
  ⟨h.bx.keep hO (hS _ h.m1), h.rm.keep hO (hS _ h.m2), h.rw.only hO (fun b hb => hS _ (h.m3 b hb)), h.d1, h.d2, h.d3, h.m1, h.m2, h.m3, fun b hb => Nat.lt_of_lt_of_le (h.lt b hb) hO.size⟩

theorem Md.keep {S : Nat → Prop} (h : Md M g w s) (hO : Only S w w') (hS : ∀ b, M b → ¬ S b) : Md M g w' s := by
  obtain ⟨bm, a, n, c, h⟩ := h
  exact ⟨bm, a, n, c, h.keep hO hS⟩

theorem Md.lt (h : Md M g w s) : ∀ b, M b → b < w.heap.size := by
  obtain ⟨bm, a, n, c, h⟩ := h
  exact h.lt

theorem MdAt.drewN (h : MdAt M g bm a n c w s) (k : Nat) : MdAt M g bm a n c (w.drewN k) s := h.keep ((Only.refl (fun _ => False) w).drewN k) (fun _ _ h => h)

/-- another line is laid into the model -/
theorem MdAt.relay (h : MdAt M g bm a n c w s) {w3 : World} {A : Option Addr} {k c4 : Nat} {l2 : List Int} (hO : Only (In a) w w3) (hm : Rw 0 w3 A k c4 (ints l2)) (hA : ∀ b, In A b → In a b ∨ w.heap.size ≤ b) :
    MdAt (fun b => b = g ∨ b = bm ∨ In A b) g bm A k c4 (w3.setCell ⟨g, 4, none⟩ (.slice A k c4)) { s with line := l2 } ∧ (∀ b, (b = g ∨ b = bm ∨ In A b) → M b ∨ w.heap.size ≤ b) ∧ Only M w (w3.setCell ⟨g, 4, none⟩ (.slice A k c4)) := by
  have hgw : g < w.heap.size := h.lt _ h.m1
  have hbw : bm < w.heap.size := h.lt _ h.m2
  have hAg : ¬ In A g := fun hi => by
    rcases hA _ hi with h1 | h1
    · exact h.d2 h1
    · omega
  have hAb : ¬ In A bm := fun hi => by
    rcases hA _ hi with h1 | h1
    · exact h.d3 h1
    · omega
  have hS := Bx.only g w3 4 (.slice A k c4)
  have h1 := (h.bx.keep hO h.d2).set 4 (.slice A k c4)
  refine ⟨⟨h1, (h.rm.keep hO h.d3).keep hS h.d1, hm.only hS (fun b hb e => hAg (e ▸ hb)), h.d1, hAg, hAb, .inl rfl, .inr (.inl rfl), fun b hb => .inr (.inr hb), ?_⟩, ?_, ?_⟩
  · rintro b (rfl | rfl | hb)
    · exact Nat.lt_of_lt_of_le hgw (Nat.le_trans hO.size hS.size)
    · exact Nat.lt_of_lt_of_le hbw (Nat.le_trans hO.size hS.size)
    · exact Nat.lt_of_lt_of_le (hm.inlt hb).2 hS.size
  · rintro b (rfl | rfl | hb)
    · exact .inl h.m1
    · exact .inl h.m2
    · rcases hA _ hb with h2 | h2
      · exact .inl (h.m3 _ h2)
      · exact .inr h2
  · exact (hO.mono (fun k _ hk => h.m3 k hk)).trans (hS.mono (fun k _ hk => by subst hk; exact h.m1))

/-- another rest of the lease -/
theorem MdAt.setl (h : MdAt M g bm a n c w s) (v : Nat) : MdAt M g bm a n c (w.setCell ⟨g, 1, none⟩ (.int .i64 (v : Nat))) { s with left := v } ∧ Only M w (w.setCell ⟨g, 1, none⟩ (.int .i64 (v : Nat))) := by
  have hS := Bx.only g w 1 (.int .i64 (v : Nat))
  exact ⟨⟨h.bx.set 1 _, h.rm.keep hS h.d1, h.rw.only hS (fun b hb e => h.d2 (e ▸ hb)), h.d1, h.d2, h.d3, h.m1, h.m2, h.m3, fun b hb => Nat.lt_of_lt_of_le (h.lt b hb) hS.size⟩, hS.mono (fun k _ hk => by subst hk; exact h.m1)⟩

/-- other roles -/
theorem MdAt.reroles (h : MdAt M g bm a n c w s) {rs : List (Int × Int)} (hr : Rm bm w' rs) (hO : Only (fun k => k = bm) w w') : MdAt M g bm a n c w' { s with roles := rs } ∧ Only M w w' :=
  ⟨⟨h.bx.keep hO (fun e => h.d1 e.symm), hr, h.rw.only hO (fun b hb e => h.d3 (e ▸ hb)), h.d1, h.d2, h.d3, h.m1, h.m2, h.m3, fun b hb => Nat.lt_of_lt_of_le (h.lt b hb) hO.size⟩, hO.mono (fun k _ hk => by subst hk; exact h.m2)⟩

theorem MdAt.gives (h : MdAt M g bm a n c w s) {M0 : Nat → Prop} {w0 : World} (v : Value) (hM : ∀ b, M b → M0 b ∨ w0.heap.size ≤ b) (hO : Only M0 w0 w) : MdGives M0 g w0 s v (.returned v) w :=
  ⟨M, rfl, ⟨bm, a, n, c, h⟩, hM, hO⟩

/-- where a user stands in the line; below 0: nowhere -/
def fplace (s : Fl) (id : Int) : Int := if id ∈ s.line then (s.line.idxOf id : Int) else -1

theorem place_hit {l : List Int} {id : Int} {k : Nat} (hk : k < l.length) (h : l.getD k 0 = id) (hb : ∀ j, j < k → l.getD j 0 ≠ id) : id ∈ l ∧ l.idxOf id = k := by
  have e : l[k] = id := by rw [← h, List.getD_eq_getElem?_getD, List.getElem?_eq_getElem hk]; rfl
  have hm : id ∈ l := e ▸ List.getElem_mem hk
  refine ⟨hm, ?_⟩
  have hi := List.idxOf_lt_length_of_mem hm
  have h1 : l[l.idxOf id] = id := List.getElem_idxOf hi
  rcases Nat.lt_trichotomy (l.idxOf id) k with h2 | h2 | h2
  · refine absurd ?_ (hb _ h2)
    rw [List.getD_eq_getElem?_getD, List.getElem?_eq_getElem hi]
    exact h1
  · exact h2
  · have h3 := List.not_of_lt_findIdx (p := (· == id)) (xs := l) (i := k) (by simpa [List.idxOf] using h2)
    simp [e] at h3

theorem place_miss {l : List Int} {id : Int} (hb : ∀ j, j < l.length → l.getD j 0 ≠ id) : id ∉ l := by
  intro hm
  obtain ⟨j, hj, e⟩ := List.getElem_of_mem hm
  refine hb j hj ?_
  rw [List.getD_eq_getElem?_getD, List.getElem?_eq_getElem hj]
  exact e

theorem place_any (h : MdAt M g bm a n c w s) (hn : n ≤ 1000000) (id : Int) :
    Calls Try.prog 43 #[.pointer (some ⟨g, 0, none⟩), .int .i64 id] w fun e w' => e = .returned (.int .i64 (fplace s id)) ∧ w' = w := by
  have hc4 := h.bx.cell 4 (.slice a n c) rfl
  have HV := Lib.hid h.rw.vals
  have hln := h.len
  have HH := Lib.hid h
  clear h
  go_enter Try.func43, Try.ntmps43
  go_wp2
  go_loopw [12] (fun i wr => ∃ k : Nat, k ≤ n ∧ i = .int .i64 (k : Nat) ∧ (∀ j, j < k → s.line.getD j 0 ≠ id) ∧ wr = w) (fun i _ => n - (intOf i).toNat)
  case atStart => exact ⟨0, by omega, rfl, fun j hj => absurd hj (by omega), rfl⟩
  case round =>
    obtain ⟨k, hk, rfl, hb, rfl⟩ := hrel
    have HB := Lib.hid hb
    clear hb
    by_cases hlt : k < n
    · obtain ⟨b, off, rfl, hbB, hc⟩ := ints_at HV.out (by omega)
      have hck := hc k hlt
      clear hc
      by_cases e : s.line.getD k 0 = id
      · obtain ⟨h1, h2⟩ := place_hit (by omega) e HB.out
        have hp : fplace s id = (k : Int) := by unfold fplace; rw [if_pos h1, h2]
        rw [e] at hck
        go_wp2
        go_ret
        exact ⟨by rw [hp]; rfl, rfl⟩
      · have HE := Lib.hid (show s.line.getD k 0 ≠ id from e)
        obtain ⟨x, hx⟩ : ∃ x, s.line.getD k 0 = x := ⟨_, rfl⟩
        rw [hx] at hck e
        clear hx
        go_wp2
        go_roundw
        case rel => exact ⟨k + 1, by omega, by go_num, fun j hj => by
          rcases Nat.lt_or_ge j k with h' | h'
          · exact HB.out j h'
          · obtain rfl : j = k := by omega
            exact HE.out, by first | rfl | trivial⟩
        case measure => simp [intOf]; omega
    · obtain rfl : k = n := by omega
      have hp : fplace s id = -1 := by unfold fplace; rw [if_neg (place_miss (by rw [hln]; exact HB.out))]
      go_wp2
      go_ret
      exact ⟨by rw [hp]; rfl, rfl⟩

/-- the one at a place goes out of the line -/
theorem out_neg (i : Int) (hi : i < 0) (w : World) : Calls Try.prog 42 #[.pointer (some ⟨g, 0, none⟩), .int .i64 i] w fun e w' => e = .returned (.tuple #[]) ∧ w' = w := by
  go_enter Try.func42, Try.ntmps42
  go_wp2
  exact bodyPost_ret (v := .tuple #[]) (by simp [results, Try.results42, go_sem]) rfl ⟨rfl, rfl⟩

/-- .. in the midst of it -/
def OutMid (M : Nat → Prop) (g bm : Nat) (w : World) (s : Fl) (i : Nat) (wx : World) : Prop :=
  ∃ M2 a2 n2 c2, MdAt M2 g bm a2 n2 c2 wx { s with line := s.line.eraseIdx i } ∧ (∀ b, M2 b → M b ∨ w.heap.size ≤ b) ∧ Only M w wx

set_option maxHeartbeats 2000000 in
theorem out_part (b off : Nat) (h : MdAt M g bm (some ⟨b, off, none⟩) n c w s) (hn : n ≤ 1000000) (i : Nat) (hi : i < n) :
    Calls Try.prog 42 #[.pointer (some ⟨g, 0, none⟩), .int .i64 (i : Nat)] w fun e w' => MdGives M g w (outAt s i) (.tuple #[]) e w' := by
  have hc4 := h.bx.cell 4 (.slice (some ⟨b, off, none⟩) n c) rfl
  have hc4' := hc4
  have hf4 := h.bx.free 4
  have hgw : g < w.heap.size := h.bx.room
  have hln := h.len
  have hcap := h.rw.cap
  have HH := Lib.hid h
  clear h
  have hic : i ≤ c := by omega
  have hin1 : i + 1 ≤ n := by omega
  have hwr : IntKind.i64.wrap ((i : Int) + 1) = (i : Int) + 1 := by rw [IntKind.wrap_i64]; omega
  have htn : ((i : Int) + 1).toNat = i + 1 := by omega
  have h01 : (0 : Int) ≤ (i : Int) + 1 := by omega
  have h02 : (i : Int) + 1 ≤ (n : Int) := by omega
  have h03 : (i : Int) ≤ (i : Int) + 1 := by omega
  have HN := Lib.hid (show Rw w.heap.size (w.alloc (.cells #[] 3)).drew (some ⟨w.heap.size, 0, none⟩) 0 0 (ints []) from (Rw.fresh w w.heap.size [] 3 (Nat.le_refl _) (by simp) (by simp) (0, 0) rfl).below (below_drew (Below.refl _ _)))
  have HO1 := Lib.hid (show Only (fun _ => False) w (w.alloc (.cells #[] 3)).drew from ((Only.refl (fun _ => False) w).alloc _).drew)
  have HT := Lib.hid (show Vals (w.alloc (.cells #[] 3)).drew w.heap.size (some ⟨b, off, none⟩) i (ints (s.line.take i)) from (HH.out.rw.vals.take (by omega)).only HO1.out (Nat.le_refl _) (fun _ _ _ h => h))
  obtain ⟨A', hA'⟩ : ∃ A' : Option Addr, (if c = i + 1 then (some ⟨b, off, none⟩ : Option Addr) else some ⟨b, off + (i + 1), none⟩) = A' := ⟨_, rfl⟩
  have HD := Lib.hid (show Vals w w.heap.size A' (n - (i + 1)) (ints (s.line.drop (i + 1))) from by
    by_cases hci : c = i + 1
    · obtain rfl : n = i + 1 := by omega
      rw [Nat.sub_self, List.drop_eq_nil_of_le (by omega)]
      exact Vals.nil _ _ _
    · have := HH.out.rw.vals.drop (k := i + 1) (by omega) HH.out.rw.cap
      unfold cutA at this
      rw [if_neg hci] at this hA'
      rw [← hA']
      simpa [add_none] using this)
  go_enter Try.func42, Try.ntmps42
  go_upto_region 1 with fail
  go_cut [] (fun wx => OutMid M g bm w s i wx)
  case first =>
   refine have key : ∀ (A2 : Option Addr) (c3 : Nat) (A3 : Option Addr) (c4 : Nat) (w3 : World), Hid (OutMid M g bm w s i (w3.setCell ⟨g, 4, none⟩ (.slice A3 (i + (n - (i + 1))) c4))) → (?postKey : Option Addr → Nat → Option Addr → Nat → World → Prop) A2 c3 A3 c4 w3 := ?holdsKey; ?restKey
   case restKey =>
    go_region_law (first
      | ((with_reducible refine step_rw elem_int (o := ⟨some 14, _, _, _, _, _⟩) rfl (.tmp 7) (.tmp 13) rfl w.heap.size rfl HN.out rfl HT.out (by omega) (by simp) ?_)
         intro A2 c3 w2 hm2 hO2 hp2
         have HO2 := Lib.hid (show Only (fun _ => False) w w2 from HO1.out.andThen hO2 (fun k hk hin => by obtain ⟨p, hp, rfl⟩ := hin; injection hp with hp; subst hp; simp at hk))
         have hc4 : w2.cell? ⟨g, 4, none⟩ = some (.slice (some ⟨b, off, none⟩) n c) := (HO2.out.cell (p := ⟨g, 4, none⟩) hgw (fun h => h)).trans hc4
         have HM2 := Lib.hid (show Rw w.heap.size w2 A2 i c3 (ints (s.line.take i)) from by rw [Nat.zero_add] at hm2; exact hm2)
         have hsz2 : w.heap.size ≤ w2.heap.size := HO2.out.size
         have HD2 := Lib.hid (HD.out.only HO2.out (Nat.le_refl _) (fun _ _ _ h => h))
         clear hm2 hO2 hp2)
      | ((with_reducible refine step_rw elem_int (o := ⟨some 22, _, _, _, _, _⟩) rfl (.tmp 14) (.tmp 21) rfl w.heap.size rfl HM2.out rfl HD2.out (by omega) hsz2 ?_)
         intro A3 c4 w3 hm3 hO3 hp3
         have HO3 := Lib.hid (show Only (fun _ => False) w w3 from HO2.out.andThen hO3 (fun k hk hin => by have := (HM2.out.inlt hin).1; omega))
         have hc4 : w3.cell? ⟨g, 4, none⟩ = some (.slice (some ⟨b, off, none⟩) n c) := (HO3.out.cell (p := ⟨g, 4, none⟩) hgw (fun h => h)).trans hc4'
         have hf4 : w3.frozen? ⟨g, 4, none⟩ = false := (HO3.out.frozen (p := ⟨g, 4, none⟩) hgw (fun h => h)).trans hf4
         have HM3 := Lib.hid (show Rw w.heap.size w3 A3 (i + (n - (i + 1))) c4 (ints (s.line.take i ++ s.line.drop (i + 1))) from by rw [ints_app]; exact hm3)
         have HZ := Lib.hid (show OutMid M g bm w s i (w3.setCell ⟨g, 4, none⟩ (.slice A3 (i + (n - (i + 1))) c4)) from by
            obtain ⟨z1, z2, z3⟩ := HH.out.relay (HO3.out.mono (fun _ _ h => h.elim)) (HM3.out.mono (Nat.zero_le _)) (fun b hb => .inr (HM3.out.inlt hb).1)
            exact ⟨_, _, _, _, by rw [List.eraseIdx_eq_take_drop_succ]; exact z1, z2, z3⟩)
         clear hm3 hO3 hp3)
      | fail)
    all_goals exact key A2 c3 A3 c4 w3 HZ
   case holdsKey =>
    intro A2 c3 A3 c4 w3 HZ
    go_wp2
    go_meet
    exact HZ.out
  case rest =>
    clear HN HO1 HT HD hA' hc4 hc4' hf4 HH hwr htn h01 h02 h03
    obtain ⟨M2, a2, n2, c2, hx, hM2, hO2⟩ := hcut
    have hl2 : (s.line.eraseIdx i).length = n2 := hx.len
    have HX := Lib.hid hx
    have HM2 := Lib.hid hM2
    have HO2 := Lib.hid hO2
    have k0 := hx.bx.cell 0 (.int .i64 s.lease) rfl
    have k1 := hx.bx.cell 1 (.int .i64 s.left) rfl
    have k4 := hx.bx.cell 4 (.slice a2 n2 c2) rfl
    have f1 := hx.bx.free 1
    clear hx hM2 hO2
    rcases Nat.eq_zero_or_pos i with rfl | hip
    · obtain ⟨z1, z2⟩ := HX.out.setl 0
      rcases Nat.eq_zero_or_pos n2 with e2 | hp2
      · have e : ({ ({ s with line := s.line.eraseIdx 0 } : Fl) with left := 0 } : Fl) = outAt s 0 := by unfold outAt; rw [if_pos rfl, if_pos (by omega)]
        have HZ := Lib.hid ((e ▸ z1).gives (.tuple #[]) HM2.out (HO2.out.trans' z2 HM2.out))
        clear z1 z2 e
        subst e2
        go_wp2
        exact bodyPost_ret (v := .tuple #[]) (by simp [results, Try.results42, go_sem]) rfl HZ.out
      · obtain ⟨y1, y2⟩ := z1.setl s.lease
        have e : ({ ({ ({ s with line := s.line.eraseIdx 0 } : Fl) with left := 0 } : Fl) with left := s.lease } : Fl) = outAt s 0 := by unfold outAt; rw [if_pos rfl, if_neg (by omega)]
        have HZ := Lib.hid ((e ▸ y1).gives (.tuple #[]) HM2.out (HO2.out.trans' (z2.trans y2) HM2.out))
        clear z1 z2 y1 y2 e
        go_wp2
        exact bodyPost_ret (v := .tuple #[]) (by simp [results, Try.results42, go_sem]) rfl HZ.out
    · have e : ({ s with line := s.line.eraseIdx i } : Fl) = outAt s i := by unfold outAt; rw [if_neg (by omega)]
      have HZ := Lib.hid ((e ▸ HX.out).gives (.tuple #[]) HM2.out HO2.out)
      have hd : decide ((i : Int) = 0) = false := by simp; omega
      clear e
      go_wp2
      exact bodyPost_ret (v := .tuple #[]) (by simp [results, Try.results42, go_sem]) rfl HZ.out

theorem out_at (h : MdAt M g bm a n c w s) (hn : n ≤ 1000000) (i : Nat) (hi : i < n) :
    Calls Try.prog 42 #[.pointer (some ⟨g, 0, none⟩), .int .i64 (i : Nat)] w fun e w' => MdGives M g w (outAt s i) (.tuple #[]) e w' := by
  obtain ⟨b, off, rfl⟩ : ∃ b off, a = some ⟨b, off, none⟩ := by
    have hcap := h.rw.cap
    rcases h.rw.lies with ⟨_, h0⟩ | ⟨b, off, e, _⟩
    · omega
    · exact ⟨b, off, e⟩
  exact out_part b off h hn i hi

/-- a user goes out of the line: 'm.out(m.place(id))' -/
theorem out_any (h : MdAt M g bm a n c w s) (hn : n ≤ 1000000) (id : Int) :
    Calls Try.prog 42 #[.pointer (some ⟨g, 0, none⟩), .int .i64 (fplace s id)] w fun e w' => MdGives M g w (fout s id) (.tuple #[]) e w' := by
  unfold fplace fout
  by_cases hm : id ∈ s.line
  · rw [if_pos hm, if_pos hm]
    exact out_at h hn _ (by rw [← h.len]; exact List.idxOf_lt_length_of_mem hm)
  · rw [if_neg hm, if_neg hm]
    refine (out_neg (-1) (by decide) w).mono ?_
    rintro e w' ⟨rfl, rfl⟩
    exact h.gives _ (fun _ h => .inl h) (Only.refl _ _)

end

end Go.Proofs.Ytanloclkbdameaa
