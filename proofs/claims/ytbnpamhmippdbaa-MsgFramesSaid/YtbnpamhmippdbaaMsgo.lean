/- What the message's Of answers. -/
import Derived.Test.YtbnpamhmippdbaaMsgf
import Derived.Deep.DeepCutAuto
namespace Go.Proofs.Ytbnpamhmippdbaa
open Go.RowKit
open Fr Ms

/-- what Of answers -/
def OfPost (k : Int) (l : Bs) (e : Ending) : Prop :=
  (ofOk k l = true → e = .returned (.tuple #[.agg #[.int .i64 k, .int .i64 (ofA k l), .int .i64 (ofB k l), .string (str (ofT k l))], .bool true])) ∧
  (ofOk k l = false → e = .returned (.tuple #[.agg #[.int .i64 0, .int .i64 0, .int .i64 0, .string ByteArray.empty], .bool false]))

theorem OfPost.no {k : Int} {l : Bs} (h : ofOk k l = false) : OfPost k l (.returned (.tuple #[.agg #[.int .i64 0, .int .i64 0, .int .i64 0, .string ByteArray.empty], .bool false])) :=
  ⟨(fun h2 => by rw [h] at h2; cases h2), fun _ => rfl⟩

theorem OfPost.yes {k : Int} {l : Bs} {R : Nat} (h : ofOk k l = true) (hR : R = 6 * nu k) : OfPost k l (.returned (.tuple #[.agg #[.int .i64 k, .int .i64 (ofA k l), .int .i64 (ofB k l), .string (str (l.drop R))], .bool true])) := by
  subst hR
  exact ⟨fun _ => rfl, (fun h2 => by rw [h] at h2; cases h2)⟩

theorem three_bx (w : World) (v1 v2 v3 : Array Value) (t1 t2 t3 : TypeId) :
    Bx w.heap.size (((w.alloc (.cells v1 t1)).alloc (.cells v2 t2)).alloc (.cells v3 t3)) v1 ∧ Bx (w.heap.size + 1) (((w.alloc (.cells v1 t1)).alloc (.cells v2 t2)).alloc (.cells v3 t3)) v2 ∧
      Bx (w.heap.size + 1 + 1) (((w.alloc (.cells v1 t1)).alloc (.cells v2 t2)).alloc (.cells v3 t3)) v3 ∧ Below w.heap.size w (((w.alloc (.cells v1 t1)).alloc (.cells v2 t2)).alloc (.cells v3 t3)) := by
  have s1 : (w.alloc (.cells v1 t1)).heap.size = w.heap.size + 1 := by simp
  have s2 : ((w.alloc (.cells v1 t1)).alloc (.cells v2 t2)).heap.size = w.heap.size + 2 := by simp
  have b1 : Below (w.heap.size + 1) (w.alloc (.cells v1 t1)) ((w.alloc (.cells v1 t1)).alloc (.cells v2 t2)) := (Below.refl _ _).alloc (Nat.le_of_eq s1.symm) _
  have b2 : Below (w.heap.size + 2) ((w.alloc (.cells v1 t1)).alloc (.cells v2 t2)) (((w.alloc (.cells v1 t1)).alloc (.cells v2 t2)).alloc (.cells v3 t3)) := (Below.refl _ _).alloc (Nat.le_of_eq s2.symm) _
  exact ⟨((Bx.new w _ rfl v1 t1).go b1 (Nat.le_refl _)).go b2 (by omega), (Bx.new _ _ s1 v2 t2).go b2 (by omega), Bx.new _ _ s2 v3 t3,
    Below.trans (Below.trans ((Below.refl _ _).alloc (Nat.le_refl _) _) (b1.mono (by omega))) (b2.mono (by omega))⟩

theorem ofOk_kind {k : Int} {l : Bs} (h : isK k = false) : ofOk k l = false := by
  unfold ofOk rt
  rw [h]
  simp

theorem ofOk_short {k : Int} {l : Bs} (h : l.length < 6 * nu k) : ofOk k l = false := by
  unfold ofOk
  rw [show decide (6 * nu k ≤ l.length) = false by simpa using h]
  rfl

theorem ofOk_rt {k : Int} {l : Bs} (h : 6 * nu k ≤ l.length) : ofOk k l = rt k (ofA k l) (ofB k l) (ofT k l).length := by
  unfold ofOk
  simp [h]

def Z4 : Array Value := #[.int .i64 0, .int .i64 0, .int .i64 0, .string ⟨#[]⟩]

/-- four cells written anew -/
def set4 (w : World) (g : Nat) (v0 v1 v2 v3 : Value) : World := (((w.setCell ⟨g, 0, none⟩ v0).setCell ⟨g, 1, none⟩ v1).setCell ⟨g, 2, none⟩ v2).setCell ⟨g, 3, none⟩ v3

theorem Bx.set4 {g : Nat} {w : World} {u0 u1 u2 u3 : Value} (h : Bx g w #[u0, u1, u2, u3]) (v0 v1 v2 v3 : Value) : Bx g (set4 w g v0 v1 v2 v3) #[v0, v1, v2, v3] :=
  (((h.set 0 v0).set 1 v1).set 2 v2).set 3 v3

theorem below_set4 {B g : Nat} {a w : World} (h : Below B a w) (hg : B ≤ g) (v0 v1 v2 v3 : Value) : Below B a (set4 w g v0 v1 v2 v3) :=
  (((h.setCell (p := ⟨g, 0, none⟩) hg v0).setCell (p := ⟨g, 1, none⟩) hg v1).setCell (p := ⟨g, 2, none⟩) hg v2).setCell (p := ⟨g, 3, none⟩) hg v3

theorem Bx.drewN {g : Nat} {w : World} {vs : Array Value} (h : Bx g w vs) (n : Nat) : Bx g (w.drewN n) vs := by
  obtain ⟨t, h⟩ := h.head
  exact ⟨t, h⟩

theorem Bx.other {g : Nat} {w : World} {vs : Array Value} (h : Bx g w vs) {p : Addr} (hp : ¬ p.block = g) (v : Value) : Bx g (w.setCell p v) vs := by
  obtain ⟨t, h⟩ := h.head
  exact ⟨t, by rw [Below.heap_setCell _ _ _ _ (fun e => hp e.symm)]; exact h⟩

theorem bytes_set {w : World} {B n : Nat} {a : Option Addr} {l : Bs} (h : Bytes w B a n l) {p : Addr} (hp : B ≤ p.block) (v : Value) : Bytes (w.setCell p v) B a n l :=
  h.below ((Below.refl _ _).setCell hp v)

/-- what Of has laid when A and B are read -/
structure Mid3 (k : Int) (l : Bs) (a : Option Addr) (n cap B g gl : Nat) (w w' : World) (A C : Int) (s : ByteArray) : Prop where
  fr : Bx g w' #[.int .u8 k, .slice a n cap]
  res : Bx (g + 1) w' #[.int .i64 0, .int .i64 0, .int .i64 0, .string ⟨#[]⟩]
  msg : Bx (g + 1 + 1) w' #[.int .i64 k, .int .i64 A, .int .i64 C, .string s]
  lay : Bx gl w' #[.int .i64 (nu k), .int .i64 (tx k)]
  bytes : Bytes w' B a n l
  below : Below g w w'

theorem Mid3.go {k : Int} {l : Bs} {a : Option Addr} {n cap B g gl : Nat} {w w1 w2 : World} {A C : Int} {s : ByteArray} (h : Mid3 k l a n cap B g gl w w1 A C s) (hb : Below w1.heap.size w1 w2) (hB : B ≤ g) (hg : g + 1 + 1 < gl) : Mid3 k l a n cap B g gl w w2 A C s :=
  have hz := h.lay.room
  ⟨h.fr.go hb (by omega), h.res.go hb (by omega), h.msg.go hb (by omega), h.lay.go hb (by omega), h.bytes.below (hb.mono (by omega)), Below.trans h.below (hb.mono (by omega))⟩

theorem Mid3.drewN {k : Int} {l : Bs} {a : Option Addr} {n cap B g gl : Nat} {w w1 : World} {A C : Int} {s : ByteArray} (h : Mid3 k l a n cap B g gl w w1 A C s) (m : Nat) : Mid3 k l a n cap B g gl w (w1.drewN m) A C s :=
  ⟨h.fr.drewN m, h.res.drewN m, h.msg.drewN m, h.lay.drewN m, h.bytes.drewN m, below_drewN h.below m⟩

theorem Mid3.setA {k : Int} {l : Bs} {a : Option Addr} {n cap B g gl : Nat} {w w1 : World} {A C : Int} {s : ByteArray} (h : Mid3 k l a n cap B g gl w w1 A C s) (hB : B ≤ g) (hg : g + 1 + 1 < gl) (x : Int) :
    Mid3 k l a n cap B g gl w (w1.setCell ⟨g + 1 + 1, 1, none⟩ (.int .i64 x)) x C s :=
  ⟨h.fr.other (by simp; omega) _, h.res.other (by simp) _, h.msg.set 1 (.int .i64 x), h.lay.other (by simp; omega) _, bytes_set h.bytes (by simp; omega) _, h.below.setCell (by simp; omega) _⟩

theorem Mid3.setB {k : Int} {l : Bs} {a : Option Addr} {n cap B g gl : Nat} {w w1 : World} {A C : Int} {s : ByteArray} (h : Mid3 k l a n cap B g gl w w1 A C s) (hB : B ≤ g) (hg : g + 1 + 1 < gl) (x : Int) :
    Mid3 k l a n cap B g gl w (w1.setCell ⟨g + 1 + 1, 2, none⟩ (.int .i64 x)) A x s :=
  ⟨h.fr.other (by simp; omega) _, h.res.other (by simp) _, h.msg.set 2 (.int .i64 x), h.lay.other (by simp; omega) _, bytes_set h.bytes (by simp; omega) _, h.below.setCell (by simp; omega) _⟩

theorem Mid3.setT {k : Int} {l : Bs} {a : Option Addr} {n cap B g gl : Nat} {w w1 : World} {A C : Int} {s : ByteArray} (h : Mid3 k l a n cap B g gl w w1 A C s) (hB : B ≤ g) (hg : g + 1 + 1 < gl) (x : ByteArray) :
    Mid3 k l a n cap B g gl w (w1.setCell ⟨g + 1 + 1, 3, none⟩ (.string x)) A C x :=
  ⟨h.fr.other (by simp; omega) _, h.res.other (by simp) _, h.msg.set 3 (.string x), h.lay.other (by simp; omega) _, bytes_set h.bytes (by simp; omega) _, h.below.setCell (by simp; omega) _⟩

theorem mof_any (K : BitVec 8) (a : Option Addr) (n cap B : Nat) (l : Bs) (w : World) (hl : Bytes w B a n l) (hB : B ≤ w.heap.size) (hcap : n ≤ cap) (hn : n ≤ 1000000000) :
    Calls Try.prog 12 #[.agg #[.int .u8 K.toNat, .slice a n cap]] w fun e w' => OfPost K.toNat l e ∧ Below w.heap.size w w' := by
  have HL := Lib.hid hl
  have h8 := K.isLt
  clear hl
  generalize hk : K.toNat = k at *
  clear hk
  have HPK := Lib.hid (ofOk_kind (k := k) (l := l))
  have HPS := Lib.hid (ofOk_short (k := k) (l := l))
  have HPR := Lib.hid (ofOk_rt (k := k) (l := l))
  go_enter Try.func12, Try.ntmps12
  go_wp2_with fail
  obtain ⟨hx, hy, hm, hb⟩ := three_bx w #[.int .u8 k, .slice a n cap] #[.int .i64 0, .int .i64 0, .int .i64 0, .string ⟨#[]⟩] #[.int .i64 k, .int .i64 0, .int .i64 0, .string ⟨#[]⟩] 31 24 24
  generalize ((w.alloc (.cells #[.int .u8 k, .slice a n cap] 31)).alloc (.cells #[.int .i64 0, .int .i64 0, .int .i64 0, .string ⟨#[]⟩] 24)).alloc (.cells #[.int .i64 k, .int .i64 0, .int .i64 0, .string ⟨#[]⟩] 24) = W at *
  generalize hg : w.heap.size = g at *
  have HG := Lib.hid hg
  have hz0 : g + 3 ≤ W.heap.size := hm.room
  clear hg
  refine (layout_any k _).mono ?_
  rintro e w2 ⟨rfl, hb2⟩
  have hz2 : g + 3 ≤ w2.heap.size := Nat.le_trans hz0 hb2.size
  have hb3 : Below w2.heap.size w2 (w2.alloc (.cells #[.int .i64 (nu k), .int .i64 (tx k)] 46)) := (Below.refl _ _).alloc (Nat.le_refl _) _
  have hb23 := Below.trans hb2 (hb3.mono hb2.size)
  have hl := Bx.new w2 _ rfl #[.int .i64 (nu k), .int .i64 (tx k)] 46
  have HX := Lib.hid (hx.go hb23 (by omega))
  have HY := Lib.hid (hy.go hb23 (by omega))
  have HM := Lib.hid (hm.go hb23 (by omega))
  have HBW := Lib.hid (Below.trans hb (hb23.mono (by omega)))
  have HLW := Lib.hid hl
  clear hx hy hm hb hb2 hb3 hb23 hl hz0
  go_wp2_with fail
  generalize w2.alloc (.cells #[.int .i64 (nu k), .int .i64 (tx k)] 46) = w3 at *
  generalize w2.heap.size = gl at *
  have hz3 : gl + 1 ≤ w3.heap.size := HLW.out.room
  cases hik : isK k
  · have HIK := Lib.hid hik
    clear hik
    go_quiet (fail)
    have HY' := Lib.hid (HY.out.drewN nq)
    have HB' := Lib.hid (below_drewN HBW.out nq)
    clear HY HBW HX HM HLW
    generalize w3.drewN nq = W5 at *
    have z0 := HY'.out.free 0
    have z1 := HY'.out.free 1
    have z2 := HY'.out.free 2
    have z3 := HY'.out.free 3
    have y0 : W5.cell? ⟨g + 1, 0, none⟩ = some (.int .i64 0) := HY'.out.cell 0 _ rfl
    have y1 : W5.cell? ⟨g + 1, 1, none⟩ = some (.int .i64 0) := HY'.out.cell 1 _ rfl
    have y2 : W5.cell? ⟨g + 1, 2, none⟩ = some (.int .i64 0) := HY'.out.cell 2 _ rfl
    have y3 : W5.cell? ⟨g + 1, 3, none⟩ = some (.string ⟨#[]⟩) := HY'.out.cell 3 _ rfl
    go_wp2
    have hy6 := HY'.out.set4 (.int .i64 0) (.int .i64 0) (.int .i64 0) (.string ⟨#[]⟩)
    have hb6 := below_set4 HB'.out (show g ≤ g + 1 by omega) (.int .i64 0) (.int .i64 0) (.int .i64 0) (.string ⟨#[]⟩)
    unfold set4 at hy6 hb6
    generalize (((W5.setCell ⟨g + 1, 0, none⟩ (.int .i64 0)).setCell ⟨g + 1, 1, none⟩ (.int .i64 0)).setCell ⟨g + 1, 2, none⟩ (.int .i64 0)).setCell ⟨g + 1, 3, none⟩ (.string ⟨#[]⟩) = W6 at *
    have e0 : W6.cell? ⟨g + 1, 0, none⟩ = some (.int .i64 0) := hy6.cell 0 _ rfl
    have e1 : W6.cell? ⟨g + 1, 1, none⟩ = some (.int .i64 0) := hy6.cell 1 _ rfl
    have e2 : W6.cell? ⟨g + 1, 2, none⟩ = some (.int .i64 0) := hy6.cell 2 _ rfl
    have e3 : W6.cell? ⟨g + 1, 3, none⟩ = some (.string ⟨#[]⟩) := hy6.cell 3 _ rfl
    have hg := HG.out
    subst hg
    refine bodyPost_ret (v := .tuple #[.agg #[.int .i64 0, .int .i64 0, .int .i64 0, .string ByteArray.empty], .bool false]) (by simp [results, Try.results12, go_sem, e0, e1, e2, e3]; rfl) rfl ⟨OfPost.no (HPK.out HIK.out), hb6⟩
  · have HIK := Lib.hid hik
    clear hik HPK
    have hn2 : nu k ≤ 2 := nu_le k
    obtain ⟨R, hR⟩ : ∃ R : Nat, R = 6 * nu k := ⟨_, rfl⟩
    have HRR := Lib.hid hR
    have hR12 : R ≤ 12 := by omega
    clear hR
    have C0 : Hid (w3.cell? ⟨gl, 0, none⟩ = some (.int .i64 (nu k))) := Lib.hid (HLW.out.cell 0 _ rfl)
    have C1 : Hid (w3.cell? ⟨gl, 1, none⟩ = some (.int .i64 (tx k))) := Lib.hid (HLW.out.cell 1 _ rfl)
    have C2 : Hid (w3.cell? ⟨g, 1, none⟩ = some (.slice a n cap)) := Lib.hid (HX.out.cell 1 _ rfl)
    by_cases hshort : n < R
    · go_region_held3 (fun w' => w'.cell? ⟨gl, 0, none⟩ = some (.int .i64 (nu k)) ∧ w'.cell? ⟨gl, 1, none⟩ = some (.int .i64 (tx k)) ∧ w'.cell? ⟨g, 1, none⟩ = some (.slice a n cap))
        (first | exact ⟨q50, q51, q52⟩ | exact ⟨C0.out, C1.out, C2.out⟩)
        (first
          | (go_at_call 17; refine (lhead_any (nu k) (tx k) R _ hn2 HRR.out).mono ?_; rintro e w5 ⟨rfl, hb5⟩; have hb5 : Below w3.heap.size w3.drew w5 := hb5; have HB5 := Lib.hid (below_back hb5); have q50 := (hb5.cell (p := ⟨gl, 0, none⟩) (by simp; omega)).trans C0.out; have q51 := (hb5.cell (p := ⟨gl, 1, none⟩) (by simp; omega)).trans C1.out; have q52 := (hb5.cell (p := ⟨g, 1, none⟩) (by simp; omega)).trans C2.out; clear hb5))
      have HY' := Lib.hid (HY.out.go HB5.out (by omega))
      have HB' := Lib.hid (Below.trans HBW.out (HB5.out.mono (by omega)))
      rename_i hh
      clear hh q50 q51 q52 C0 C1 C2 HY HBW HX HM HLW
      generalize w5 = W5 at *
      have z0 := HY'.out.free 0
      have z1 := HY'.out.free 1
      have z2 := HY'.out.free 2
      have z3 := HY'.out.free 3
      have y0 : W5.cell? ⟨g + 1, 0, none⟩ = some (.int .i64 0) := HY'.out.cell 0 _ rfl
      have y1 : W5.cell? ⟨g + 1, 1, none⟩ = some (.int .i64 0) := HY'.out.cell 1 _ rfl
      have y2 : W5.cell? ⟨g + 1, 2, none⟩ = some (.int .i64 0) := HY'.out.cell 2 _ rfl
      have y3 : W5.cell? ⟨g + 1, 3, none⟩ = some (.string ⟨#[]⟩) := HY'.out.cell 3 _ rfl
      go_wp2
      have hy6 := HY'.out.set4 (.int .i64 0) (.int .i64 0) (.int .i64 0) (.string ⟨#[]⟩)
      have hb6 := below_set4 HB'.out (show g ≤ g + 1 by omega) (.int .i64 0) (.int .i64 0) (.int .i64 0) (.string ⟨#[]⟩)
      unfold set4 at hy6 hb6
      generalize (((W5.setCell ⟨g + 1, 0, none⟩ (.int .i64 0)).setCell ⟨g + 1, 1, none⟩ (.int .i64 0)).setCell ⟨g + 1, 2, none⟩ (.int .i64 0)).setCell ⟨g + 1, 3, none⟩ (.string ⟨#[]⟩) = W6 at *
      have e0 : W6.cell? ⟨g + 1, 0, none⟩ = some (.int .i64 0) := hy6.cell 0 _ rfl
      have e1 : W6.cell? ⟨g + 1, 1, none⟩ = some (.int .i64 0) := hy6.cell 1 _ rfl
      have e2 : W6.cell? ⟨g + 1, 2, none⟩ = some (.int .i64 0) := hy6.cell 2 _ rfl
      have e3 : W6.cell? ⟨g + 1, 3, none⟩ = some (.string ⟨#[]⟩) := hy6.cell 3 _ rfl
      have hg := HG.out
      subst hg
      refine bodyPost_ret (v := .tuple #[.agg #[.int .i64 0, .int .i64 0, .int .i64 0, .string ByteArray.empty], .bool false]) (by simp [results, Try.results12, go_sem, e0, e1, e2, e3]; rfl) rfl ⟨OfPost.no (HPS.out (by rw [HL.out.1, ← HRR.out]; exact hshort)), hb6⟩
    · go_region_held3 (fun w' => w'.cell? ⟨gl, 0, none⟩ = some (.int .i64 (nu k)) ∧ w'.cell? ⟨gl, 1, none⟩ = some (.int .i64 (tx k)) ∧ w'.cell? ⟨g, 1, none⟩ = some (.slice a n cap))
        (first | exact ⟨q50, q51, q52⟩ | exact ⟨C0.out, C1.out, C2.out⟩)
        (first
          | (go_at_call 17; refine (lhead_any (nu k) (tx k) R _ hn2 HRR.out).mono ?_; rintro e w5 ⟨rfl, hb5⟩; have hb5 : Below w3.heap.size w3.drew w5 := hb5; have HB5 := Lib.hid (below_back hb5); have q50 := (hb5.cell (p := ⟨gl, 0, none⟩) (by simp; omega)).trans C0.out; have q51 := (hb5.cell (p := ⟨gl, 1, none⟩) (by simp; omega)).trans C1.out; have q52 := (hb5.cell (p := ⟨g, 1, none⟩) (by simp; omega)).trans C2.out; clear hb5))
      have hm3 : Mid3 k l a n cap B g gl w w3 0 0 ⟨#[]⟩ := ⟨HX.out, HY.out, HM.out, HLW.out, HL.out.below (HBW.out.mono hB), HBW.out⟩
      have HM5 := Lib.hid (hm3.go HB5.out hB (by omega))
      rename_i hh
      clear hh q50 q51 q52 C0 C1 C2 HY HBW HX HM HLW hm3 HB5 hz3 HL
      have l0 : w5.cell? ⟨gl, 0, none⟩ = some (.int .i64 (nu k)) := HM5.out.lay.cell 0 _ rfl
      go_upto_if 30 with fail
      go_cut [] (fun wx => Mid3 k l a n cap B g gl w wx (ofA k l) 0 ⟨#[]⟩)
      case first =>
        rcases Nat.eq_zero_or_pos (nu k) with h0 | h0
        · have hA : ofA k l = 0 := by unfold ofA; rw [if_neg (by omega)]
          have HA := Lib.hid hA
          have HZ := Lib.hid h0
          have q : decide ((nu k : Int) ≥ 1) = false := by simp; omega
          clear hA
          go_wp2
          go_meet
          rw [HA.out]
          exact HM5.out
        · have hA : (ofA k l : Int) = num6 l := by unfold ofA; rw [if_pos (by omega)]
          have HA := Lib.hid hA
          have q : decide ((nu k : Int) ≥ 1) = true := by simp; omega
          have hR6 : 6 ≤ n := by have := HRR.out; omega
          have f1 : w5.cell? ⟨g, 1, none⟩ = some (.slice a n cap) := HM5.out.fr.cell 1 _ rfl
          have z1 := HM5.out.msg.free 1
          have m1 : w5.cell? ⟨g + 1 + 1, 1, none⟩ = some (.int .i64 0) := HM5.out.msg.cell 1 _ rfl
          clear hA
          go_wp2_with fail
          refine (num6_any a n cap B l _ HM5.out.bytes hR6 hcap).mono ?_
          rintro e w6 ⟨rfl, rfl⟩
          go_wp2
          go_meet
          rw [HA.out]
          exact HM5.out.setA hB (by omega) _
      case rest =>
        have HM6 := Lib.hid hcut
        clear hcut HM5 l0
        have l0 : wc.cell? ⟨gl, 0, none⟩ = some (.int .i64 (nu k)) := HM6.out.lay.cell 0 _ rfl
        go_upto_if 37 with fail
        go_cut [] (fun wx => Mid3 k l a n cap B g gl w wx (ofA k l) (ofB k l) ⟨#[]⟩)
        case first =>
          by_cases h0 : nu k < 2
          · have hA : (ofB k l : Int) = 0 := by unfold ofB; rw [if_neg (by omega)]; rfl
            have HA := Lib.hid hA
            have q : decide ((nu k : Int) ≥ 2) = false := by simp; omega
            clear hA
            go_wp2
            go_meet
            rw [HA.out]
            exact HM6.out
          · have hA : (ofB k l : Int) = num6 (l.drop 6) := by unfold ofB; rw [if_pos (by omega)]
            have HA := Lib.hid hA
            have q : decide ((nu k : Int) ≥ 2) = true := by simp; omega
            have hR6 : 12 ≤ n := by have := HRR.out; omega
            have f1 : wc.cell? ⟨g, 1, none⟩ = some (.slice a n cap) := HM6.out.fr.cell 1 _ rfl
            have z1 := HM6.out.msg.free 2
            have m1 : wc.cell? ⟨g + 1 + 1, 2, none⟩ = some (.int .i64 0) := HM6.out.msg.cell 2 _ rfl
            have hc6 : ¬ cap = 6 := by omega
            obtain ⟨b, off, rfl, hbB, _⟩ := HM6.out.bytes.2 (by omega)
            have HC := Lib.hid (HM6.out.bytes.cut2 (cap := cap) (j := 6) (by omega) hcap hc6)
            clear hA
            go_wp2_with fail
            refine (num6_any _ (n - 6) (cap - 6) B (l.drop 6) _ HC.out (by omega) (by omega)).mono ?_
            rintro e w6 ⟨rfl, rfl⟩
            go_wp2
            go_meet
            rw [HA.out]
            exact HM6.out.setB hB (by omega) _
        case rest =>
          have HM7 := Lib.hid hcut
          clear hcut HM6 l0
          go_wp2_with fail
          have hRn : R ≤ n := by omega
          have hRn' : (R : Int) ≤ (n : Int) := by omega
          have hzc : gl + 1 ≤ wc.heap.size := HM7.out.lay.room
          have HMD : Hid (Mid3 k l a n cap B g gl w wc.drew (ofA k l) (ofB k l) ⟨#[]⟩) := Lib.hid ⟨HM7.out.fr.drewN 1, HM7.out.res.drewN 1, HM7.out.msg.drewN 1, HM7.out.lay.drewN 1, HM7.out.bytes.drewN 1, below_drewN HM7.out.below 1⟩
          go_cut [] (fun wx => Mid3 k l a n cap B g gl w wx (ofA k l) (ofB k l) (str (l.drop R)))
          case first =>
            by_cases hcR : cap = R
            · subst hcR
              have hcu : ∀ W' A C s, Mid3 k l a n cap B g gl w W' A C s → Bytes W' B a 0 (l.drop cap) := by
                intro W' A C s hm
                have := hm.bytes.cut (k := cap) hRn hcap
                unfold cutA at this
                rwa [if_pos rfl, show n - cap = 0 by omega] at this
              have HCU := Lib.hid hcu
              clear hcu
              have HCV := Lib.hid (conv_str (cap := 0) (HCU.out _ _ _ _ HMD.out))
              go_region_held3 (fun w' => w'.cell? ⟨gl, 0, none⟩ = some (.int .i64 (nu k)) ∧ w'.cell? ⟨gl, 1, none⟩ = some (.int .i64 (tx k)) ∧ w'.cell? ⟨g, 1, none⟩ = some (.slice a n cap) ∧ (convert 28 9 (.slice a 0 0)).run Try.prog w' = .ok (.string (str (l.drop cap))) w')
                (first | exact ⟨HM8.out.lay.cell 0 _ rfl, HM8.out.lay.cell 1 _ rfl, HM8.out.fr.cell 1 _ rfl, HC8.out⟩ | exact ⟨HM6.out.lay.cell 0 _ rfl, HM6.out.lay.cell 1 _ rfl, HM6.out.fr.cell 1 _ rfl, HC6.out⟩ | exact ⟨HMD.out.lay.cell 0 _ rfl, HMD.out.lay.cell 1 _ rfl, HMD.out.fr.cell 1 _ rfl, HCV.out⟩)
                (first
                  | (go_at_call 17; refine (lhead_any (nu k) (tx k) cap _ hn2 HRR.out).mono ?_; rintro e w6 ⟨rfl, hb6⟩; have HM6 := Lib.hid (HMD.out.go hb6 hB (by omega)); have HC6 := Lib.hid (conv_str (cap := 0) (HCU.out _ _ _ _ HM6.out)); have c63 : w6.cell? ⟨g + 1 + 1, 3, none⟩ = some (.string ⟨#[]⟩) := HM6.out.msg.cell 3 _ rfl; have f63 := HM6.out.msg.free 3; have HM8 := Lib.hid (HM6.out.setT hB (by omega) (str (l.drop cap))); have HC8 := Lib.hid (conv_str (cap := 0) (HCU.out _ _ _ _ HM8.out)); clear hb6))
              go_wp2
              go_meet
              exact HM8.out
            · have hcu : ∀ W' A C s, Mid3 k l a n cap B g gl w W' A C s → Bytes W' B (a.map fun x => x.add R) (n - R) (l.drop R) := by
                intro W' A C s hm
                have := hm.bytes.cut (k := R) hRn hcap
                unfold cutA at this
                rwa [if_neg hcR] at this
              have HCU := Lib.hid hcu
              clear hcu
              have HCV := Lib.hid (conv_str (cap := cap - R) (HCU.out _ _ _ _ HMD.out))
              go_region_held3 (fun w' => w'.cell? ⟨gl, 0, none⟩ = some (.int .i64 (nu k)) ∧ w'.cell? ⟨gl, 1, none⟩ = some (.int .i64 (tx k)) ∧ w'.cell? ⟨g, 1, none⟩ = some (.slice a n cap) ∧ (convert 28 9 (.slice (a.map fun x => x.add R) (n - R) (cap - R))).run Try.prog w' = .ok (.string (str (l.drop R))) w')
                (first | exact ⟨HM8.out.lay.cell 0 _ rfl, HM8.out.lay.cell 1 _ rfl, HM8.out.fr.cell 1 _ rfl, HC8.out⟩ | exact ⟨HM6.out.lay.cell 0 _ rfl, HM6.out.lay.cell 1 _ rfl, HM6.out.fr.cell 1 _ rfl, HC6.out⟩ | exact ⟨HMD.out.lay.cell 0 _ rfl, HMD.out.lay.cell 1 _ rfl, HMD.out.fr.cell 1 _ rfl, HCV.out⟩)
                (first
                  | (go_at_call 17; refine (lhead_any (nu k) (tx k) R _ hn2 HRR.out).mono ?_; rintro e w6 ⟨rfl, hb6⟩; have HM6 := Lib.hid (HMD.out.go hb6 hB (by omega)); have HC6 := Lib.hid (conv_str (cap := cap - R) (HCU.out _ _ _ _ HM6.out)); have c63 : w6.cell? ⟨g + 1 + 1, 3, none⟩ = some (.string ⟨#[]⟩) := HM6.out.msg.cell 3 _ rfl; have f63 := HM6.out.msg.free 3; have HM8 := Lib.hid (HM6.out.setT hB (by omega) (str (l.drop R))); have HC8 := Lib.hid (conv_str (cap := cap - R) (HCU.out _ _ _ _ HM8.out)); clear hb6))
              go_wp2
              go_meet
              exact HM8.out
          case rest =>
            have HM8 := Lib.hid hcut
            clear hcut HM7
            have m0 : wc.cell? ⟨g + 1 + 1, 0, none⟩ = some (.int .i64 k) := HM8.out.msg.cell 0 _ rfl
            have m1 : wc.cell? ⟨g + 1 + 1, 1, none⟩ = some (.int .i64 (ofA k l)) := HM8.out.msg.cell 1 _ rfl
            have m2 : wc.cell? ⟨g + 1 + 1, 2, none⟩ = some (.int .i64 (ofB k l)) := HM8.out.msg.cell 2 _ rfl
            have m3 : wc.cell? ⟨g + 1 + 1, 3, none⟩ = some (.string (str (l.drop R))) := HM8.out.msg.cell 3 _ rfl
            have hlen : l.length = n := HM8.out.bytes.1
            have hok := HPR.out (by rw [hlen, ← HRR.out]; omega)
            unfold ofT at hok
            rw [← HRR.out] at hok
            have HOK := Lib.hid hok
            clear hok hlen
            go_wp2_with fail
            refine (mright_any k (ofA k l) (ofB k l) (str (l.drop R)) _).mono ?_
            rintro e w9 ⟨rfl, hb9⟩
            rw [str_size]
            have HM9 := Lib.hid (HM8.out.go hb9 hB (by omega))
            clear hb9 HM8 m0 m1 m2 m3
            have z0 := HM9.out.res.free 0
            have z1 := HM9.out.res.free 1
            have z2 := HM9.out.res.free 2
            have z3 := HM9.out.res.free 3
            have y0 : w9.cell? ⟨g + 1, 0, none⟩ = some (.int .i64 0) := HM9.out.res.cell 0 _ rfl
            have y1 : w9.cell? ⟨g + 1, 1, none⟩ = some (.int .i64 0) := HM9.out.res.cell 1 _ rfl
            have y2 : w9.cell? ⟨g + 1, 2, none⟩ = some (.int .i64 0) := HM9.out.res.cell 2 _ rfl
            have y3 : w9.cell? ⟨g + 1, 3, none⟩ = some (.string ⟨#[]⟩) := HM9.out.res.cell 3 _ rfl
            have m0 : w9.cell? ⟨g + 1 + 1, 0, none⟩ = some (.int .i64 k) := HM9.out.msg.cell 0 _ rfl
            have m1 : w9.cell? ⟨g + 1 + 1, 1, none⟩ = some (.int .i64 (ofA k l)) := HM9.out.msg.cell 1 _ rfl
            have m2 : w9.cell? ⟨g + 1 + 1, 2, none⟩ = some (.int .i64 (ofB k l)) := HM9.out.msg.cell 2 _ rfl
            have m3 : w9.cell? ⟨g + 1 + 1, 3, none⟩ = some (.string (str (l.drop R))) := HM9.out.msg.cell 3 _ rfl
            cases hrt : rt k (ofA k l) (ofB k l) (l.drop R).length
            · have HNO := Lib.hid (HOK.out.trans hrt)
              clear hrt
              go_wp2
              have hy6 := HM9.out.res.set4 (.int .i64 0) (.int .i64 0) (.int .i64 0) (.string ⟨#[]⟩)
              have hb6 := below_set4 HM9.out.below (show g ≤ g + 1 by omega) (.int .i64 0) (.int .i64 0) (.int .i64 0) (.string ⟨#[]⟩)
              unfold set4 at hy6 hb6
              generalize (((w9.setCell ⟨g + 1, 0, none⟩ (.int .i64 0)).setCell ⟨g + 1, 1, none⟩ (.int .i64 0)).setCell ⟨g + 1, 2, none⟩ (.int .i64 0)).setCell ⟨g + 1, 3, none⟩ (.string ⟨#[]⟩) = W6 at *
              have e0 : W6.cell? ⟨g + 1, 0, none⟩ = some (.int .i64 0) := hy6.cell 0 _ rfl
              have e1 : W6.cell? ⟨g + 1, 1, none⟩ = some (.int .i64 0) := hy6.cell 1 _ rfl
              have e2 : W6.cell? ⟨g + 1, 2, none⟩ = some (.int .i64 0) := hy6.cell 2 _ rfl
              have e3 : W6.cell? ⟨g + 1, 3, none⟩ = some (.string ⟨#[]⟩) := hy6.cell 3 _ rfl
              have hg := HG.out
              subst hg
              refine bodyPost_ret (v := .tuple #[.agg #[.int .i64 0, .int .i64 0, .int .i64 0, .string ByteArray.empty], .bool false]) (by simp [results, Try.results12, go_sem, e0, e1, e2, e3]; rfl) rfl ⟨OfPost.no HNO.out, hb6⟩
            · have HYES := Lib.hid (HOK.out.trans hrt)
              clear hrt
              go_wp2
              have hy6 := HM9.out.res.set4 (.int .i64 k) (.int .i64 (ofA k l)) (.int .i64 (ofB k l)) (.string (str (l.drop R)))
              have hb6 := below_set4 HM9.out.below (show g ≤ g + 1 by omega) (.int .i64 k) (.int .i64 (ofA k l)) (.int .i64 (ofB k l)) (.string (str (l.drop R)))
              unfold set4 at hy6 hb6
              generalize (((w9.setCell ⟨g + 1, 0, none⟩ (.int .i64 k)).setCell ⟨g + 1, 1, none⟩ (.int .i64 (ofA k l))).setCell ⟨g + 1, 2, none⟩ (.int .i64 (ofB k l))).setCell ⟨g + 1, 3, none⟩ (.string (str (l.drop R))) = W6 at *
              have e0 : W6.cell? ⟨g + 1, 0, none⟩ = some (.int .i64 k) := hy6.cell 0 _ rfl
              have e1 : W6.cell? ⟨g + 1, 1, none⟩ = some (.int .i64 (ofA k l)) := hy6.cell 1 _ rfl
              have e2 : W6.cell? ⟨g + 1, 2, none⟩ = some (.int .i64 (ofB k l)) := hy6.cell 2 _ rfl
              have e3 : W6.cell? ⟨g + 1, 3, none⟩ = some (.string (str (l.drop R))) := hy6.cell 3 _ rfl
              have hg := HG.out
              subst hg
              refine bodyPost_ret (v := .tuple #[.agg #[.int .i64 k, .int .i64 (ofA k l), .int .i64 (ofB k l), .string (str (l.drop R))], .bool true]) (by simp [results, Try.results12, go_sem, e0, e1, e2, e3]) rfl ⟨OfPost.yes HYES.out HRR.out, hb6⟩

end Go.Proofs.Ytbnpamhmippdbaa
