/- BrokerTiles: for every input the law answers true, and its arguments read as before. Conditions: none. -/
import Derived.BigQuiet
import Derived.Test.YthkbgopimgnbgaaGreatDoorZd10
import Derived.Test.YthkbgopimgnbgaaGreatDoorZd19
import Derived.Test.YthkbgopimgnbgaaGreatDoorZd28
import Derived.Test.YthkbgopimgnbgaaGreatDoorZd44
import Derived.Test.YthkbgopimgnbgaaGreatDoorZd45
import Derived.Test.YthkbgopimgnbgaaGreatDoorZd46

namespace Go.Proofs.YthkbgopimgnbgaaGreatDoor.brokerTiles
open Go.ChangeShapes Go.WideShapes Go.ChangeAt Go.RowKit
open Fr Bk
def Cs (l : List (Addr×Value)) (W : World) : Prop:=∀ p∈l,W.cell? p.1 = some p.2
theorem Cs.go {l : List (Addr×Value)} {B : Nat} {w w' : World} (h : Cs l w) (hb : Below B w w') (hs : ∀ p∈l,p.1.block < B) : Cs l w':=fun p hp=>(hb.cell (hs p hp)).trans (h p hp)
theorem ej_less {n0 g nw : Nat} {S : Nat→Prop} {w : World} {b : Br} {H : Nat→Nat→Prop} (h : LS n0 S g w b) (hS : ∀ y,EJs nw H y→S y) : LS n0 (EJs nw H) g w b:=by
  obtain ⟨F,rs,h1,h2⟩:=h
  exact ⟨F,rs,h1,fun x hx=>h2 x (hS x hx)⟩
theorem if_int {α : Type} (a b : Nat→α) {j : Nat} {id : Int} (h : id = (j : Nat)) : (fun i : Nat=>if (i : Int) = id then a i else b i) = fun i=>if i = j then a i else b i:=by
  funext i
  by_cases e : i = j
  · rw [if_pos e,if_pos (by omega)]
  · rw [if_neg e,if_neg (by omega)]
theorem ls_go {n0 g : Nat} {S : Nat→Prop} {w w' : World} {b : Br} (h : LS n0 S g w b) (hb : Below w.heap.size w w') : LS n0 S g w' b:=h.quiet (only_of_below hb)
set_option maxRecDepth 100000 in
theorem ej_begin {n0 nw : Nat} (w4 : World) (hnw : w4.heap.size = nw) (h0 : n0≤nw) (t1 t2 : TypeId) : EJ n0 nw ((w4.alloc (.cells #[.string ⟨#[]⟩,.string ⟨#[]⟩,.string ⟨#[]⟩,.string ⟨#[]⟩,.string ⟨#[]⟩,.string ⟨#[]⟩,.string ⟨#[]⟩,.string ⟨#[]⟩,.string ⟨#[]⟩,.string ⟨#[]⟩,.string ⟨#[]⟩,.string ⟨#[]⟩,.string ⟨#[]⟩,.string ⟨#[]⟩,.string ⟨#[]⟩,.string ⟨#[]⟩,.string ⟨#[]⟩] t1)).alloc (.cells #[.pointer none,.pointer none,.pointer none,.pointer none,.pointer none,.pointer none,.pointer none,.pointer none,.pointer none,.pointer none,.pointer none,.pointer none,.pointer none,.pointer none,.pointer none,.pointer none,.pointer none] t2)) (fun _=>[]) (fun _=>none) (fun _ _=>False) (fun _=>0)∧Below w4.heap.size w4 ((w4.alloc (.cells #[.string ⟨#[]⟩,.string ⟨#[]⟩,.string ⟨#[]⟩,.string ⟨#[]⟩,.string ⟨#[]⟩,.string ⟨#[]⟩,.string ⟨#[]⟩,.string ⟨#[]⟩,.string ⟨#[]⟩,.string ⟨#[]⟩,.string ⟨#[]⟩,.string ⟨#[]⟩,.string ⟨#[]⟩,.string ⟨#[]⟩,.string ⟨#[]⟩,.string ⟨#[]⟩,.string ⟨#[]⟩] t1)).alloc (.cells #[.pointer none,.pointer none,.pointer none,.pointer none,.pointer none,.pointer none,.pointer none,.pointer none,.pointer none,.pointer none,.pointer none,.pointer none,.pointer none,.pointer none,.pointer none,.pointer none,.pointer none] t2)):=by
  have hfw : (fam (wv fun _=>[]) : Array Value) = #[.string ⟨#[]⟩,.string ⟨#[]⟩,.string ⟨#[]⟩,.string ⟨#[]⟩,.string ⟨#[]⟩,.string ⟨#[]⟩,.string ⟨#[]⟩,.string ⟨#[]⟩,.string ⟨#[]⟩,.string ⟨#[]⟩,.string ⟨#[]⟩,.string ⟨#[]⟩,.string ⟨#[]⟩,.string ⟨#[]⟩,.string ⟨#[]⟩,.string ⟨#[]⟩,.string ⟨#[]⟩]:=rfl
  have hfh : (fam (hv (fun _=>none) fun _=>0) : Array Value) = #[.pointer none,.pointer none,.pointer none,.pointer none,.pointer none,.pointer none,.pointer none,.pointer none,.pointer none,.pointer none,.pointer none,.pointer none,.pointer none,.pointer none,.pointer none,.pointer none,.pointer none]:=rfl
  have hx1:=Bx.new w4 _ hnw #[.string ⟨#[]⟩,.string ⟨#[]⟩,.string ⟨#[]⟩,.string ⟨#[]⟩,.string ⟨#[]⟩,.string ⟨#[]⟩,.string ⟨#[]⟩,.string ⟨#[]⟩,.string ⟨#[]⟩,.string ⟨#[]⟩,.string ⟨#[]⟩,.string ⟨#[]⟩,.string ⟨#[]⟩,.string ⟨#[]⟩,.string ⟨#[]⟩,.string ⟨#[]⟩,.string ⟨#[]⟩] t1
  have hx2:=Bx.new (w4.alloc (.cells #[.string ⟨#[]⟩,.string ⟨#[]⟩,.string ⟨#[]⟩,.string ⟨#[]⟩,.string ⟨#[]⟩,.string ⟨#[]⟩,.string ⟨#[]⟩,.string ⟨#[]⟩,.string ⟨#[]⟩,.string ⟨#[]⟩,.string ⟨#[]⟩,.string ⟨#[]⟩,.string ⟨#[]⟩,.string ⟨#[]⟩,.string ⟨#[]⟩,.string ⟨#[]⟩,.string ⟨#[]⟩] t1)) (nw + 1) (by simp [hnw]) #[.pointer none,.pointer none,.pointer none,.pointer none,.pointer none,.pointer none,.pointer none,.pointer none,.pointer none,.pointer none,.pointer none,.pointer none,.pointer none,.pointer none,.pointer none,.pointer none,.pointer none] t2
  have hba1 : Below w4.heap.size w4 (w4.alloc (.cells #[.string ⟨#[]⟩,.string ⟨#[]⟩,.string ⟨#[]⟩,.string ⟨#[]⟩,.string ⟨#[]⟩,.string ⟨#[]⟩,.string ⟨#[]⟩,.string ⟨#[]⟩,.string ⟨#[]⟩,.string ⟨#[]⟩,.string ⟨#[]⟩,.string ⟨#[]⟩,.string ⟨#[]⟩,.string ⟨#[]⟩,.string ⟨#[]⟩,.string ⟨#[]⟩,.string ⟨#[]⟩] t1)):=(Below.refl _ _).alloc (Nat.le_refl _) _
  have hba2 : Below w4.heap.size w4 ((w4.alloc (.cells #[.string ⟨#[]⟩,.string ⟨#[]⟩,.string ⟨#[]⟩,.string ⟨#[]⟩,.string ⟨#[]⟩,.string ⟨#[]⟩,.string ⟨#[]⟩,.string ⟨#[]⟩,.string ⟨#[]⟩,.string ⟨#[]⟩,.string ⟨#[]⟩,.string ⟨#[]⟩,.string ⟨#[]⟩,.string ⟨#[]⟩,.string ⟨#[]⟩,.string ⟨#[]⟩,.string ⟨#[]⟩] t1)).alloc (.cells #[.pointer none,.pointer none,.pointer none,.pointer none,.pointer none,.pointer none,.pointer none,.pointer none,.pointer none,.pointer none,.pointer none,.pointer none,.pointer none,.pointer none,.pointer none,.pointer none,.pointer none] t2)):=hba1.alloc hba1.size _
  have hxa : Bx nw ((w4.alloc (.cells #[.string ⟨#[]⟩,.string ⟨#[]⟩,.string ⟨#[]⟩,.string ⟨#[]⟩,.string ⟨#[]⟩,.string ⟨#[]⟩,.string ⟨#[]⟩,.string ⟨#[]⟩,.string ⟨#[]⟩,.string ⟨#[]⟩,.string ⟨#[]⟩,.string ⟨#[]⟩,.string ⟨#[]⟩,.string ⟨#[]⟩,.string ⟨#[]⟩,.string ⟨#[]⟩,.string ⟨#[]⟩] t1)).alloc (.cells #[.pointer none,.pointer none,.pointer none,.pointer none,.pointer none,.pointer none,.pointer none,.pointer none,.pointer none,.pointer none,.pointer none,.pointer none,.pointer none,.pointer none,.pointer none,.pointer none,.pointer none] t2)) #[.string ⟨#[]⟩,.string ⟨#[]⟩,.string ⟨#[]⟩,.string ⟨#[]⟩,.string ⟨#[]⟩,.string ⟨#[]⟩,.string ⟨#[]⟩,.string ⟨#[]⟩,.string ⟨#[]⟩,.string ⟨#[]⟩,.string ⟨#[]⟩,.string ⟨#[]⟩,.string ⟨#[]⟩,.string ⟨#[]⟩,.string ⟨#[]⟩,.string ⟨#[]⟩,.string ⟨#[]⟩]:=hx1.go ((Below.refl (w4.alloc (.cells #[.string ⟨#[]⟩,.string ⟨#[]⟩,.string ⟨#[]⟩,.string ⟨#[]⟩,.string ⟨#[]⟩,.string ⟨#[]⟩,.string ⟨#[]⟩,.string ⟨#[]⟩,.string ⟨#[]⟩,.string ⟨#[]⟩,.string ⟨#[]⟩,.string ⟨#[]⟩,.string ⟨#[]⟩,.string ⟨#[]⟩,.string ⟨#[]⟩,.string ⟨#[]⟩,.string ⟨#[]⟩] t1)).heap.size _).alloc (Nat.le_refl _) _) hx1.room
  exact ⟨⟨hfw ▸ hxa,hfh ▸ hx2,fun i F X _ h=>(by cases h),fun i y h=>h.elim,fun i j y _ h=>h.elim,fun i y h=>h.elim,h0⟩,hba2⟩
set_option maxRecDepth 100000 in
theorem idx17 (hist : Nat→Bs) : ∀ (W : World) (r : Nat),r < 17→(Instr.index 30 (.agg #[.string (str (hist 0)),.string (str (hist 1)),.string (str (hist 2)),.string (str (hist 3)),.string (str (hist 4)),.string (str (hist 5)),.string (str (hist 6)),.string (str (hist 7)),.string (str (hist 8)),.string (str (hist 9)),.string (str (hist 10)),.string (str (hist 11)),.string (str (hist 12)),.string (str (hist 13)),.string (str (hist 14)),.string (str (hist 15)),.string (str (hist 16))]) (.int .i64 (r : Nat))).run Tryz.prog W = .ok (.string (str (hist r))) W:=by
  intro W r hr
  rcases (by omega : r = 0∨r = 1∨r = 2∨r = 3∨r = 4∨r = 5∨r = 6∨r = 7∨r = 8∨r = 9∨r = 10∨r = 11∨r = 12∨r = 13∨r = 14∨r = 15∨r = 16) with rfl | rfl | rfl | rfl | rfl | rfl | rfl | rfl | rfl | rfl | rfl | rfl | rfl | rfl | rfl | rfl | rfl <;> rfl
theorem ls_do {n0 g : Nat} {S : Nat→Prop} {w : World} {b : Br} {i T m : Nat} {A : Option Addr} {L C : Nat} (h : LS n0 S g w b) (ha : 0 < L→∀ p,A = some p→p.block < n0) (he : EvOk b i T m) (hi : i≤1000000000) (hT : T≤100000000) (k id n : Int) (hid : wf64 id) {B : Nat} {t : Bs} (ht : Bytes w B A L t) (hB : B≤w.heap.size) (hLC : L≤C) (hm : m + L≤1000000) {q : Nat} (hq : bits .and .i64 k 7 = (q : Int)) (hq7 : q≤7) :
    Calls Tryz.prog 8 #[.pointer (some (at0 g)),.agg #[.int .i64 k,.int .i64 id,.int .i64 n,.slice A L C]] w fun e w'=>e = .returned (.tuple #[.string (str (doTx q b id n)),.int .i64 (doEx q b id n : Nat)])∧LS n0 S g w' (doEv q b id n t)∧Only (fun x=>n0≤x∧¬ S x) w w':=by
  obtain ⟨F,rs,h,hs⟩:=h
  exact (ldo_any h.is he hi hT k id n hid ht hB hLC (fun hp p hpp hF=>by have:=h.new _ hF; have:=ha hp p hpp; omega) hm hq hq7).mono fun e w' hg=>h.e2 hs hg
set_option maxRecDepth 100000 in
set_option maxHeartbeats 16000000 in
theorem walk (ca0 cb0 cc0 cd0 ce0 cf0 cg0 ch0 : Int) (a1 : Option Addr) (len1 cap1 : Nat) (K1 I1 R1 : Nat→Int) (A1 : Nat→Option Addr) (L1 C1 : Nat→Nat) (T1 : Nat→Bs) (w : World)  (w1 : Ievs w w.heap.size a1 len1 K1 I1 R1 A1 L1 C1 T1) (g1 : len1≤cap1∧cap1≤maxLen) (ht : TI w) :
    Calls Tryz.prog 3 #[.agg (cv ca0 cb0 cc0 cd0 ce0 cf0 cg0 ch0),.slice a1 len1 cap1] w fun e w'=>e = .returned (.bool true)∧Below w.heap.size w w':=by
  have HTI:=Lib.hid ht
  have HEV:=Lib.hid w1
  have hln : len1≤9223372036854775807:=by have:=g1; unfold maxLen at this; omega
  clear ht w1 g1
  by_cases hrt : rt ca0 cb0 cc0 cd0 ce0 cf0 cg0 ch0 = true
  rotate_left
  · have hrt : rt ca0 cb0 cc0 cd0 ce0 cf0 cg0 ch0 = false:=by simpa using hrt
    unfold cv
    go_enter Tryz.func3,Tryz.ntmps3
    have hxm:=Bx.new w _ rfl #[.int .i64 ca0,.int .i64 cb0,.int .i64 cc0,.int .i64 cd0,.int .i64 ce0,.int .i64 cf0,.int .i64 cg0,.int .i64 ch0] 23
    have hba : Below w.heap.size w (w.alloc (.cells #[.int .i64 ca0,.int .i64 cb0,.int .i64 cc0,.int .i64 cd0,.int .i64 ce0,.int .i64 cf0,.int .i64 cg0,.int .i64 ch0] 23)):=(Below.refl _ _).alloc (Nat.le_refl _) _
    have hsz : w.heap.size < (w.alloc (.cells #[.int .i64 ca0,.int .i64 cb0,.int .i64 cc0,.int .i64 cd0,.int .i64 ce0,.int .i64 cf0,.int .i64 cg0,.int .i64 ch0] 23)).heap.size:=by simp
    go_wp2_with fail
    generalize w.alloc (.cells #[.int .i64 ca0,.int .i64 cb0,.int .i64 cc0,.int .i64 cd0,.int .i64 ce0,.int .i64 cf0,.int .i64 cg0,.int .i64 ch0] 23) = wa at *
    obtain ⟨gm,hgm⟩ : ∃ gm,w.heap.size = gm:=⟨_,rfl⟩
    rw [hgm] at hxm hba hsz
    have HG:=Lib.hid hgm
    have hTI:=HTI.out.below (hgm ▸ hba)
    have HE0:=Lib.hid (show Ievs w gm a1 len1 K1 I1 R1 A1 L1 C1 T1 from hgm ▸ HEV.out)
    rw [hgm]
    clear hgm HEV
    refine (bhead_any wa hTI).mono ?_
    rintro e w1 ⟨rfl,hb1⟩
    have HX1:=Lib.hid (hxm.go hb1 hsz)
    have HB1:=Lib.hid (Below.trans hba (hb1.mono (Nat.le_of_lt hsz)))
    have HT1:=Lib.hid (hTI.below hb1)
    have HS1:=Lib.hid (Nat.lt_of_lt_of_le hsz hb1.size)
    clear hxm hba hb1 hTI hsz
    have HF:=Lib.hid (lfew_any (cap:=cap1) w1 (show Ievs w1 w1.heap.size a1 len1 K1 I1 R1 A1 L1 C1 T1 from (HE0.out.below HB1.out).more (Nat.le_of_lt HS1.out)) hln)
    go_wp2_with fail
    refine HF.out.mono ?_
    rintro e w2 ⟨f,rfl,hfew,hb2⟩
    have HX2:=Lib.hid (HX1.out.go hb2 HS1.out)
    have HB2:=Lib.hid (Below.trans HB1.out (hb2.mono (Nat.le_of_lt HS1.out)))
    have HT2:=Lib.hid (HT1.out.below hb2)
    have HS2:=Lib.hid (Nat.lt_of_lt_of_le HS1.out hb2.size)
    clear hb2 HX1 HB1 HT1 HS1 HF
    rcases f with _ | _
    · go_wp2
      go_ret
      exact ⟨rfl,by rw [HG.out]; exact HB2.out⟩
    have z0:=HX2.out.cell 0 (.int .i64 ca0) rfl
    have z1:=HX2.out.cell 1 (.int .i64 cb0) rfl
    have z2:=HX2.out.cell 2 (.int .i64 cc0) rfl
    have z3:=HX2.out.cell 3 (.int .i64 cd0) rfl
    have z4:=HX2.out.cell 4 (.int .i64 ce0) rfl
    have z5:=HX2.out.cell 5 (.int .i64 cf0) rfl
    have z6:=HX2.out.cell 6 (.int .i64 cg0) rfl
    have z7:=HX2.out.cell 7 (.int .i64 ch0) rfl
    go_wp2_with fail
    refine (lright_any ca0 cb0 cc0 cd0 ce0 cf0 cg0 ch0 w2).mono ?_
    rintro e w3 ⟨rfl,hb3⟩
    rw [hrt]
    have HB3:=Lib.hid (Below.trans HB2.out (hb3.mono (Nat.le_of_lt HS2.out)))
    go_wp2
    go_ret
    exact ⟨rfl,by rw [HG.out]; exact HB3.out⟩
  obtain ⟨cf,hcf,hev0,rfl,rfl,rfl,rfl,rfl,rfl,rfl,rfl⟩:=rt_cf hrt
  have HC:=Lib.hid (And.intro hcf hev0)
  clear hcf hev0
  unfold cv
  go_enter Tryz.func3,Tryz.ntmps3
  have hxm:=Bx.new w _ rfl #[.int .i64 (cf.log : Nat),.int .i64 (cf.data : Nat),.int .i64 (cf.queue : Nat),.int .i64 (cf.input : Nat),.int .i64 (cf.strikes : Nat),.int .i64 (cf.lease : Nat),.int .i64 (cf.idle : Nat),.int .i64 (cf.width : Nat)] 23
  have hba : Below w.heap.size w (w.alloc (.cells #[.int .i64 (cf.log : Nat),.int .i64 (cf.data : Nat),.int .i64 (cf.queue : Nat),.int .i64 (cf.input : Nat),.int .i64 (cf.strikes : Nat),.int .i64 (cf.lease : Nat),.int .i64 (cf.idle : Nat),.int .i64 (cf.width : Nat)] 23)):=(Below.refl _ _).alloc (Nat.le_refl _) _
  have hsz : w.heap.size < (w.alloc (.cells #[.int .i64 (cf.log : Nat),.int .i64 (cf.data : Nat),.int .i64 (cf.queue : Nat),.int .i64 (cf.input : Nat),.int .i64 (cf.strikes : Nat),.int .i64 (cf.lease : Nat),.int .i64 (cf.idle : Nat),.int .i64 (cf.width : Nat)] 23)).heap.size:=by simp
  go_wp2_with fail
  generalize w.alloc (.cells #[.int .i64 (cf.log : Nat),.int .i64 (cf.data : Nat),.int .i64 (cf.queue : Nat),.int .i64 (cf.input : Nat),.int .i64 (cf.strikes : Nat),.int .i64 (cf.lease : Nat),.int .i64 (cf.idle : Nat),.int .i64 (cf.width : Nat)] 23) = wa at *
  obtain ⟨gm,hgm⟩ : ∃ gm,w.heap.size = gm:=⟨_,rfl⟩
  rw [hgm] at hxm hba hsz
  have HG:=Lib.hid hgm
  have hTI:=HTI.out.below (hgm ▸ hba)
  have HE0:=Lib.hid (show Ievs w gm a1 len1 K1 I1 R1 A1 L1 C1 T1 from hgm ▸ HEV.out)
  rw [hgm]
  clear hgm HEV
  refine (bhead_any wa hTI).mono ?_
  rintro e w1 ⟨rfl,hb1⟩
  have HX1:=Lib.hid (hxm.go hb1 hsz)
  have HB1:=Lib.hid (Below.trans hba (hb1.mono (Nat.le_of_lt hsz)))
  have HT1:=Lib.hid (hTI.below hb1)
  have HS1:=Lib.hid (Nat.lt_of_lt_of_le hsz hb1.size)
  clear hxm hba hb1 hTI hsz
  have HF:=Lib.hid (lfew_any (cap:=cap1) w1 (show Ievs w1 w1.heap.size a1 len1 K1 I1 R1 A1 L1 C1 T1 from (HE0.out.below HB1.out).more (Nat.le_of_lt HS1.out)) hln)
  go_wp2_with fail
  refine HF.out.mono ?_
  rintro e w2 ⟨f,rfl,hfew,hb2⟩
  have HX2:=Lib.hid (HX1.out.go hb2 HS1.out)
  have HB2:=Lib.hid (Below.trans HB1.out (hb2.mono (Nat.le_of_lt HS1.out)))
  have HT2:=Lib.hid (HT1.out.below hb2)
  have HS2:=Lib.hid (Nat.lt_of_lt_of_le HS1.out hb2.size)
  clear hb2 HX1 HB1 HT1 HS1 HF
  rcases f with _ | _
  · go_wp2
    go_ret
    exact ⟨rfl,by rw [HG.out]; exact HB2.out⟩
  have hfew:=hfew rfl
  have hf1:=hfew.1
  have HFW:=Lib.hid hfew.2
  clear hfew
  have z0:=HX2.out.cell 0 (.int .i64 (cf.log : Nat)) rfl
  have z1:=HX2.out.cell 1 (.int .i64 (cf.data : Nat)) rfl
  have z2:=HX2.out.cell 2 (.int .i64 (cf.queue : Nat)) rfl
  have z3:=HX2.out.cell 3 (.int .i64 (cf.input : Nat)) rfl
  have z4:=HX2.out.cell 4 (.int .i64 (cf.strikes : Nat)) rfl
  have z5:=HX2.out.cell 5 (.int .i64 (cf.lease : Nat)) rfl
  have z6:=HX2.out.cell 6 (.int .i64 (cf.idle : Nat)) rfl
  have z7:=HX2.out.cell 7 (.int .i64 (cf.width : Nat)) rfl
  go_wp2_with fail
  refine (lright_any (cf.log : Nat) (cf.data : Nat) (cf.queue : Nat) (cf.input : Nat) (cf.strikes : Nat) (cf.lease : Nat) (cf.idle : Nat) (cf.width : Nat) w2).mono ?_
  rintro e w3 ⟨rfl,hb3⟩
  rw [hrt]
  have HX3:=Lib.hid (HX2.out.go hb3 HS2.out)
  have HB3:=Lib.hid (Below.trans HB2.out (hb3.mono (Nat.le_of_lt HS2.out)))
  have HT3:=Lib.hid (HT2.out.below hb3)
  have HS3:=Lib.hid (Nat.lt_of_lt_of_le HS2.out hb3.size)
  clear hb3 HX2 HB2 HT2 HS2 z0 z1 z2 z3 z4 z5 z6 z7
  have HNew:=Lib.hid (show Calls Tryz.prog 7 #[.agg #[.int .i64 (cf.log : Nat),.int .i64 (cf.data : Nat),.int .i64 (cf.queue : Nat),.int .i64 (cf.input : Nat),.int .i64 (cf.strikes : Nat),.int .i64 (cf.lease : Nat),.int .i64 (cf.idle : Nat),.int .i64 (cf.width : Nat)]] w3 fun e w'=>∃ g,e = .returned (.pointer (some (at0 g)))∧LBx w3.heap.size g w' (bnew cf)∧Below w3.heap.size w3 w' from lb_new HC.out.1 w3 HT3.out)
  have z0:=HX3.out.cell 0 (.int .i64 (cf.log : Nat)) rfl
  have z1:=HX3.out.cell 1 (.int .i64 (cf.data : Nat)) rfl
  have z2:=HX3.out.cell 2 (.int .i64 (cf.queue : Nat)) rfl
  have z3:=HX3.out.cell 3 (.int .i64 (cf.input : Nat)) rfl
  have z4:=HX3.out.cell 4 (.int .i64 (cf.strikes : Nat)) rfl
  have z5:=HX3.out.cell 5 (.int .i64 (cf.lease : Nat)) rfl
  have z6:=HX3.out.cell 6 (.int .i64 (cf.idle : Nat)) rfl
  have z7:=HX3.out.cell 7 (.int .i64 (cf.width : Nat)) rfl
  go_wp2_with fail
  refine HNew.out.mono ?_
  rintro e w4 ⟨g,rfl,hl4,hb4⟩
  have HX4:=Lib.hid (HX3.out.go hb4 HS3.out)
  have HL4:=Lib.hid hl4
  have HB4:=Lib.hid (Below.trans HB3.out (hb4.mono (Nat.le_of_lt HS3.out)))
  have hn0:=HS3.out
  clear hl4 hb4 HX3 HB3 HT3 HS3 HNew z0 z1 z2 z3 z4 z5 z6 z7
  generalize w3.heap.size = n0 at *
  have hn1 : gm≤n0:=Nat.le_of_lt hn0
  have HMJ0:=Lib.hid (MJ.begin (Ln:=L1) HC.out.1 HC.out.2)
  go_upto_region 11 with fail
  obtain ⟨nw,hnw⟩ : ∃ nw,w4.heap.size = nw:=⟨_,rfl⟩
  have hEb:=ej_begin w4 hnw (show n0≤nw from by rw [← hnw]; exact HL4.out.le) 30 32
  obtain ⟨hEJ,hba2⟩:=hEb
  have hLSW : LS n0 (EJs nw fun _ _=>False) g ((w4.alloc (.cells #[.string ⟨#[]⟩,.string ⟨#[]⟩,.string ⟨#[]⟩,.string ⟨#[]⟩,.string ⟨#[]⟩,.string ⟨#[]⟩,.string ⟨#[]⟩,.string ⟨#[]⟩,.string ⟨#[]⟩,.string ⟨#[]⟩,.string ⟨#[]⟩,.string ⟨#[]⟩,.string ⟨#[]⟩,.string ⟨#[]⟩,.string ⟨#[]⟩,.string ⟨#[]⟩,.string ⟨#[]⟩] 30)).alloc (.cells #[.pointer none,.pointer none,.pointer none,.pointer none,.pointer none,.pointer none,.pointer none,.pointer none,.pointer none,.pointer none,.pointer none,.pointer none,.pointer none,.pointer none,.pointer none,.pointer none,.pointer none] 32)) (bnew cf):=HL4.out.ls hba2 (fun y hy=>⟨by rw [hnw]; exact hEJ.low' y hy,hEJ.lt y hy⟩)
  have hgn : g < nw:=by
    have h:=(HL4.out.ls (S:=fun _=>False) (Below.refl _ _) (fun _ h=>h.elim)).lt
    omega
  have hnn : n0≤nw:=by rw [← hnw]; exact HL4.out.le
  have hn4 : n0≤w4.heap.size:=HL4.out.le
  have HEJ0:=Lib.hid hEJ
  have HLS0:=Lib.hid hLSW
  have HBN0:=Lib.hid (hba2.mono (show n0≤w4.heap.size from HL4.out.le))
  have HNW:=Lib.hid hnw
  rw [hnw]
  clear hba2 hEJ hLSW hnw HL4
  generalize (w4.alloc (.cells #[.string ⟨#[]⟩,.string ⟨#[]⟩,.string ⟨#[]⟩,.string ⟨#[]⟩,.string ⟨#[]⟩,.string ⟨#[]⟩,.string ⟨#[]⟩,.string ⟨#[]⟩,.string ⟨#[]⟩,.string ⟨#[]⟩,.string ⟨#[]⟩,.string ⟨#[]⟩,.string ⟨#[]⟩,.string ⟨#[]⟩,.string ⟨#[]⟩,.string ⟨#[]⟩,.string ⟨#[]⟩] 30)).alloc (.cells #[.pointer none,.pointer none,.pointer none,.pointer none,.pointer none,.pointer none,.pointer none,.pointer none,.pointer none,.pointer none,.pointer none,.pointer none,.pointer none,.pointer none,.pointer none,.pointer none,.pointer none] 32) = wl at *
  go_wp2
  go_loopw [6,33] (fun s6 s33 wr=>∃ (k : Nat) (b : Br) (L : Bs) (hist : Nat→Bs) (P : Nat→Option (Fs×Lx.Lx)) (H : Nat→Nat→Prop) (x : Nat→Nat),s33 = .int .i64 (k : Nat)∧s6 = .string (str L)∧k≤len1∧Hid (MJ cf L1 k b L hist P)∧Hid (EJ n0 nw wr hist P H x)∧LS n0 (EJs nw H) g wr b∧Below n0 w4 wr) (fun _ s _=>len1 - (intOf s).toNat)
  case atStart=>exact ⟨0,bnew cf,[],fun _=>[],fun _=>none,fun _ _=>False,fun _=>0,rfl,rfl,Nat.zero_le _,HMJ0,HEJ0,HLS0.out,HBN0.out⟩
  case round =>
    obtain ⟨k,b,L,hist,P,H,x,rfl,rfl,hk,HM,HEJ,hl,hb⟩:=hrel
    have HL:=Lib.hid hl
    have HBn:=Lib.hid hb
    have HB:=Lib.hid (Below.trans HB4.out (hb.mono hn1))
    have HX:=Lib.hid (HX4.out.go hb hn0)
    have hgw : gm≤wr.heap.size:=by rw [← HG.out]; exact HB.out.size
    have hs6:=str_size L
    have hLl : L.length≤6000:=by
      have h1:=HM.out.len
      have h2:=sumL_mono (Ln:=L1) hk
      have h3:=HFW.out
      omega
    clear hl hb HMJ0 HEJ0 HLS0 HBN0
    by_cases hlt : k < len1
    rotate_left
    · as_aux_lemma =>
        obtain rfl : k = len1:=by omega
        have dk : decide ((k : Int) < (k : Int)) = false:=decide_eq_false (by omega)
        have q0:=HEJ.out.wcell (i:=0) (by decide)
        have q1:=HEJ.out.wcell (i:=1) (by decide)
        have q2:=HEJ.out.wcell (i:=2) (by decide)
        have q3:=HEJ.out.wcell (i:=3) (by decide)
        have q4:=HEJ.out.wcell (i:=4) (by decide)
        have q5:=HEJ.out.wcell (i:=5) (by decide)
        have q6:=HEJ.out.wcell (i:=6) (by decide)
        have q7:=HEJ.out.wcell (i:=7) (by decide)
        have q8:=HEJ.out.wcell (i:=8) (by decide)
        have q9:=HEJ.out.wcell (i:=9) (by decide)
        have q10:=HEJ.out.wcell (i:=10) (by decide)
        have q11:=HEJ.out.wcell (i:=11) (by decide)
        have q12:=HEJ.out.wcell (i:=12) (by decide)
        have q13:=HEJ.out.wcell (i:=13) (by decide)
        have q14:=HEJ.out.wcell (i:=14) (by decide)
        have q15:=HEJ.out.wcell (i:=15) (by decide)
        have q16:=HEJ.out.wcell (i:=16) (by decide)
        go_upto_region 31 with fail
        clear q0 q1 q2 q3 q4 q5 q6 q7 q8 q9 q10 q11 q12 q13 q14 q15 q16
        obtain ⟨ar,har⟩ : ∃ ar : Array Value,#[.string (str (hist 0)),.string (str (hist 1)),.string (str (hist 2)),.string (str (hist 3)),.string (str (hist 4)),.string (str (hist 5)),.string (str (hist 6)),.string (str (hist 7)),.string (str (hist 8)),.string (str (hist 9)),.string (str (hist 10)),.string (str (hist 11)),.string (str (hist 12)),.string (str (hist 13)),.string (str (hist 14)),.string (str (hist 15)),.string (str (hist 16))] = ar:=⟨_,rfl⟩
        have hidx:=idx17 hist
        rw [har] at hidx
        rw [har]
        go_loopw [98] (fun s98 wz=>∃ r : Nat,s98 = .int .i64 (r : Nat)∧r≤17∧Below n0 w4 wz) (fun s _=>17 - (intOf s).toNat)
        case atStart=>exact ⟨0,rfl,by decide,HBn.out⟩
        case round =>
          obtain ⟨r,rfl,hr,hbz⟩:=hrel
          have HBz:=Lib.hid (Below.trans HB4.out (hbz.mono hn1))
          have HXz:=Lib.hid (HX4.out.go hbz hn0)
          have HBnz:=Lib.hid hbz
          clear hbz HX HB HBn HL HEJ
          by_cases hr17 : r < 17
          rotate_left
          · have dr : decide ((r : Int) < 17) = false:=decide_eq_false (by omega)
            go_wp2
            go_ret
            exact ⟨rfl,by rw [HG.out]; exact HBz.out⟩
          have dr : decide ((r : Int) < 17) = true:=decide_eq_true (by omega)
          have hix:=fun W=>hidx W r hr17
          have z4:=HXz.out.cell 4 (.int .i64 (cf.strikes : Nat)) rfl
          have HT:=Lib.hid (ltiled_any (hist r) L cf.strikes wr (HM.out.tiok (by omega)) (by have:=HM.out.hl r; omega) (by omega) (HC.out.1.strikes))
          clear hidx
          go_wp2_with fail
          refine HT.out.mono ?_
          rintro e wy ⟨rfl,hby⟩
          have HBy:=Lib.hid (HBnz.out.trans (hby.mono (Nat.le_trans hn4 HBnz.out.size)))
          clear hby HT z4
          go_wp2
          go_roundw
          case rel=>exact ⟨r + 1,by go_num,by omega,HBy.out⟩
          case measure=>simp [intOf]; omega
    have hmix : Tryz.prog.follows .mixedOrders = true:=by kernel_rfl
    have dk : decide ((k : Int) < (len1 : Int)) = true:=decide_eq_true (by omega)
    have HSum:=Lib.hid (show sumL L1 (k + 1)≤6000 from Nat.le_trans (sumL_mono (show k + 1≤len1 from hlt)) HFW.out)
    have HS1:=Lib.hid (show sumL L1 (k + 1) = sumL L1 k + L1 k from rfl)
    obtain ⟨bb,off,rfl,hbB,hc⟩:=(HE0.out.below HB.out).outer (by omega)
    obtain ⟨hc0,hc1,hc2,hc3⟩:=hc k hlt
    obtain ⟨⟨hw0,hw1,hw2⟩,hby,hcap,_⟩:=HE0.out.inner k hlt
    obtain ⟨eA,hA⟩ : ∃ x,A1 k = x:=⟨_,rfl⟩
    rw [hA] at hc3 hby
    have HY:=Lib.hid (And.intro hby hcap)
    have htl : (T1 k).length = L1 k:=hby.1
    have HTL:=Lib.hid htl
    obtain ⟨q,hq7,hq⟩:=bits_any (K1 k) 7 (by decide)
    have hq : bits .and .i64 (K1 k) 7 = (q : Int):=hq
    clear hc hby hcap hw0 hw2 hA htl
    have HE:=Lib.hid (Bx.new wr wr.heap.size rfl #[.int .i64 (K1 k),.int .i64 (I1 k),.int .i64 (R1 k),.slice eA (L1 k) (C1 k)] 35)
    have hbe : Below wr.heap.size wr (wr.alloc (.cells #[.int .i64 (K1 k),.int .i64 (I1 k),.int .i64 (R1 k),.slice eA (L1 k) (C1 k)] 35)):=(Below.refl _ _).alloc (Nat.le_refl _) _
    have HNW0:=Lib.hid (show n0≤wr.heap.size from Nat.le_trans hn4 HBn.out.size)
    have HNWr:=Lib.hid (show nw + 1 < wr.heap.size from HEJ.out.hd.room)
    have HEJ5:=Lib.hid (HEJ.out.go hbe (Nat.le_refl _))
    go_upto_region 14 with fail
    generalize hge : wr.heap.size = ge at *
    have HLS:=Lib.hid (HL.out.more (T:=fun y=>y = ge) (by rw [hge]; exact hbe) (fun y hy=>by subst hy; exact ⟨by rw [hge]; exact Nat.le_refl _,HE.out.room⟩))
    have HNH:=Lib.hid (show ∀ j,¬ H j ge from fun j hy=>by have:=HEJ.out.lt ge (.inr (.inr ⟨j,hy⟩)); omega)
    generalize wr.alloc _ = w5 at *
    have HBn5:=Lib.hid (HBn.out.trans (hbe.mono (by rw [← hge]; exact Nat.le_trans hn4 HBn.out.size)))
    have HB5:=Lib.hid (Below.trans HB4.out (HBn5.out.mono hn1))
    have e0:=HE.out.cell 0 (.int .i64 (K1 k)) rfl
    have e1:=HE.out.cell 1 (.int .i64 (I1 k)) rfl
    have e2:=HE.out.cell 2 (.int .i64 (R1 k)) rfl
    have e3:=HE.out.cell 3 (.slice eA (L1 k) (C1 k)) rfl
    have hn5 : n0≤w5.heap.size:=Nat.le_trans HNW0.out (Nat.le_of_lt HE.out.room)
    have hAw : 0 < L1 k→∀ p,eA = some p→p.block < n0:=fun hp p e=>by
      obtain ⟨b9,off9,e9,h9,_⟩:=HY.out.1.2 hp
      rw [e] at e9
      injection e9 with e9
      subst e9
      show b9 < n0
      omega
    have HAw:=Lib.hid hAw
    have hTT : k * 2052 + sumL L1 k≤1000000:=by have:=HSum.out; have:=HS1.out; omega
    have hk9 : k≤1000000000:=by omega
    have hmm : sumL L1 k + L1 k≤1000000:=by have:=HSum.out; have:=HS1.out; omega
    have HDoS:=fun (q : Nat) (hq : bits .and .i64 (K1 k) 7 = (q : Int)) (hq7 : q≤7)=>ls_do (A:=eA) (L:=L1 k) (C:=C1 k) (w:=w5) HLS.out HAw.out HM.out.at_.ev hk9 (by omega) (K1 k) (I1 k) (R1 k) hw1 (HY.out.1.below HB5.out) (Nat.le_trans hn1 hn5) HY.out.2 hmm hq hq7
    have HDoS:=Lib.hid HDoS
    clear hc0 hc1 hc2 hc3 hbe hAw HL HBn HB HE0 HX HEJ
    rcases (by omega : q = 0∨q = 1∨q = 2∨q = 3∨q = 4∨q = 5∨q = 6∨q = 7) with rfl | rfl | rfl | rfl | rfl | rfl | rfl | rfl
    · as_aux_lemma =>
        have hq : bits .and .i64 (K1 k) 7 = 0:=hq
        have HD:=Lib.hid (HDoS.out 0 hq (by decide))
        clear HDoS
        go_wp2_with fail
        refine HD.out.mono ?_
        rintro e w6 ⟨rfl,hl6,ho6⟩
        have HL6:=Lib.hid hl6
        have HE6:=Lib.hid (HE.out.keep ho6 (fun h=>h.2 (.inr rfl)))
        have HEJ6:=Lib.hid (HEJ5.out.keep ho6 (fun y hy h=>h.2 (.inl hy)))
        have HBn6:=Lib.hid (HBn5.out.trans (ho6.below hn5 fun y hy h=>by have:=h.1; omega))
        have HX6:=Lib.hid (HX4.out.go HBn6.out hn0)
        clear hl6 ho6 HD HLS HBn5 HB5 HEJ5 e0 e1 e2 e3 HE
        obtain ⟨ce,hce⟩ : ∃ ce : Nat,connectE b (I1 k) = ce:=⟨_,rfl⟩
        rw [show doEx 0 b (I1 k) (R1 k) = ce from hce]
        by_cases h0 : ce = 0
        rotate_left
        · have dce : ((ce : Int) != 0) = true:=by simp; omega
          have dce2 : ((ce : Int) == 0) = false:=by simp; omega
          have HM6:=Lib.hid (HM.out.rest (q:=0) (by decide) (I1 k) (R1 k) HTL.out HSum.out (fun _=>by rw [show doEx 0 b (I1 k) (R1 k) = ce from hce]; exact h0))
          clear HM
          go_wp2
          go_roundw
          case rel=>exact ⟨k + 1,doEv 0 b (I1 k) (R1 k) (T1 k),L,hist,P,H,x,by go_num,rfl,by omega,HM6,HEJ6,ej_less HL6.out (fun y hy=>.inl hy),HBn6.out⟩
          case measure=>simp [intOf]; omega
        subst h0
        have hid:=connect_in hce
        obtain ⟨j,hj⟩ : ∃ j : Nat,I1 k = (j : Nat):=⟨(I1 k).toNat,by omega⟩
        have hj1 : 1≤j:=by omega
        have hj16 : j≤16:=by omega
        have HCE:=Lib.hid hce
        have HJ:=Lib.hid hj
        have HM6:=Lib.hid (HM.out.conn (I1 k) (R1 k) HTL.out HSum.out hce)
        have dq1 : decide (j < 17) = true:=decide_eq_true (by omega)
        clear hce hid
        have k0:=HE6.out.cell 0 (.int .i64 (K1 k)) rfl
        have k1:=HE6.out.cell 1 (.int .i64 (I1 k)) rfl
        have hwc:=HEJ6.out.wcell hj16
        have z4:=HX6.out.cell 4 (.int .i64 (cf.strikes : Nat)) rfl
        rw [hj] at k1
        obtain ⟨cl,hcl⟩ : ∃ cl : List (Addr×Value),[(⟨ge,1,none⟩,.int .i64 (j : Nat)),(⟨nw,j,none⟩,.string (str (hist j))),(⟨gm,4,none⟩,.int .i64 (cf.strikes : Nat))] = cl:=⟨_,rfl⟩
        have hCs : Cs cl w6.drew:=by
          rw [← hcl]
          intro p hp
          simp only [List.mem_cons,List.not_mem_nil,or_false] at hp
          rcases hp with rfl | rfl | rfl
          · exact k1
          · exact hwc
          · exact z4
        have hClt : ∀ p∈cl,p.1.block < w6.drew.heap.size:=by
          rw [← hcl]
          intro p hp
          simp only [List.mem_cons,List.not_mem_nil,or_false] at hp
          rcases hp with rfl | rfl | rfl
          · exact cell_lt k1
          · exact cell_lt hwc
          · exact cell_lt z4
        have HGet:=Lib.hid (show ∀ W,Cs cl W→W.cell? ⟨ge,1,none⟩ = some (.int .i64 (j : Nat))∧W.cell? ⟨nw,j,none⟩ = some (.string (str (hist j)))∧W.cell? ⟨gm,4,none⟩ = some (.int .i64 (cf.strikes : Nat)) from fun W h=>by
          rw [← hcl] at h
          exact ⟨h _ (.head _),h _ (.tail _ (.head _)),h _ (.tail _ (.tail _ (.head _)))⟩)
        have HT:=Lib.hid (ltiled_any (hist j) L cf.strikes w6.drew (HM.out.tiok hj16) (by have:=HM.out.hl j; omega) (by omega) (HC.out.1.strikes))
        have HCs:=Lib.hid hCs
        have HClt:=Lib.hid hClt
        clear hCs hClt hcl k1 hwc z4 HM
        go_upto_region 18 with fail
        go_wp2_with fail
        refine wp_region_held (S:=fun W=>Cs cl W) hmix ?_
        change wpAnyH _ _ _ _ _ _ _ _ (World.drew _)
        refine wpAnyH_take (i:=0) (v:=.pointer (some ⟨ge,1,none⟩)) rfl (by kernel_rfl) (by kernel_rfl) (by kernel_rfl) (fun _ _ _ h=>h) (.inl ⟨by kernel_rfl,fun W hW=>?_⟩) HCs.out ?_
        · go_simp; try (first | rfl | omega | (intro hh; exfalso; omega))
        refine wpAnyH_take (i:=1) (v:=.int .i64 (j : Nat)) rfl (by kernel_rfl) (by kernel_rfl) (by kernel_rfl) (fun _ _ _ h=>h) (.inl ⟨by kernel_rfl,fun W hW=>?_⟩) HCs.out ?_
        · have l1:=(HGet.out W hW).1; go_simp; try (first | rfl | omega | (intro hh; exfalso; omega))
        refine wpAnyH_take (i:=2) (v:=.pointer (some ⟨nw,j,none⟩)) rfl (by kernel_rfl) (by kernel_rfl) (by kernel_rfl) (fun _ _ _ h=>h) (.inl ⟨by kernel_rfl,fun W hW=>?_⟩) HCs.out ?_
        · go_simp; try (first | rfl | omega | (intro hh; exfalso; omega))
        refine wpAnyH_take (i:=3) (v:=.string (str (hist j))) rfl (by kernel_rfl) (by kernel_rfl) (by kernel_rfl) (fun _ _ _ h=>h) (.inl ⟨by kernel_rfl,fun W hW=>?_⟩) HCs.out ?_
        · have l1:=(HGet.out W hW).2.1; go_simp; try (first | rfl | omega | (intro hh; exfalso; omega))
        refine wpAnyH_take (i:=4) (v:=.string (str L)) rfl (by kernel_rfl) (by kernel_rfl) (by kernel_rfl) (fun _ _ _ h=>h) (.inl ⟨by kernel_rfl,fun W hW=>?_⟩) HCs.out ?_
        · go_simp; try (first | rfl | omega | (intro hh; exfalso; omega))
        refine wpAnyH_take (i:=5) (v:=.pointer (some ⟨gm,4,none⟩)) rfl (by kernel_rfl) (by kernel_rfl) (by kernel_rfl) (fun _ _ _ h=>h) (.inl ⟨by kernel_rfl,fun W hW=>?_⟩) HCs.out ?_
        · go_simp; try (first | rfl | omega | (intro hh; exfalso; omega))
        refine wpAnyH_take (i:=6) (v:=.int .i64 (cf.strikes : Nat)) rfl (by kernel_rfl) (by kernel_rfl) (by kernel_rfl) (fun _ _ _ h=>h) (.inl ⟨by kernel_rfl,fun W hW=>?_⟩) HCs.out ?_
        · have l1:=(HGet.out W hW).2.2; go_simp; try (first | rfl | omega | (intro hh; exfalso; omega))
        refine wpAnyH_all (rs:=[7]) (by kernel_rfl) (by simp) ?_
        intro z hz
        rw [List.mem_singleton.1 hz]
        clear hz
        unfold wpOp
        go_simp
        refine .inl ?_
        refine HT.out.mono ?_
        rintro e w7 ⟨rfl,hb7⟩
        have hC7 : Cs cl w7:=Cs.go HCs.out hb7 HClt.out
        refine ⟨hC7,?_⟩
        refine wpAnyH_take (i:=8) (v:=.bool false) rfl (by kernel_rfl) (by kernel_rfl) (by kernel_rfl) (fun _ _ _ h=>h) (.inl ⟨by kernel_rfl,fun W hW=>?_⟩) hC7 ?_
        · go_simp; try (first | rfl | omega | (intro hh; exfalso; omega))
        refine wpAnyH_done (by kernel_rfl) ?_ _
        go_simp
        clear hC7
        have hb67 : Below w6.heap.size w6 w7:=Below.trans (below_drew (Below.refl w6.heap.size w6)) hb7
        have HE7:=Lib.hid (HE6.out.go hb67 HE6.out.room)
        have HEJ7:=Lib.hid (HEJ6.out.go hb67 (Nat.le_refl _))
        have HL7:=Lib.hid (ls_go HL6.out hb67)
        have HBn7:=Lib.hid (HBn6.out.trans (hb67.mono (Nat.le_trans hn4 HBn6.out.size)))
        clear hb7 hb67 HT HCs HClt HGet HE6 HEJ6 HL6 HBn6 HX6 k0
        have k1:=HE7.out.cell 1 (.int .i64 (I1 k)) rfl
        rw [HJ.out] at k1
        have hwc:=HEJ7.out.wcell hj16
        have hwf:=HEJ7.out.wr.free j
        have HEJ8:=Lib.hid (show EJ n0 nw (w7.setCell ⟨nw,j,none⟩ (.string ⟨#[]⟩)) (fun i=>if i = j then [] else hist i) P H x from HEJ7.out.setw j [])
        have hgen : nw + 1 < ge:=HNWr.out
        have HE8:=Lib.hid (HE7.out.other (p:=⟨nw,j,none⟩) (by show ¬ nw = ge; omega) (.string ⟨#[]⟩))
        have hSg : ∀ y,(EJs nw H y∨y = ge)→g < y:=by
          rintro y (hy | rfl)
          · have:=HEJ7.out.low' y hy; omega
          · omega
        have HSg:=Lib.hid hSg
        have hst : Only (fun y=>EJs nw H y∨y = ge) w7 (w7.setCell ⟨nw,j,none⟩ (.string ⟨#[]⟩)):=(Bx.only nw w7 j _).mono (fun y _ hy=>.inl (.inl hy))
        have HL8:=Lib.hid (HL7.out.turn (T:=fun y=>EJs nw H y∨y = ge) hst hSg (fun y hy=>⟨.inl hy,by rcases hy with hy | rfl; exact Nat.lt_of_lt_of_le (HEJ7.out.lt y hy) hst.size; exact HE8.out.room⟩))
        have HBn8:=Lib.hid (HBn7.out.setCell (p:=⟨nw,j,none⟩) (by show n0≤nw; omega) (.string ⟨#[]⟩))
        clear hst HEJ7 HE7 HL7 HBn7
        go_upto_region 21 with fail
        clear k1 hwc hwf
        generalize w7.setCell ⟨nw,j,none⟩ (.string ⟨#[]⟩) = w8 at *
        have k1:=HE8.out.cell 1 (.int .i64 (I1 k)) rfl
        rw [HJ.out] at k1
        obtain ⟨cl,hcl⟩ : ∃ cl : List (Addr×Value),[(⟨ge,1,none⟩,.int .i64 (j : Nat))] = cl:=⟨_,rfl⟩
        have hCs : Cs cl w8.drew:=by
          rw [← hcl]
          intro p hp
          rw [List.mem_singleton.1 hp]
          exact k1
        have hClt : ∀ p∈cl,p.1.block < w8.drew.heap.size∧p.1.block = ge:=by
          rw [← hcl]
          intro p hp
          rw [List.mem_singleton.1 hp]
          exact ⟨cell_lt k1,rfl⟩
        have HGet:=Lib.hid (show ∀ W,Cs cl W→W.cell? ⟨ge,1,none⟩ = some (.int .i64 (j : Nat)) from fun W h=>by
          rw [← hcl] at h
          exact h _ (.head _))
        have HClt:=Lib.hid hClt
        have HCs:=Lib.hid hCs
        clear hcl hCs hClt k1
        go_wp2_with fail
        refine wp_region_held (S:=fun W=>Cs cl W) hmix ?_
        change wpAnyH _ _ _ _ _ _ _ _ (World.drew _)
        refine wpAnyH_take (i:=0) (v:=.pointer (some ⟨ge,1,none⟩)) rfl (by kernel_rfl) (by kernel_rfl) (by kernel_rfl) (fun _ _ _ h=>h) (.inl ⟨by kernel_rfl,fun W hW=>?_⟩) HCs.out ?_
        · go_simp; try (first | rfl | omega | (intro hh; exfalso; omega))
        refine wpAnyH_take (i:=1) (v:=.int .i64 (j : Nat)) rfl (by kernel_rfl) (by kernel_rfl) (by kernel_rfl) (fun _ _ _ h=>h) (.inl ⟨by kernel_rfl,fun W hW=>?_⟩) HCs.out ?_
        · have l1:=HGet.out W hW; go_simp; try (first | rfl | omega | (intro hh; exfalso; omega))
        refine wpAnyH_all (rs:=[2]) (by kernel_rfl) (by simp) ?_
        intro z hz
        rw [List.mem_singleton.1 hz]
        clear hz
        unfold wpOp
        go_simp
        refine .inl ?_
        refine (feed_new w8.drew).mono ?_
        rintro e w9 ⟨rfl,hfd,hb9⟩
        have hC9 : Cs cl w9:=Cs.go HCs.out hb9 (fun p hp=>(HClt.out p hp).1)
        refine ⟨hC9,?_⟩
        refine wpAnyH_all (rs:=[3]) (by kernel_rfl) (by simp) ?_
        intro z hz
        rw [List.mem_singleton.1 hz]
        clear hz
        unfold wpOp
        go_simp
        refine .inl ?_
        refine (xnew_any w9).mono ?_
        rintro e w10 ⟨F,gl,rfl,hlx,hF,hb10⟩
        have hC10 : Cs cl w10:=Cs.go hC9 hb10 (fun p hp=>Nat.lt_of_lt_of_le (HClt.out p hp).1 hb9.size)
        obtain ⟨Hz,hHz,hHzl⟩:=ear_new (w:=w8.drew) hfd hlx hF hb10 45
        refine ⟨hC10,?_⟩
        refine wpAnyH_take (i:=4) (v:=.agg #[.pointer (some ⟨w8.drew.heap.size,0,none⟩),.pointer (some ⟨gl,0,none⟩)]) rfl (by kernel_rfl) (by kernel_rfl) (by kernel_rfl) (fun _ _ _ h=>h) (.inl ⟨by kernel_rfl,fun W hW=>?_⟩) hC10 ?_
        · go_simp; try (first | rfl | omega | (intro hh; exfalso; omega))
        refine wpAnyH_all (rs:=[5]) (by kernel_rfl) (by simp) ?_
        intro z hz
        rw [List.mem_singleton.1 hz]
        clear hz
        unfold wpOp
        go_simp
        refine .inl ?_
        have hb11 : Below w8.heap.size w8 (w10.alloc (.cells #[.pointer (some ⟨w8.heap.size,0,none⟩),.pointer (some ⟨gl,0,none⟩)] 45)):=by
          have h1 : Below w8.heap.size w8 w9:=Below.trans (below_drew (Below.refl w8.heap.size w8)) hb9
          exact (h1.trans (hb10.mono h1.size)).alloc (h1.trans (hb10.mono h1.size)).size _
        have hC11 : Cs cl (w10.alloc (.cells #[.pointer (some ⟨w8.heap.size,0,none⟩),.pointer (some ⟨gl,0,none⟩)] 45)):=Cs.go hC10 ((Below.refl w10.heap.size w10).alloc (Nat.le_refl _) _) (fun p hp=>Nat.lt_of_lt_of_le (HClt.out p hp).1 (Nat.le_trans hb9.size hb10.size))
        have hHz : EarIs Hz w10.heap.size (w10.alloc (.cells #[.pointer (some ⟨w8.heap.size,0,none⟩),.pointer (some ⟨gl,0,none⟩)] 45)) ⟨[],0⟩ Lx.lx0:=hHz
        generalize w10.alloc (.cells #[.pointer (some ⟨w8.heap.size,0,none⟩),.pointer (some ⟨gl,0,none⟩)] 45) = w11 at *
        obtain ⟨zz,hzz⟩ : ∃ zz,w10.heap.size = zz:=⟨_,rfl⟩
        rw [hzz] at hHz
        rw [hzz]
        refine ⟨hC11,?_⟩
        refine wpAnyH_take (i:=6) (v:=.pointer (some ⟨nw + 1,j,none⟩)) rfl (by kernel_rfl) (by kernel_rfl) (by kernel_rfl) (fun _ _ _ h=>h) (.inl ⟨by kernel_rfl,fun W hW=>?_⟩) hC11 ?_
        · go_simp; try (first | rfl | omega | (intro hh; exfalso; omega))
        have HEJ11:=Lib.hid (HEJ8.out.go hb11 (Nat.le_refl _))
        have hwc:=HEJ11.out.hd.free j
        have hwd:=HEJ11.out.hd.cell j _ (fam_get _ hj16)
        refine wpAnyH_all (rs:=[7]) (by kernel_rfl) (by simp) ?_
        intro z hz
        rw [List.mem_singleton.1 hz]
        clear hz
        unfold wpOp
        go_simp
        have HEJ12:=Lib.hid (HEJ11.out.seth hj16 hHz (fun y hy=>by have h1:=hHzl y hy; have h2:=HEJ8.out.hd.room; have h3 : w8.drew.heap.size = w8.heap.size:=rfl; omega) (fun i y hi hy hy2=>by have h1:=hHzl y hy2; have h2:=HEJ8.out.lt y (.inr (.inr ⟨i,hy⟩)); have h3 : w8.drew.heap.size = w8.heap.size:=rfl; omega))
        have hHzs : ∀ y,Hz y→w8.heap.size≤y∧y < w11.heap.size:=fun y hy=>⟨hHzl y hy,hHz.lt y hy⟩
        have HHzs:=Lib.hid hHzs
        have hO12 : Only (fun y=>EJs nw H y∨y = ge) w11 (w11.setCell ⟨nw + 1,j,none⟩ (.pointer (some (at0 zz)))):=(Bx.only (nw + 1) w11 j _).mono (fun y _ hy=>.inl (.inr (.inl hy)))
        have HL11:=Lib.hid (HL8.out.more (T:=Hz) hb11 HHzs.out)
        have HL12:=Lib.hid (HL11.out.turn (T:=EJs nw fun i=>if i = j then Hz else H i) (hO12.mono (fun y _ hy=>.inl hy)) (fun y hy=>by rcases hy with hy | hy; exact HSg.out y hy; exact Nat.lt_of_lt_of_le (by have:=HEJ8.out.hd.room; omega) (HHzs.out y hy).1) (fun y hy=>by
          refine ⟨?_,HEJ12.out.lt y hy⟩
          rcases hy with rfl | rfl | ⟨i,hy⟩
          · exact .inl (.inl (.inl (.inl rfl)))
          · exact .inl (.inl (.inl (.inr (.inl rfl))))
          · try dsimp only at hy
            by_cases e : i = j
            · rw [if_pos e] at hy
              exact .inl (.inr hy)
            · rw [if_neg e] at hy
              exact .inl (.inl (.inl (.inr (.inr ⟨i,hy⟩))))))
        have hC12 : Cs cl (w11.setCell ⟨nw + 1,j,none⟩ (.pointer (some (at0 zz)))):=fun p hp=>((Bx.only (nw + 1) w11 j _).cell (Nat.lt_of_lt_of_le (HClt.out p hp).1 hb11.size) (by rw [(HClt.out p hp).2]; omega)).trans (hC11 p hp)
        have HE12:=Lib.hid ((HE8.out.go hb11 HE8.out.room).other (p:=⟨nw + 1,j,none⟩) (by show ¬ nw + 1 = ge; omega) (.pointer (some (at0 zz))))
        have HBn12:=Lib.hid ((HBn8.out.trans (hb11.mono (Nat.le_trans hn4 HBn8.out.size))).setCell (p:=⟨nw + 1,j,none⟩) (by show n0≤nw + 1; omega) (.pointer (some (at0 zz))))
        have hHe : (fun i : Nat=>if (i : Int) = I1 k then ([] : Bs) else hist i) = fun i=>if i = j then [] else hist i:=if_int _ _ HJ.out
        have hPe : (fun i : Nat=>if (i : Int) = I1 k then some ((⟨[],0⟩ : Fs),Lx.lx0) else P i) = fun i=>if i = j then some (⟨[],0⟩,Lx.lx0) else P i:=if_int _ _ HJ.out
        have HM7:=Lib.hid (show MJ cf L1 (k + 1) (doEv 0 b (I1 k) (R1 k) (T1 k)) L (fun i=>if i = j then [] else hist i) (fun i=>if i = j then some (⟨[],0⟩,Lx.lx0) else P i) from by rw [← hHe,← hPe]; exact HM6.out)
        first | refine ⟨hC12,?_⟩ | refine .inl ⟨hC12,?_⟩
        refine wpAnyH_done (by kernel_rfl) ?_ _
        go_simp
        clear hC12 hC11 hC10 hC9 hHe hPe hO12 hHzs hHz hHzl hF hlx hfd hb9 hb10 hb11 HM6 HEJ8 HEJ11 HL8 HL11 HE8 HBn8 HCs HGet HClt HHzs hwc hwd
        generalize w11.setCell ⟨nw + 1,j,none⟩ (.pointer (some ⟨zz,0,none⟩)) = w12 at *
        have k0:=HE12.out.cell 0 (.int .i64 (K1 k)) rfl
        go_wp2
        go_roundw
        case rel=>exact ⟨k + 1,doEv 0 b (I1 k) (R1 k) (T1 k),L,_,_,_,_,by go_num,rfl,by omega,HM7,HEJ12,HL12.out,HBn12.out⟩
        case measure=>simp [intOf]; omega
    · as_aux_lemma =>
        have hq : bits .and .i64 (K1 k) 7 = 1:=hq
        have HD:=Lib.hid (HDoS.out 1 hq (by decide))
        clear HDoS
        go_wp2_with fail
        refine HD.out.mono ?_
        rintro e w6 ⟨rfl,hl6,ho6⟩
        have HL6:=Lib.hid hl6
        have HE6:=Lib.hid (HE.out.keep ho6 (fun h=>h.2 (.inr rfl)))
        have HEJ6:=Lib.hid (HEJ5.out.keep ho6 (fun y hy h=>h.2 (.inl hy)))
        have HBn6:=Lib.hid (HBn5.out.trans (ho6.below hn5 fun y hy h=>by have:=h.1; omega))
        have HX6:=Lib.hid (HX4.out.go HBn6.out hn0)
        clear hl6 ho6 HD HLS HBn5 HB5 HEJ5 e0 e1 e2 e3 HE
        obtain ⟨ce,hce⟩ : ∃ ce : Nat,bytesE b (I1 k) = ce:=⟨_,rfl⟩
        rw [show doEx 1 b (I1 k) (R1 k) = ce from hce]
        by_cases h0 : ce = 0
        rotate_left
        · have dce : ((ce : Int) != 0) = true:=by simp; omega
          have dce2 : ((ce : Int) == 0) = false:=by simp; omega
          have HM6:=Lib.hid (HM.out.rest (q:=1) (by decide) (I1 k) (R1 k) HTL.out HSum.out (fun _=>by rw [show doEx 1 b (I1 k) (R1 k) = ce from hce]; exact h0))
          clear HM
          go_wp2
          go_roundw
          case rel=>exact ⟨k + 1,doEv 1 b (I1 k) (R1 k) (T1 k),L,hist,P,H,x,by go_num,rfl,by omega,HM6,HEJ6,ej_less HL6.out (fun y hy=>.inl hy),HBn6.out⟩
          case measure=>simp [intOf]; omega
        subst h0
        have hid:=bytes_in hce
        obtain ⟨j,hj⟩ : ∃ j : Nat,I1 k = (j : Nat):=⟨(I1 k).toNat,by omega⟩
        have hj1 : 1≤j:=by omega
        have hj16 : j≤16:=by omega
        have HCE:=Lib.hid hce
        have HJ:=Lib.hid hj
        obtain ⟨F,X,hP0⟩:=HM.out.heard hce
        have hP : P j = some (F,X):=by rw [hj,show ((j : Int)).toNat = j by omega] at hP0; exact hP0
        have HP0:=Lib.hid hP0
        have HP:=Lib.hid hP
        have dq1 : decide (j < 17) = true:=decide_eq_true (by omega)
        have hgen : nw + 1 < ge:=HNWr.out
        have hgmn : gm < nw:=by omega
        clear hce hid hP0 hP
        have k0:=HE6.out.cell 0 (.int .i64 (K1 k)) rfl
        have hb66 : Below w6.heap.size w6 w6.drew:=below_drew (Below.refl w6.heap.size w6)
        have HE6d:=Lib.hid (HE6.out.go hb66 HE6.out.room)
        have HEJ6d:=Lib.hid (HEJ6.out.go hb66 (Nat.le_refl _))
        have HL6d:=Lib.hid (ls_go HL6.out hb66)
        have HBn6d:=Lib.hid (HBn6.out.trans (hb66.mono (Nat.le_trans hn4 HBn6.out.size)))
        have HB6d:=Lib.hid (HB4.out.trans (HBn6d.out.mono hn1))
        have k1:=HE6d.out.cell 1 (.int .i64 (I1 k)) rfl
        have k3:=HE6d.out.cell 3 (.slice eA (L1 k) (C1 k)) rfl
        have hwc:=HEJ6d.out.hcell hj16 HP.out
        rw [hj] at k1
        obtain ⟨cl,hcl⟩ : ∃ cl : List (Addr×Value),[(⟨ge,1,none⟩,.int .i64 (j : Nat)),(⟨nw + 1,j,none⟩,.pointer (some (at0 (x j)))),(⟨ge,3,none⟩,.slice eA (L1 k) (C1 k))] = cl:=⟨_,rfl⟩
        have hCs : Cs cl w6.drew:=by
          rw [← hcl]
          intro p hp
          simp only [List.mem_cons,List.not_mem_nil,or_false] at hp
          rcases hp with rfl | rfl | rfl
          · exact k1
          · exact hwc
          · exact k3
        have hClt : ∀ p∈cl,p.1.block < w6.drew.heap.size∧¬ H j p.1.block:=by
          rw [← hcl]
          intro p hp
          have hHn : ∀ y,H j y→nw + 1 < y∧y < w6.drew.heap.size:=fun y hy=>⟨HEJ6d.out.low j y hy,HEJ6d.out.lt y (.inr (.inr ⟨j,hy⟩))⟩
          have hge : ¬ H j ge:=HNH.out j
          simp only [List.mem_cons,List.not_mem_nil,or_false] at hp
          rcases hp with rfl | rfl | rfl
          · exact ⟨cell_lt k1,hge⟩
          · exact ⟨cell_lt hwc,fun hy=>by have h9 : nw + 1 < nw + 1:=(hHn _ hy).1; omega⟩
          · exact ⟨cell_lt k3,hge⟩
        have HGet:=Lib.hid (show ∀ W,Cs cl W→W.cell? ⟨ge,1,none⟩ = some (.int .i64 (j : Nat))∧W.cell? ⟨nw + 1,j,none⟩ = some (.pointer (some (at0 (x j))))∧W.cell? ⟨ge,3,none⟩ = some (.slice eA (L1 k) (C1 k)) from fun W h=>by
          rw [← hcl] at h
          exact ⟨h _ (.head _),h _ (.tail _ (.head _)),h _ (.tail _ (.tail _ (.head _)))⟩)
        have HA:=Lib.hid (again_any (w0:=w) HTI.out (by rw [HG.out]; exact HB6d.out) (fun y hy=>by rw [HG.out]; have:=HEJ6d.out.low j y hy; omega) (HEJ6d.out.ear j F X hj16 HP.out) (C1 k) (HY.out.1.below HB6d.out) (by have:=HSum.out; have:=HS1.out; omega) (by have:=HM.out.pl j _ HP.out; dsimp only at this; omega))
        have HCs:=Lib.hid hCs
        have HClt:=Lib.hid hClt
        clear hCs hClt hcl k1 k3 hwc HE6 HEJ6 HL6 HBn6 HX6 hb66 hj
        go_upto_region 23 with fail
        go_wp2_with fail
        refine wp_region_held (S:=fun W=>Cs cl W) hmix ?_
        change wpAnyH _ _ _ _ _ _ _ _ (World.drew _)
        refine wpAnyH_take (i:=0) (v:=.pointer (some ⟨ge,1,none⟩)) rfl (by kernel_rfl) (by kernel_rfl) (by kernel_rfl) (fun _ _ _ h=>h) (.inl ⟨by kernel_rfl,fun W hW=>?_⟩) HCs.out ?_
        · go_simp; try (first | rfl | omega | (intro hh; exfalso; omega))
        refine wpAnyH_take (i:=1) (v:=.int .i64 (j : Nat)) rfl (by kernel_rfl) (by kernel_rfl) (by kernel_rfl) (fun _ _ _ h=>h) (.inl ⟨by kernel_rfl,fun W hW=>?_⟩) HCs.out ?_
        · have l1:=(HGet.out W hW).1; go_simp; try (first | rfl | omega | (intro hh; exfalso; omega))
        refine wpAnyH_take (i:=2) (v:=.pointer (some ⟨nw + 1,j,none⟩)) rfl (by kernel_rfl) (by kernel_rfl) (by kernel_rfl) (fun _ _ _ h=>h) (.inl ⟨by kernel_rfl,fun W hW=>?_⟩) HCs.out ?_
        · go_simp; try (first | rfl | omega | (intro hh; exfalso; omega))
        refine wpAnyH_take (i:=3) (v:=.pointer (some (at0 (x j)))) rfl (by kernel_rfl) (by kernel_rfl) (by kernel_rfl) (fun _ _ _ h=>h) (.inl ⟨by kernel_rfl,fun W hW=>?_⟩) HCs.out ?_
        · have l1:=(HGet.out W hW).2.1; go_simp; try (first | rfl | omega | (intro hh; exfalso; omega))
        refine wpAnyH_take (i:=4) (v:=.pointer (some ⟨ge,3,none⟩)) rfl (by kernel_rfl) (by kernel_rfl) (by kernel_rfl) (fun _ _ _ h=>h) (.inl ⟨by kernel_rfl,fun W hW=>?_⟩) HCs.out ?_
        · go_simp; try (first | rfl | omega | (intro hh; exfalso; omega))
        refine wpAnyH_take (i:=5) (v:=.slice eA (L1 k) (C1 k)) rfl (by kernel_rfl) (by kernel_rfl) (by kernel_rfl) (fun _ _ _ h=>h) (.inl ⟨by kernel_rfl,fun W hW=>?_⟩) HCs.out ?_
        · have l1:=(HGet.out W hW).2.2; go_simp; try (first | rfl | omega | (intro hh; exfalso; omega))
        refine wpAnyH_all (rs:=[6]) (by kernel_rfl) (by simp) ?_
        intro z hz
        rw [List.mem_singleton.1 hz]
        clear hz
        unfold wpOp
        go_simp
        refine .inl ?_
        refine HA.out.mono ?_
        rintro e w7 ⟨hO7,hres⟩
        have hC7 : Cs cl w7:=fun p hp=>(hO7.cell (HClt.out p hp).1 (HClt.out p hp).2).trans (HCs.out p hp)
        have HB7:=Lib.hid (HB6d.out.trans (hO7.below (B:=gm) (by have:=HBn6d.out.size; omega) (fun y hy h=>by have:=HEJ6d.out.low j y h; omega)))
        have HO7:=Lib.hid hO7
        clear hO7 HA
        rcases hres with rfl | ⟨rfl,H2,hE2,hH2,htame⟩
        · refine ⟨hC7,?_⟩
          refine wpAnyH_done (by kernel_rfl) ?_ _
          go_simp
          clear hC7
          go_wp2
          go_ret
          exact ⟨rfl,by rw [HG.out]; exact HB7.out⟩
        refine ⟨hC7,?_⟩
        refine wpAnyH_done (by kernel_rfl) ?_ _
        go_simp
        clear hC7
        have HM7:=Lib.hid (HM.out.said (R1 k) HTL.out HSum.out HCE.out HP0.out htame)
        have HEJ7:=Lib.hid (HEJ6d.out.ears hj16 (by rw [HP.out]; exact fun h=>by cases h) HO7.out hE2 hH2)
        have HE7:=Lib.hid (HE6d.out.keep HO7.out (HNH.out j))
        have hSg : ∀ y,(EJs nw H y∨y = ge)→g < y:=by
          rintro y (hy | rfl)
          · have:=HEJ6d.out.low' y hy; omega
          · omega
        have HL7:=Lib.hid (HL6d.out.turn (T:=EJs nw fun i=>if i = j then H2 else H i) (HO7.out.mono (fun y _ hy=>.inl (.inr (.inr ⟨j,hy⟩)))) hSg (fun y hy=>by
          refine ⟨?_,HEJ7.out.lt y hy⟩
          rcases hy with rfl | rfl | ⟨i,hy⟩
          · exact .inl (.inl (.inl rfl))
          · exact .inl (.inl (.inr (.inl rfl)))
          · try dsimp only at hy
            by_cases e : i = j
            · rw [if_pos e] at hy
              rcases hH2 y hy with h | h
              · exact .inl (.inl (.inr (.inr ⟨j,h⟩)))
              · exact .inr h
            · rw [if_neg e] at hy
              exact .inl (.inl (.inr (.inr ⟨i,hy⟩)))))
        have HBn7:=Lib.hid (HBn6d.out.trans (HO7.out.below (B:=n0) (Nat.le_trans hn4 HBn6d.out.size) (fun y hy h=>by have:=HEJ6d.out.low j y h; omega)))
        have hPe : (fun i : Nat=>if (i : Int) = I1 k then some (fpush F (T1 k),earLx X (fgot F (T1 k))) else P i) = fun i=>if i = j then some (fpush F (T1 k),earLx X (fgot F (T1 k))) else P i:=if_int _ _ HJ.out
        have HM7:=Lib.hid (show MJ cf L1 (k + 1) (doEv 1 b (I1 k) (R1 k) (T1 k)) L hist (fun i=>if i = j then some (fpush F (T1 k),earLx X (fgot F (T1 k))) else P i) from by rw [← hPe]; exact HM7.out)
        have k0:=HE7.out.cell 0 (.int .i64 (K1 k)) rfl
        clear hE2 hH2 htame hSg hPe HEJ6d HL6d HBn6d HB6d HE6d HO7 HB7 HM
        go_wp2
        go_roundw
        case rel=>exact ⟨k + 1,doEv 1 b (I1 k) (R1 k) (T1 k),L,hist,_,_,x,by go_num,rfl,by omega,HM7,HEJ7,HL7.out,HBn7.out⟩
        case measure=>simp [intOf]; omega
    · as_aux_lemma =>
        have hq : bits .and .i64 (K1 k) 7 = 2:=hq
        have HD:=Lib.hid (HDoS.out 2 hq (by decide))
        clear HDoS
        go_wp2_with fail
        refine HD.out.mono ?_
        rintro e w6 ⟨rfl,hl6,ho6⟩
        have HL6:=Lib.hid hl6
        have HE6:=Lib.hid (HE.out.keep ho6 (fun h=>h.2 (.inr rfl)))
        have HEJ6:=Lib.hid (HEJ5.out.keep ho6 (fun y hy h=>h.2 (.inl hy)))
        have HBn6:=Lib.hid (HBn5.out.trans (ho6.below hn5 fun y hy h=>by have:=h.1; omega))
        have HX6:=Lib.hid (HX4.out.go HBn6.out hn0)
        clear hl6 ho6 HD HLS HBn5 HB5 HEJ5 e0 e1 e2 e3 HE
        obtain ⟨ce,hce⟩ : ∃ ce : Nat,writeE b (I1 k) = ce:=⟨_,rfl⟩
        rw [show doEx 2 b (I1 k) (R1 k) = ce from hce]
        by_cases h0 : ce = 0
        rotate_left
        · have dce : ((ce : Int) != 0) = true:=by simp; omega
          have dce2 : ((ce : Int) == 0) = false:=by simp; omega
          have HM6:=Lib.hid (HM.out.rest (q:=2) (by decide) (I1 k) (R1 k) HTL.out HSum.out (fun _=>by rw [show doEx 2 b (I1 k) (R1 k) = ce from hce]; exact h0))
          clear HM
          go_wp2
          go_roundw
          case rel=>exact ⟨k + 1,doEv 2 b (I1 k) (R1 k) (T1 k),L,hist,P,H,x,by go_num,rfl,by omega,HM6,HEJ6,ej_less HL6.out (fun y hy=>.inl hy),HBn6.out⟩
          case measure=>simp [intOf]; omega
        subst h0
        have hid:=write_in hce
        obtain ⟨j,hj⟩ : ∃ j : Nat,I1 k = (j : Nat):=⟨(I1 k).toNat,by omega⟩
        have hj1 : 1≤j:=by omega
        have hj16 : j≤16:=by omega
        have HCE:=Lib.hid hce
        have HJ:=Lib.hid hj
        have hid1 : 1≤I1 k:=hid.1
        have dq1 : decide (j < 17) = true:=decide_eq_true (by omega)
        have hgen : nw + 1 < ge:=HNWr.out
        have HM6:=Lib.hid (HM.out.wrote HC.out.1 hid1 (R1 k) HTL.out HSum.out)
        have hwl:=HM.out.wlen HC.out.1 (I1 k) (R1 k)
        have hhl:=HM.out.hl j
        rw [show doTx 2 b (I1 k) (R1 k) = writeT b (I1 k) (R1 k) from rfl]
        obtain ⟨wt,hwt⟩ : ∃ wt,writeT b (I1 k) (R1 k) = wt:=⟨_,rfl⟩
        rw [hwt] at HM6 hwl ⊢
        clear hce hid hid1 HM hwt
        have k0:=HE6.out.cell 0 (.int .i64 (K1 k)) rfl
        have k1:=HE6.out.cell 1 (.int .i64 (I1 k)) rfl
        have hwc:=HEJ6.out.wcell hj16
        rw [hj] at k1
        have hs1:=str_size (hist j)
        have hs2:=str_size wt
        have hov : ¬ (9223372036854775807 < (hist j).length + wt.length):=by omega
        have hcat : str (hist j) ++ str wt = str (hist j ++ wt):=(str_app _ _).symm
        obtain ⟨cl,hcl⟩ : ∃ cl : List (Addr×Value),[(⟨ge,1,none⟩,.int .i64 (j : Nat))] = cl:=⟨_,rfl⟩
        have hCs : ∀ v,Cs cl w6.drew∧Cs cl (w6.setCell ⟨nw,j,none⟩ v).drew:=by
          rw [← hcl]
          intro v
          refine ⟨fun p hp=>?_,fun p hp=>?_⟩
          · rw [List.mem_singleton.1 hp]
            exact k1
          · rw [List.mem_singleton.1 hp]
            have h9:=(HE6.out.other (p:=⟨nw,j,none⟩) (by show ¬ nw = ge; omega) v).cell 1 (.int .i64 (I1 k)) rfl
            rw [HJ.out] at h9
            exact h9
        have HGet:=Lib.hid (show ∀ W,Cs cl W→W.cell? ⟨ge,1,none⟩ = some (.int .i64 (j : Nat)) from fun W h=>by
          rw [← hcl] at h
          exact h _ (.head _))
        have HCs:=Lib.hid hCs
        clear hCs hcl k1 hj
        go_upto_region 26 with fail
        have hwd : w6.drew.cell? ⟨nw,j,none⟩ = some (.string (str (hist j))):=hwc
        have hwf : w6.drew.frozen? ⟨nw,j,none⟩ = false:=HEJ6.out.wr.free j
        go_wp2_with fail
        refine wp_region_held (S:=fun W=>Cs cl W) hmix ?_
        change wpAnyH _ _ _ _ _ _ _ _ (World.drew _)
        refine wpAnyH_take (i:=0) (v:=.pointer (some ⟨ge,1,none⟩)) rfl (by kernel_rfl) (by kernel_rfl) (by kernel_rfl) (fun _ _ _ h=>h) (.inl ⟨by kernel_rfl,fun W hW=>?_⟩) (HCs.out (.bool true)).1 ?_
        · go_simp; try (first | rfl | omega | (intro hh; exfalso; omega))
        refine wpAnyH_take (i:=1) (v:=.int .i64 (j : Nat)) rfl (by kernel_rfl) (by kernel_rfl) (by kernel_rfl) (fun _ _ _ h=>h) (.inl ⟨by kernel_rfl,fun W hW=>?_⟩) (HCs.out (.bool true)).1 ?_
        · have l1:=HGet.out W hW; go_simp; try (first | rfl | omega | (intro hh; exfalso; omega))
        refine wpAnyH_take (i:=2) (v:=.pointer (some ⟨ge,1,none⟩)) rfl (by kernel_rfl) (by kernel_rfl) (by kernel_rfl) (fun _ _ _ h=>h) (.inl ⟨by kernel_rfl,fun W hW=>?_⟩) (HCs.out (.bool true)).1 ?_
        · go_simp; try (first | rfl | omega | (intro hh; exfalso; omega))
        refine wpAnyH_take (i:=3) (v:=.int .i64 (j : Nat)) rfl (by kernel_rfl) (by kernel_rfl) (by kernel_rfl) (fun _ _ _ h=>h) (.inl ⟨by kernel_rfl,fun W hW=>?_⟩) (HCs.out (.bool true)).1 ?_
        · have l1:=HGet.out W hW; go_simp; try (first | rfl | omega | (intro hh; exfalso; omega))
        refine wpAnyH_take (i:=4) (v:=.pointer (some ⟨nw,j,none⟩)) rfl (by kernel_rfl) (by kernel_rfl) (by kernel_rfl) (fun _ _ _ h=>h) (.inl ⟨by kernel_rfl,fun W hW=>?_⟩) (HCs.out (.bool true)).1 ?_
        · go_simp; try (first | rfl | omega | (intro hh; exfalso; omega))
        refine wpAnyH_take (i:=6) (v:=.string (str wt)) rfl (by kernel_rfl) (by kernel_rfl) (by kernel_rfl) (fun _ _ _ h=>h) (.inl ⟨by kernel_rfl,fun W hW=>?_⟩) (HCs.out (.bool true)).1 ?_
        · go_simp; try (first | rfl | omega | (intro hh; exfalso; omega))
        refine wpAnyH_all (rs:=[5]) (by kernel_rfl) (by simp) ?_
        intro z hz
        rw [List.mem_singleton.1 hz]
        clear hz
        unfold wpOp
        go_simp
        first | refine ⟨(HCs.out (.bool true)).1,?_⟩ | refine .inl ⟨(HCs.out (.bool true)).1,?_⟩
        refine wpAnyH_take (i:=7) (v:=.string (str (hist j ++ wt))) rfl (by kernel_rfl) (by kernel_rfl) (by kernel_rfl) (fun _ _ _ h=>h) (.inl ⟨by kernel_rfl,fun W hW=>?_⟩) (HCs.out (.bool true)).1 ?_
        · go_simp; try (first | rfl | omega | (intro hh; exfalso; omega))
        refine wpAnyH_take (i:=8) (v:=.pointer (some ⟨nw,j,none⟩)) rfl (by kernel_rfl) (by kernel_rfl) (by kernel_rfl) (fun _ _ _ h=>h) (.inl ⟨by kernel_rfl,fun W hW=>?_⟩) (HCs.out (.bool true)).1 ?_
        · go_simp; try (first | rfl | omega | (intro hh; exfalso; omega))
        refine wpAnyH_all (rs:=[9]) (by kernel_rfl) (by simp) ?_
        intro z hz
        rw [List.mem_singleton.1 hz]
        clear hz
        unfold wpOp
        go_simp
        first | refine ⟨(HCs.out _).2,?_⟩ | refine .inl ⟨(HCs.out _).2,?_⟩
        refine wpAnyH_done (by kernel_rfl) ?_ _
        go_simp
        have hO7 : Only (fun y=>y = nw) w6 (w6.setCell ⟨nw,j,none⟩ (.string (str (hist j ++ wt)))).drew:=(Bx.only nw w6 j _).drew
        have HEJ7:=Lib.hid ((HEJ6.out.setw j (hist j ++ wt)).keep (S:=fun _=>False) ((Only.refl _ _).drew) (fun _ _ h=>h))
        have hSg : ∀ y,(EJs nw H y∨y = ge)→g < y:=by
          rintro y (hy | rfl)
          · have:=HEJ6.out.low' y hy; omega
          · omega
        have HL7:=Lib.hid (HL6.out.turn (T:=EJs nw H) (hO7.mono (fun y _ hy=>.inl (.inl hy))) hSg (fun y hy=>⟨.inl (.inl hy),Nat.lt_of_lt_of_le (HEJ6.out.lt y hy) hO7.size⟩))
        have HE7:=Lib.hid (HE6.out.keep hO7 (by show ¬ ge = nw; omega))
        have HBn7:=Lib.hid (HBn6.out.trans (hO7.below (B:=n0) (Nat.le_trans hn4 HBn6.out.size) (fun y hy h=>by omega)))
        have hHe : (fun i : Nat=>if (i : Int) = I1 k then hist i ++ wt else hist i) = fun i=>if i = j then hist j ++ wt else hist i:=by
          rw [if_int _ _ HJ.out]
          funext i
          by_cases e : i = j
          · rw [if_pos e,if_pos e,e]
          · rw [if_neg e,if_neg e]
        have HM7:=Lib.hid (show MJ cf L1 (k + 1) (doEv 2 b (I1 k) (R1 k) (T1 k)) L (fun i=>if i = j then hist j ++ wt else hist i) P from by rw [← hHe]; exact HM6.out)
        clear k0
        have k0:=HE7.out.cell 0 (.int .i64 (K1 k)) rfl
        clear hO7 hSg hHe HEJ6 HL6 HE6 HBn6 HX6 HM6 HCs HGet hwc hwd hwf hcat hs1 hs2 hov
        generalize (w6.setCell ⟨nw,j,none⟩ (.string (str (hist j ++ wt)))).drew = w7 at *
        go_wp2
        go_roundw
        case rel=>exact ⟨k + 1,doEv 2 b (I1 k) (R1 k) (T1 k),L,_,P,H,x,by go_num,rfl,by omega,HM7,HEJ7,HL7.out,HBn7.out⟩
        case measure=>simp [intOf]; omega
    · as_aux_lemma =>
        have hq : bits .and .i64 (K1 k) 7 = 3:=hq
        have HD:=Lib.hid (HDoS.out 3 hq (by decide))
        clear HDoS
        go_wp2_with fail
        refine HD.out.mono ?_
        rintro e w6 ⟨rfl,hl6,ho6⟩
        have HL6:=Lib.hid hl6
        have HE6:=Lib.hid (HE.out.keep ho6 (fun h=>h.2 (.inr rfl)))
        have HEJ6:=Lib.hid (HEJ5.out.keep ho6 (fun y hy h=>h.2 (.inl hy)))
        have HBn6:=Lib.hid (HBn5.out.trans (ho6.below hn5 fun y hy h=>by have:=h.1; omega))
        have HX6:=Lib.hid (HX4.out.go HBn6.out hn0)
        clear hl6 ho6 HD HLS HBn5 HB5 HEJ5 e0 e1 e2 e3 HE
        obtain ⟨ce,hce⟩ : ∃ ce : Nat,outputE b = ce:=⟨_,rfl⟩
        rw [show doEx 3 b (I1 k) (R1 k) = ce from hce]
        by_cases h0 : ce = 0
        rotate_left
        · have dce : ((ce : Int) != 0) = true:=by simp; omega
          have dce2 : ((ce : Int) == 0) = false:=by simp; omega
          have HM6:=Lib.hid (HM.out.rest (q:=3) (by decide) (I1 k) (R1 k) HTL.out HSum.out (fun _=>by rw [show doEx 3 b (I1 k) (R1 k) = ce from hce]; exact h0))
          clear HM
          go_wp2
          go_roundw
          case rel=>exact ⟨k + 1,doEv 3 b (I1 k) (R1 k) (T1 k),L,hist,P,H,x,by go_num,rfl,by omega,HM6,HEJ6,ej_less HL6.out (fun y hy=>.inl hy),HBn6.out⟩
          case measure=>simp [intOf]; omega
        subst h0
        have HM6:=Lib.hid (HM.out.out (I1 k) (R1 k) HTL.out HSum.out hce)
        have hbw6 : Below gm w w6:=HB4.out.trans (HBn6.out.mono hn1)
        have hby6:=HY.out.1.below hbw6
        have hcv:=conv_str (cap:=C1 k) hby6
        have k0:=HE6.out.cell 0 (.int .i64 (K1 k)) rfl
        have k3:=HE6.out.cell 3 (.slice eA (L1 k) (C1 k)) rfl
        have hs2 : (str (T1 k)).size = L1 k:=by rw [str_size]; exact HTL.out
        have hLk : L1 k≤6000:=by have:=HSum.out; have:=HS1.out; omega
        have hov : ¬ (9223372036854775807 < L.length + L1 k):=by omega
        have hcat : str L ++ str (T1 k) = str (L ++ T1 k):=(str_app _ _).symm
        clear hce hbw6 hby6 HM
        go_wp2
        go_roundw
        case rel=>exact ⟨k + 1,doEv 3 b (I1 k) (R1 k) (T1 k),L ++ T1 k,hist,P,H,x,by go_num,rfl,by omega,HM6,HEJ6,ej_less HL6.out (fun y hy=>.inl hy),HBn6.out⟩
        case measure=>simp [intOf]; omega
    · as_aux_lemma =>
        have hq : bits .and .i64 (K1 k) 7 = 4:=hq
        have HD:=Lib.hid (HDoS.out 4 hq (by decide))
        clear HDoS
        go_wp2_with fail
        refine HD.out.mono ?_
        rintro e w6 ⟨rfl,hl6,ho6⟩
        have HL6:=Lib.hid hl6
        have HE6:=Lib.hid (HE.out.keep ho6 (fun h=>h.2 (.inr rfl)))
        have HEJ6:=Lib.hid (HEJ5.out.keep ho6 (fun y hy h=>h.2 (.inl hy)))
        have HBn6:=Lib.hid (HBn5.out.trans (ho6.below hn5 fun y hy h=>by have:=h.1; omega))
        have HX6:=Lib.hid (HX4.out.go HBn6.out hn0)
        clear hl6 ho6 HD HLS HBn5 HB5 HEJ5 e0 e1 e2 e3 HE
        have k0:=HE6.out.cell 0 (.int .i64 (K1 k)) rfl
        have HM6:=Lib.hid (HM.out.rest (q:=4) (by decide) (I1 k) (R1 k) HTL.out HSum.out (fun h=>absurd h (by decide)))
        clear HM
        go_wp2
        go_roundw
        case rel=>exact ⟨k + 1,doEv 4 b (I1 k) (R1 k) (T1 k),L,hist,P,H,x,by go_num,rfl,by omega,HM6,HEJ6,ej_less HL6.out (fun y hy=>.inl hy),HBn6.out⟩
        case measure=>simp [intOf]; omega
    · as_aux_lemma =>
        have hq : bits .and .i64 (K1 k) 7 = 5:=hq
        have HD:=Lib.hid (HDoS.out 5 hq (by decide))
        clear HDoS
        go_wp2_with fail
        refine HD.out.mono ?_
        rintro e w6 ⟨rfl,hl6,ho6⟩
        have HL6:=Lib.hid hl6
        have HE6:=Lib.hid (HE.out.keep ho6 (fun h=>h.2 (.inr rfl)))
        have HEJ6:=Lib.hid (HEJ5.out.keep ho6 (fun y hy h=>h.2 (.inl hy)))
        have HBn6:=Lib.hid (HBn5.out.trans (ho6.below hn5 fun y hy h=>by have:=h.1; omega))
        have HX6:=Lib.hid (HX4.out.go HBn6.out hn0)
        clear hl6 ho6 HD HLS HBn5 HB5 HEJ5 e0 e1 e2 e3 HE
        have k0:=HE6.out.cell 0 (.int .i64 (K1 k)) rfl
        have HM6:=Lib.hid (HM.out.rest (q:=5) (by decide) (I1 k) (R1 k) HTL.out HSum.out (fun h=>absurd h (by decide)))
        clear HM
        go_wp2
        go_roundw
        case rel=>exact ⟨k + 1,doEv 5 b (I1 k) (R1 k) (T1 k),L,hist,P,H,x,by go_num,rfl,by omega,HM6,HEJ6,ej_less HL6.out (fun y hy=>.inl hy),HBn6.out⟩
        case measure=>simp [intOf]; omega
    · as_aux_lemma =>
        have hq : bits .and .i64 (K1 k) 7 = 6:=hq
        have HD:=Lib.hid (HDoS.out 6 hq (by decide))
        clear HDoS
        go_wp2_with fail
        refine HD.out.mono ?_
        rintro e w6 ⟨rfl,hl6,ho6⟩
        have HL6:=Lib.hid hl6
        have HE6:=Lib.hid (HE.out.keep ho6 (fun h=>h.2 (.inr rfl)))
        have HEJ6:=Lib.hid (HEJ5.out.keep ho6 (fun y hy h=>h.2 (.inl hy)))
        have HBn6:=Lib.hid (HBn5.out.trans (ho6.below hn5 fun y hy h=>by have:=h.1; omega))
        have HX6:=Lib.hid (HX4.out.go HBn6.out hn0)
        clear hl6 ho6 HD HLS HBn5 HB5 HEJ5 e0 e1 e2 e3 HE
        obtain ⟨ce,hce⟩ : ∃ ce : Nat,writeE b (I1 k) = ce:=⟨_,rfl⟩
        rw [show doEx 6 b (I1 k) (R1 k) = ce from hce]
        by_cases h0 : ce = 0
        rotate_left
        · have dce : ((ce : Int) != 0) = true:=by simp; omega
          have dce2 : ((ce : Int) == 0) = false:=by simp; omega
          have HM6:=Lib.hid (HM.out.rest (q:=6) (by decide) (I1 k) (R1 k) HTL.out HSum.out (fun h=>absurd h (by decide)))
          clear HM
          go_wp2
          go_roundw
          case rel=>exact ⟨k + 1,doEv 6 b (I1 k) (R1 k) (T1 k),L,hist,P,H,x,by go_num,rfl,by omega,HM6,HEJ6,ej_less HL6.out (fun y hy=>.inl hy),HBn6.out⟩
          case measure=>simp [intOf]; omega
        subst h0
        have k0:=HE6.out.cell 0 (.int .i64 (K1 k)) rfl
        have hce:=Lib.hid hce
        have HM6:=Lib.hid (HM.out.rest (q:=6) (by decide) (I1 k) (R1 k) HTL.out HSum.out (fun h=>absurd h (by decide)))
        clear HM
        go_wp2
        go_roundw
        case rel=>exact ⟨k + 1,doEv 6 b (I1 k) (R1 k) (T1 k),L,hist,P,H,x,by go_num,rfl,by omega,HM6,HEJ6,ej_less HL6.out (fun y hy=>.inl hy),HBn6.out⟩
        case measure=>simp [intOf]; omega
    · as_aux_lemma =>
        have hq : bits .and .i64 (K1 k) 7 = 7:=hq
        have HD:=Lib.hid (HDoS.out 7 hq (by decide))
        clear HDoS
        go_wp2_with fail
        refine HD.out.mono ?_
        rintro e w6 ⟨rfl,hl6,ho6⟩
        have HL6:=Lib.hid hl6
        have HE6:=Lib.hid (HE.out.keep ho6 (fun h=>h.2 (.inr rfl)))
        have HEJ6:=Lib.hid (HEJ5.out.keep ho6 (fun y hy h=>h.2 (.inl hy)))
        have HBn6:=Lib.hid (HBn5.out.trans (ho6.below hn5 fun y hy h=>by have:=h.1; omega))
        have HX6:=Lib.hid (HX4.out.go HBn6.out hn0)
        clear hl6 ho6 HD HLS HBn5 HB5 HEJ5 e0 e1 e2 e3 HE
        obtain ⟨ce,hce⟩ : ∃ ce : Nat,endE b (R1 k) = ce:=⟨_,rfl⟩
        rw [show doEx 7 b (I1 k) (R1 k) = ce from hce]
        by_cases h0 : ce = 0
        rotate_left
        · have dce : ((ce : Int) != 0) = true:=by simp; omega
          have dce2 : ((ce : Int) == 0) = false:=by simp; omega
          have HM6:=Lib.hid (HM.out.rest (q:=7) (by decide) (I1 k) (R1 k) HTL.out HSum.out (fun h=>absurd h (by decide)))
          clear HM
          go_wp2
          go_roundw
          case rel=>exact ⟨k + 1,doEv 7 b (I1 k) (R1 k) (T1 k),L,hist,P,H,x,by go_num,rfl,by omega,HM6,HEJ6,ej_less HL6.out (fun y hy=>.inl hy),HBn6.out⟩
          case measure=>simp [intOf]; omega
        subst h0
        have k0:=HE6.out.cell 0 (.int .i64 (K1 k)) rfl
        have hce:=Lib.hid hce
        have HM6:=Lib.hid (HM.out.rest (q:=7) (by decide) (I1 k) (R1 k) HTL.out HSum.out (fun h=>absurd h (by decide)))
        clear HM
        go_wp2
        go_roundw
        case rel=>exact ⟨k + 1,doEv 7 b (I1 k) (R1 k) (T1 k),L,hist,P,H,x,by go_num,rfl,by omega,HM6,HEJ6,ej_less HL6.out (fun y hy=>.inl hy),HBn6.out⟩
        case measure=>simp [intOf]; omega
theorem w_in : Tryz.checked.prog.inits.idxOf? 3 = none:=by kernel_rfl
theorem w_ok (os : Os) : Input.okWideB Tryz.prog ((World.doorLaid Tryz.prog 400 os).forCall (fun _ _=>0) ⟨#[],#[.agg #[.int .i64 0,.int .i64 0,.int .i64 0,.int .i64 0,.int .i64 0,.int .i64 0,.int .i64 0,.int .i64 0],.slice none 0 0],[]⟩) 3 ⟨#[],#[.agg #[.int .i64 0,.int .i64 0,.int .i64 0,.int .i64 0,.int .i64 0,.int .i64 0,.int .i64 0,.int .i64 0],.slice none 0 0],[]⟩ = true:=by kernel_rfl
theorem w_pre (os : Os) (H : Type) (enc : TypeId×Value→H) : Rows.brokerTilesSpec.preB enc Tryz.prog Tryz.f3 [] false ((World.doorLaid Tryz.prog 400 os).forCall (fun _ _=>0) ⟨#[],#[.agg #[.int .i64 0,.int .i64 0,.int .i64 0,.int .i64 0,.int .i64 0,.int .i64 0,.int .i64 0,.int .i64 0],.slice none 0 0],[]⟩).memory #[.agg #[.int .i64 0,.int .i64 0,.int .i64 0,.int .i64 0,.int .i64 0,.int .i64 0,.int .i64 0,.int .i64 0],.slice none 0 0] 8 = true:=by kernel_rfl
theorem w_sz (os : Os) (H : Type) (enc : TypeId×Value→H) : Rows.brokerTilesSpec.sizedB enc Tryz.prog Tryz.f3 false ((World.doorLaid Tryz.prog 400 os).forCall (fun _ _=>0) ⟨#[],#[.agg #[.int .i64 0,.int .i64 0,.int .i64 0,.int .i64 0,.int .i64 0,.int .i64 0,.int .i64 0,.int .i64 0],.slice none 0 0],[]⟩).memory #[.agg #[.int .i64 0,.int .i64 0,.int .i64 0,.int .i64 0,.int .i64 0,.int .i64 0,.int .i64 0,.int .i64 0],.slice none 0 0] 8 = true:=by kernel_rfl
set_option maxRecDepth 100000 in
theorem lifted (os : Os) (started : os.Started) (H : Type) (enc : TypeId×Value→H) :
    ReturnsInHanded {} Tryz.checked os 3 .any (fun w args=>(Rows.brokerTilesSpec.pre enc Tryz.prog Tryz.f3 [] false w args∧laidMetH Tryz.prog laidL w)∧sizedMet enc Tryz.prog Tryz.f3 (OpenSpec.ofChange Rows.brokerTilesSpec) false w args)
      (Rows.brokerTilesSpec.post enc Tryz.prog Tryz.f3 false true false false):=by
  refine returnsInHanded_of_change_and (C:=Tryz.checked) (X:=fun w _=>laidMetH Tryz.prog laidL w) (fun _ _ _ hh h=>h.of_heap hh) own started w_in Tryz.func3
    (ChangeSpec.witness_shaped (enc:=enc) (C:=Tryz.checked) (os:=os) (X:=fun w _=>laidMetH Tryz.prog laidL w) false (World.doorLaid Tryz.prog 400 os) #[.agg #[.int .i64 0,.int .i64 0,.int .i64 0,.int .i64 0,.int .i64 0,.int .i64 0,.int .i64 0,.int .i64 0],.slice none 0 0] 8 rfl (door_shaped os _) (w_ok os) (w_pre os H enc) (w_sz os H enc) (door_met os _)) ?_
  intro W base args ds gs before hval0 hW hcnd hsz0 hL _
  have hti:=ti_of hL
  have hval : ∀ (j : Nat) t v,Tryz.f3.params[j]? = some t→args[j]? = some v→Value.okWide Tryz.prog W .any base t v:=hval0
  have hW':=hW
  obtain ⟨p,q,hA0,hV,rfl,hfz,hnd⟩:=hW
  have hsz : (DataW.weightsEach Tryz.prog (Tryz.f3.params.toList ++ Rows.brokerTilesSpec.plain.varTypes Tryz.prog) (ds ++ gs)).all (·≤reachBytes) = true:=hsz0
  have hA : DataW.TrodAll enc Tryz.prog W 0 (fun _=>true) true Tryz.f3.params.toList args.toList ds p:=hA0
  rw [Tryz.params3] at hA hval hsz
  obtain ⟨v0,vs0,d0,ds0,p0,q0,hargs,rfl,rfl,h0,r0⟩:=trodAll_cons hA
  obtain ⟨v1,vs1,d1,ds1,p1,q1,rfl,rfl,rfl,h1,r1⟩:=trodAll_cons r0
  obtain ⟨rfl,rfl,rfl⟩:=trodAll_nil r1
  obtain rfl : args = #[v0,v1]:=by cases args; simp_all
  obtain ⟨rfl,rfl⟩:=trodVars_none hV
  have k0:=h0
  have lt0 : ∀ x∈p0,x.block < W.heap.size:=by obtain ⟨m,hm⟩:=k0; exact DataW.trod_lt m _ _ _ hm
  obtain ⟨ca0,cb0,cc0,cd0,ce0,cf0,cg0,ch0,rfl⟩:=open_conf (hval 0 23 v0 rfl rfl) h0
  obtain ⟨a1,len1,cap1,rfl⟩:=okWide_slice Tryz.underlying24 (hval 1 24 v1 rfl rfl)
  have k1:=h1
  have lt1 : ∀ x∈p1,x.block < W.heap.size:=by obtain ⟨m,hm⟩:=k1; exact DataW.trod_lt m _ _ _ hm
  obtain ⟨K1,I1,R1,A1,L1,C1,T1,w1,g1⟩ : ∃ K I R A L C T,Ievs W W.heap.size a1 len1 K I R A L C T∧len1≤cap1∧cap1≤maxLen:=by
    obtain ⟨fuel,hf⟩:=h1
    exact open_ievs hf (fits_of hsz (j:=1) rfl rfl)
  clear hA0 hval0 hsz hsz0
  refine (walk ca0 cb0 cc0 cd0 ce0 cf0 cg0 ch0 a1 len1 cap1 K1 I1 R1 A1 L1 C1 T1 W w1 g1 hti).mono fun e W' ⟨he,bel⟩=>?_
  subst he
  exact ⟨_,rfl,_,_,_,[],_,[],hW',trodAll_mk1 (shut_bool Tryz.underlying4 _),(trodAll_cons_mk (Below.trod laidOut (by kernel_rfl) (of_decide_eq_true (by kernel_rfl)) k0 bel lt0) (trodAll_cons_mk (Below.trod laidOut (by kernel_rfl) (of_decide_eq_true (by kernel_rfl)) k1 bel lt1) trodAll_mk0)),rfl,bel.frame _,fun h=>by cases h⟩
theorem q0 : (Rows.brokerTilesRow.wf (OpenSpec.ofChange Rows.brokerTilesSpec)) = true:=by kernel_rfl
theorem q3 : (Tryz.f3.params.all (Tryz.prog.readableRec ·)) = true:=by kernel_rfl
theorem q4 : (namedTie Tryz.prog Rows.brokerTilesRow.named Rows.brokerTilesSpec.vars) = true:=by kernel_rfl
theorem q5 : ((Rows.brokerTilesRow.stops == [])) = true:=by kernel_rfl
theorem q7 : ((Rows.brokerTilesRow.knobs == [])) = true:=by kernel_rfl
theorem q9 : ((Rows.brokerTilesRow.inPlace == Tryz.prog.inPlace 3)) = true:=by kernel_rfl
theorem q10 : ((Rows.brokerTilesRow.unfollowed == Tryz.prog.unfollowed 3)) = true:=by kernel_rfl
theorem q11 : ((Rows.brokerTilesRow.recurses == Tryz.prog.recurses 3)) = true:=by kernel_rfl
theorem q12 : ((Rows.brokerTilesRow.named == Tryz.prog.varsNamed 3)) = true:=by kernel_rfl
theorem q13 : ((Rows.brokerTilesRow.maps == (Tryz.f3.params.toList ++ Rows.brokerTilesSpec.plain.varTypes Tryz.prog).any (Tryz.prog.mapsRec ·))) = true:=by kernel_rfl
theorem q14 : ((Rows.brokerTilesRow.ifaces == (Tryz.f3.params.toList ++ Rows.brokerTilesSpec.plain.varTypes Tryz.prog).any (Tryz.prog.ifacesRec ·))) = true:=by kernel_rfl
theorem q15 : ((Rows.brokerTilesRow.mapsOut == Tryz.prog.mapsAmong Tryz.f3.resultTypes.toList)) = true:=by kernel_rfl
theorem q16 : ((Rows.brokerTilesRow.loops == (Tryz.f3.params.toList ++ Rows.brokerTilesSpec.plain.varTypes Tryz.prog).any (Tryz.prog.loopsFrom ·))) = true:=by kernel_rfl
theorem q17 : ((Rows.brokerTilesRow.wideKeys == (Tryz.f3.params.toList ++ Rows.brokerTilesSpec.plain.varTypes Tryz.prog ++ Tryz.f3.resultTypes.toList).any (Tryz.prog.wideKeysFrom ·))) = true:=by kernel_rfl
theorem q18 : (Rows.brokerTilesSpec.vars.all (Tryz.prog.varReadable ·)) = true:=by kernel_rfl
theorem q19 : (Tryz.f3.resultTypes.all (fun t=>Tryz.prog.readableRec t && decide (t < Tryz.prog.types.size))) = true:=by kernel_rfl
theorem q20 : ((Rows.brokerTilesRow.ifacesOut == Tryz.f3.resultTypes.toList.any (Tryz.prog.ifacesRec ·))) = true:=by kernel_rfl
theorem q21 : ((Rows.brokerTilesRow.loopsOut == Tryz.f3.resultTypes.toList.any (Tryz.prog.loopsFrom ·))) = true:=by kernel_rfl
theorem q22 : ((Rows.brokerTilesRow.plainKeys == Tryz.prog.plainKeys)) = true:=(show Rows.brokerTilesRow.plainKeys = Rows.brokerTilesRow.plainKeys from rfl) ▸ pq22
theorem q23 : (Rows.brokerTilesRow.shortTexts.isNone) = true:=by kernel_rfl
theorem q26 : ((Rows.brokerTilesRow.lifted == Tryz.prog.liftsFinal)) = true:=(show Rows.brokerTilesRow.lifted = Rows.brokerTilesRow.lifted from rfl) ▸ pq26
theorem q27 : ((Tryz.prog.make == some Rows.brokerTilesRow.make)) = true:=(show Rows.brokerTilesRow.make = Rows.brokerTilesRow.make from rfl) ▸ pq27
theorem q28 : kindsAre Tryz.prog Rows.brokerTilesRow Tryz.f3 = true:=by kernel_rfl
theorem q29 : ((Rows.brokerTilesRow.pinned == Rows.brokerTilesRow.pinnedBy)) = true:=by kernel_rfl
theorem q30 : ((Rows.brokerTilesRow.veiled == (Tryz.f3.params.toList ++ Rows.brokerTilesSpec.plain.varTypes Tryz.prog ++ Tryz.f3.resultTypes.toList).any (Tryz.prog.veiledRec ·))) = true:=by kernel_rfl
theorem q31 : (Rows.brokerTilesRow.veiledFits Tryz.prog Tryz.f3.params.toList (Tryz.f3.params.toList ++ Rows.brokerTilesSpec.plain.varTypes Tryz.prog ++ Tryz.f3.resultTypes.toList)) = true:=by kernel_rfl
theorem q_named : Tryz.prog.funcNamed Rows.brokerTilesRow.func = some 3:=by kernel_rfl
theorem q_inst : Tryz.f3.isInstance Tryz.prog Rows.brokerTilesRow.origin Rows.brokerTilesRow.targs:=of_decide_eq_true (by kernel_rfl)
theorem q_wrap : Tryz.f3.isWrapper Tryz.prog Rows.brokerTilesRow.wrapper Rows.brokerTilesRow.mainSum:=by unfold Func.isWrapper; first | (rw [if_pos (by decide +kernel)]; kernel_rfl) | (rw [if_neg (by decide +kernel)]; exact ⟨rfl,rfl⟩)
set_option maxRecDepth 100000 in
theorem q_all : joinedFacts Tryz.prog 3 Tryz.f3 Rows.brokerTilesSpec Rows.brokerTilesRow = true:=joined_of (P:=Tryz.prog) (f:=3) (fn:=Tryz.f3) (s:=Rows.brokerTilesSpec) (c:=Rows.brokerTilesRow) q0 pq1 pq2 q3 q4 q5 pq6 q7 pq8 q9 q10 q11 q12 q13 q14 q15 q16 q17 q18 q19 q20 q21 q22 q23 pq24 pq25 q26 q27 q28 q29 q30 q31
theorem over : Rows.BrokerTilesSaid:=
  OpenClaim.holds_of_wide 3 Tryz.f3 rfl rfl rfl rfl rfl rfl rfl ⟨rfl,rfl,rfl,rfl,rfl⟩ rfl rfl rfl rfl rfl q_named Tryz.func3 q_all q_inst q_wrap
    (fun os started H enc _=>lifted os started H enc)
theorem c_wf : Rows.brokerTilesRow.wfByText (OpenSpec.ofChange Rows.brokerTilesSpec) = true:=by kernel_rfl
theorem c_looks : true = Tryz.prog.looks []:=by kernel_rfl
theorem c_stand : ([23,24].all fun u=>!Tryz.prog.wantsStandIn u) = true:=by kernel_rfl
theorem c_goes : false = Rows.brokerTilesRow.goesBy Tryz.prog:=by kernel_rfl
end Go.Proofs.YthkbgopimgnbgaaGreatDoor.brokerTiles
namespace Go.Proofs.YthkbgopimgnbgaaGreatDoor
theorem brokerTiles_holds : Rows.BrokerTilesCardSaid:=
  Claim7.holds_tied_plain_at (c:=Rows.brokerTilesRow) .later [] _ true _ true
    brokerTiles.over (fun _ h=>by cases h) brokerTiles.c_wf (fun _ h=>by cases h) brokerTiles_row_tie rfl ⟨rfl,rfl⟩ main_is rfl
    (fun f fn hf hfn=>by
      obtain rfl : f = 3:=Option.some.inj (brokerTiles.q_named.symm.trans hf) |>.symm
      obtain rfl : fn = Tryz.f3:=(Option.some.inj (Tryz.func3.symm.trans hfn)).symm
      exact ⟨brokerTiles.c_looks,fun j t ht=>by
        rw [Tryz.params3] at ht
        have hm : t∈[23,24]:=by simpa using Array.mem_of_getElem? ht
        exact (show Tryz.prog.wantsStandIn t = false by simpa using List.all_eq_true.1 brokerTiles.c_stand t hm)⟩)
    brokerTiles.c_goes
#print axioms brokerTiles_holds
end Go.Proofs.YthkbgopimgnbgaaGreatDoor
