/- PlayTwice: for every input the law answers true, and its arguments read as before. Conditions: none. -/
import Derived.BigQuiet
import Derived.Test.YtdiolacpngbalaaGreatDoorZd09
import Derived.Test.YtdiolacpngbalaaGreatDoorZd29
import Derived.Test.YtdiolacpngbalaaGreatDoorZd30
import Derived.Test.YtdiolacpngbalaaGreatDoorZd44
import Derived.Test.YtdiolacpngbalaaGreatDoorZd45

namespace Go.Proofs.YtdiolacpngbalaaGreatDoor.playTwice
open Go.ChangeShapes Go.WideShapes Go.ChangeAt Go.RowKit
open Fr Bk
def inC (gm : Nat) (row : Array Value) (W : World) : Prop:=Bx gm W row
def Cs (l : List (Addr×Value)) (W : World) : Prop:=∀ p∈l,W.cell? p.1 = some p.2
theorem Cs.only {l : List (Addr×Value)} {w w' : World} {S : Nat→Prop} (h : Cs l w) (ho : Only S w w') (hs : ∀ p∈l,p.1.block < w.heap.size∧¬ S p.1.block) : Cs l w':=fun p hp=>(ho.cell (hs p hp).1 (hs p hp).2).trans (h p hp)
theorem otin_only {w w' : World} {B : Nat} {a : Option Addr} {L : List Ot} {S : Nat→Prop} (h : OtIn w B a L) (ho : Only S w w') (hB : B≤w.heap.size) (hS : ∀ p,a = some p→¬ S p.block) : OtIn w' B a L:=fun hn=>by
  obtain ⟨b,off,e,hlt,hc⟩:=h hn
  have hs : ¬ S b:=hS _ e
  exact ⟨b,off,e,hlt,fun r m hr=>⟨(ho.cell (p:=⟨b,off + r * 2,none⟩) (Nat.lt_of_lt_of_le hlt hB) hs).trans (hc r m hr).1,(ho.cell (p:=⟨b,off + r * 2 + 1,none⟩) (Nat.lt_of_lt_of_le hlt hB) hs).trans (hc r m hr).2⟩⟩
theorem otin_more {w : World} {B B' : Nat} {a : Option Addr} {L : List Ot} (h : OtIn w B a L) (hB : B≤B') : OtIn w B' a L:=fun hn=>by
  obtain ⟨b,off,e,hlt,hc⟩:=h hn
  exact ⟨b,off,e,Nat.lt_of_lt_of_le hlt hB,hc⟩
set_option maxRecDepth 100000 in
set_option maxHeartbeats 8000000 in
theorem walk (ca0 cb0 cc0 cd0 ce0 cf0 cg0 ch0 : Int) (a1 : Option Addr) (len1 cap1 : Nat) (T1 : List Sc.Ev) (a2 : Int) (w : World)  (w1 : EvIn w w.heap.size a1 T1) (g1 : T1.length = len1∧len1≤cap1∧cap1≤maxLen) (w2 : (Lit.int .i64 a2).wf = true) (ht : TI w) :
    Calls Tryz.prog 3 #[.agg (cv ca0 cb0 cc0 cd0 ce0 cf0 cg0 ch0),.slice a1 len1 cap1,.int .i64 a2] w fun e w'=>e = .returned (.bool true)∧Below w.heap.size w w':=by
  have HTI:=Lib.hid ht
  have HEV:=Lib.hid w1
  have hln : T1.length = len1:=g1.1
  have hlc : len1≤cap1:=g1.2.1
  have h63 : len1≤9223372036854775807:=by have:=g1.2.2; unfold maxLen at this; omega
  have _hw:=w2
  clear ht w1 g1 w2
  by_cases hrt : rt ca0 cb0 cc0 cd0 ce0 cf0 cg0 ch0 = true
  rotate_left
  · have hrt : rt ca0 cb0 cc0 cd0 ce0 cf0 cg0 ch0 = false:=by simpa using hrt
    unfold cv
    go_enter Tryz.func3,Tryz.ntmps3
    have hxm:=Bx.new w _ rfl #[.int .i64 ca0,.int .i64 cb0,.int .i64 cc0,.int .i64 cd0,.int .i64 ce0,.int .i64 cf0,.int .i64 cg0,.int .i64 ch0] 23
    have hba : Below w.heap.size w (w.alloc (.cells #[.int .i64 ca0,.int .i64 cb0,.int .i64 cc0,.int .i64 cd0,.int .i64 ce0,.int .i64 cf0,.int .i64 cg0,.int .i64 ch0] 23)):=(Below.refl _ _).alloc (Nat.le_refl _) _
    have hsz : w.heap.size < (w.alloc (.cells #[.int .i64 ca0,.int .i64 cb0,.int .i64 cc0,.int .i64 cd0,.int .i64 ce0,.int .i64 cf0,.int .i64 cg0,.int .i64 ch0] 23)).heap.size:=by simp
    go_wp2_with fail
    generalize w.alloc (.cells #[.int .i64 ca0,.int .i64 cb0,.int .i64 cc0,.int .i64 cd0,.int .i64 ce0,.int .i64 cf0,.int .i64 cg0,.int .i64 ch0] 23) = wa at *
    obtain ⟨gm,hgm⟩ : ∃ gm,w.heap.size = gm:=⟨_,rfl⟩
    rw [hgm] at hxm hba hsz
    have HG:=Lib.hid hgm
    have hTI:=HTI.out.below (hgm ▸ hba)
    have HE0:=Lib.hid (show EvIn w gm a1 T1 from hgm ▸ HEV.out)
    rw [hgm]
    clear hgm HEV
    refine (phead_any wa hTI).mono ?_
    rintro e w1 ⟨rfl,hb1⟩
    have HX1:=Lib.hid (hxm.go hb1 hsz)
    have HB1:=Lib.hid (Below.trans hba (hb1.mono (Nat.le_of_lt hsz)))
    have HT1:=Lib.hid (hTI.below hb1)
    have HS1:=Lib.hid (Nat.lt_of_lt_of_le hsz hb1.size)
    clear hxm hba hb1 hTI hsz
    have HF:=Lib.hid (few_any a1 len1 cap1 T1 w1 ((HE0.out.below HB1.out).more (Nat.le_of_lt HS1.out)) hln h63)
    go_wp2_with fail
    refine HF.out.mono ?_
    rintro e w2 ⟨f,rfl,hb2,hyes,_⟩
    have HX2:=Lib.hid (HX1.out.go hb2 HS1.out)
    have HB2:=Lib.hid (Below.trans HB1.out (hb2.mono (Nat.le_of_lt HS1.out)))
    have HT2:=Lib.hid (HT1.out.below hb2)
    have HS2:=Lib.hid (Nat.lt_of_lt_of_le HS1.out hb2.size)
    clear hb2 HX1 HB1 HT1 HS1 HF
    rcases f with _ | _
    · go_wp2
      go_ret
      exact ⟨rfl,by rw [HG.out]; exact HB2.out⟩
    have z0:=HX2.out.cell 0 (.int .i64 ca0) rfl
    have z1:=HX2.out.cell 1 (.int .i64 cb0) rfl
    have z2:=HX2.out.cell 2 (.int .i64 cc0) rfl
    have z3:=HX2.out.cell 3 (.int .i64 cd0) rfl
    have z4:=HX2.out.cell 4 (.int .i64 ce0) rfl
    have z5:=HX2.out.cell 5 (.int .i64 cf0) rfl
    have z6:=HX2.out.cell 6 (.int .i64 cg0) rfl
    have z7:=HX2.out.cell 7 (.int .i64 ch0) rfl
    go_wp2_with fail
    refine (lright_any ca0 cb0 cc0 cd0 ce0 cf0 cg0 ch0 w2).mono ?_
    rintro e w3 ⟨rfl,hb3⟩
    rw [hrt]
    have HB3:=Lib.hid (Below.trans HB2.out (hb3.mono (Nat.le_of_lt HS2.out)))
    go_wp2
    go_ret
    exact ⟨rfl,by rw [HG.out]; exact HB3.out⟩
  obtain ⟨cf,hcf,hev0,rfl,rfl,rfl,rfl,rfl,rfl,rfl,rfl⟩:=rt_cf hrt
  have HC:=Lib.hid hcf
  have HC0:=Lib.hid hev0
  clear hcf hev0
  unfold cv
  go_enter Tryz.func3,Tryz.ntmps3
  have hxm:=Bx.new w _ rfl #[.int .i64 (cf.log : Nat),.int .i64 (cf.data : Nat),.int .i64 (cf.queue : Nat),.int .i64 (cf.input : Nat),.int .i64 (cf.strikes : Nat),.int .i64 (cf.lease : Nat),.int .i64 (cf.idle : Nat),.int .i64 (cf.width : Nat)] 23
  have hba : Below w.heap.size w (w.alloc (.cells #[.int .i64 (cf.log : Nat),.int .i64 (cf.data : Nat),.int .i64 (cf.queue : Nat),.int .i64 (cf.input : Nat),.int .i64 (cf.strikes : Nat),.int .i64 (cf.lease : Nat),.int .i64 (cf.idle : Nat),.int .i64 (cf.width : Nat)] 23)):=(Below.refl _ _).alloc (Nat.le_refl _) _
  have hsz : w.heap.size < (w.alloc (.cells #[.int .i64 (cf.log : Nat),.int .i64 (cf.data : Nat),.int .i64 (cf.queue : Nat),.int .i64 (cf.input : Nat),.int .i64 (cf.strikes : Nat),.int .i64 (cf.lease : Nat),.int .i64 (cf.idle : Nat),.int .i64 (cf.width : Nat)] 23)).heap.size:=by simp
  go_wp2_with fail
  generalize w.alloc (.cells #[.int .i64 (cf.log : Nat),.int .i64 (cf.data : Nat),.int .i64 (cf.queue : Nat),.int .i64 (cf.input : Nat),.int .i64 (cf.strikes : Nat),.int .i64 (cf.lease : Nat),.int .i64 (cf.idle : Nat),.int .i64 (cf.width : Nat)] 23) = wa at *
  obtain ⟨gm,hgm⟩ : ∃ gm,w.heap.size = gm:=⟨_,rfl⟩
  rw [hgm] at hxm hba hsz
  have HG:=Lib.hid hgm
  have hTI:=HTI.out.below (hgm ▸ hba)
  have HE0:=Lib.hid (show EvIn w gm a1 T1 from hgm ▸ HEV.out)
  rw [hgm]
  clear hgm HEV
  refine (phead_any wa hTI).mono ?_
  rintro e w1 ⟨rfl,hb1⟩
  have HX1:=Lib.hid (hxm.go hb1 hsz)
  have HB1:=Lib.hid (Below.trans hba (hb1.mono (Nat.le_of_lt hsz)))
  have HT1:=Lib.hid (hTI.below hb1)
  have HS1:=Lib.hid (Nat.lt_of_lt_of_le hsz hb1.size)
  clear hxm hba hb1 hTI hsz
  have HF:=Lib.hid (few_any a1 len1 cap1 T1 w1 ((HE0.out.below HB1.out).more (Nat.le_of_lt HS1.out)) hln h63)
  go_wp2_with fail
  refine HF.out.mono ?_
  rintro e w2 ⟨f,rfl,hb2,hyes,_⟩
  have HX2:=Lib.hid (HX1.out.go hb2 HS1.out)
  have HB2:=Lib.hid (Below.trans HB1.out (hb2.mono (Nat.le_of_lt HS1.out)))
  have HT2:=Lib.hid (HT1.out.below hb2)
  have HS2:=Lib.hid (Nat.lt_of_lt_of_le HS1.out hb2.size)
  clear hb2 HX1 HB1 HT1 HS1 HF
  rcases f with _ | _
  · go_wp2
    go_ret
    exact ⟨rfl,by rw [HG.out]; exact HB2.out⟩
  have h120 : len1≤120:=by rw [← hln]; exact (hyes rfl).1
  have HTS:=Lib.hid (show tsum T1≤1000000 by have:=tsum_le T1; omega)
  have HLN:=Lib.hid hln
  clear hyes h63
  obtain ⟨k,hk0,hke⟩:=rest_any a2 ((len1 : Int) + 1) (by omega) (by omega)
  have hkl : k≤len1:=by omega
  have z0:=HX2.out.cell 0 (.int .i64 (cf.log : Nat)) rfl
  have z1:=HX2.out.cell 1 (.int .i64 (cf.data : Nat)) rfl
  have z2:=HX2.out.cell 2 (.int .i64 (cf.queue : Nat)) rfl
  have z3:=HX2.out.cell 3 (.int .i64 (cf.input : Nat)) rfl
  have z4:=HX2.out.cell 4 (.int .i64 (cf.strikes : Nat)) rfl
  have z5:=HX2.out.cell 5 (.int .i64 (cf.lease : Nat)) rfl
  have z6:=HX2.out.cell 6 (.int .i64 (cf.idle : Nat)) rfl
  have z7:=HX2.out.cell 7 (.int .i64 (cf.width : Nat)) rfl
  go_wp2_with fail
  refine (lright_any (cf.log : Nat) (cf.data : Nat) (cf.queue : Nat) (cf.input : Nat) (cf.strikes : Nat) (cf.lease : Nat) (cf.idle : Nat) (cf.width : Nat) w2).mono ?_
  rintro e w3 ⟨rfl,hb3⟩
  rw [hrt]
  have HX3:=Lib.hid (HX2.out.go hb3 HS2.out)
  have HB3:=Lib.hid (Below.trans HB2.out (hb3.mono (Nat.le_of_lt HS2.out)))
  have HT3:=Lib.hid (HT2.out.below hb3)
  have HS3:=Lib.hid (Nat.lt_of_lt_of_le HS2.out hb3.size)
  have HE3:=Lib.hid ((HE0.out.below HB3.out).more (Nat.le_of_lt HS3.out))
  clear hb3 HX2 HB2 HT2 HS2 z0 z1 z2 z3 z4 z5 z6 z7 hk0
  have z0:=HX3.out.cell 0 (.int .i64 (cf.log : Nat)) rfl
  have z1:=HX3.out.cell 1 (.int .i64 (cf.data : Nat)) rfl
  have z2:=HX3.out.cell 2 (.int .i64 (cf.queue : Nat)) rfl
  have z3:=HX3.out.cell 3 (.int .i64 (cf.input : Nat)) rfl
  have z4:=HX3.out.cell 4 (.int .i64 (cf.strikes : Nat)) rfl
  have z5:=HX3.out.cell 5 (.int .i64 (cf.lease : Nat)) rfl
  have z6:=HX3.out.cell 6 (.int .i64 (cf.idle : Nat)) rfl
  have z7:=HX3.out.cell 7 (.int .i64 (cf.width : Nat)) rfl
  have HEv:=Lib.hid (show Calls Tryz.prog 7 #[.agg #[.int .i64 (cf.log : Nat),.int .i64 (cf.data : Nat),.int .i64 (cf.queue : Nat),.int .i64 (cf.input : Nat),.int .i64 (cf.strikes : Nat),.int .i64 (cf.lease : Nat),.int .i64 (cf.idle : Nat),.int .i64 (cf.width : Nat)],.slice a1 len1 cap1] w3 (PGives cf T1 w3) from pevents_any HC.out HC0.out a1 len1 cap1 T1 w3 HT3.out HE3.out HLN.out (by omega) HTS.out)
  go_wp2_with fail
  refine HEv.out.mono ?_
  rintro r w4 ⟨ga,na,Aa,ca,rfl,_,_,hrow,_,hb4⟩
  rw [hln] at hrow ⊢
  obtain ⟨L,hL⟩ : ∃ L,pouts (bnew cf) T1 = L:=⟨_,rfl⟩
  rw [hL] at hrow
  have HL:=Lib.hid hL
  have HRa:=Lib.hid (show OtIn w4 w4.heap.size Aa L from hrow.otin)
  have HX4:=Lib.hid (HX3.out.go hb4 HS3.out)
  have HB4:=Lib.hid (Below.trans HB3.out (hb4.mono (Nat.le_of_lt HS3.out)))
  have HT4:=Lib.hid (HT3.out.below hb4)
  have HS4:=Lib.hid (Nat.lt_of_lt_of_le HS3.out hb4.size)
  have HE4:=Lib.hid ((HE0.out.below HB4.out).more (Nat.le_of_lt HS4.out))
  clear hrow hb4 HX3 HB3 HT3 HS3 HE3 HEv hL z0 z1 z2 z3 z4 z5 z6 z7
  have z0:=HX4.out.cell 0 (.int .i64 (cf.log : Nat)) rfl
  have z1:=HX4.out.cell 1 (.int .i64 (cf.data : Nat)) rfl
  have z2:=HX4.out.cell 2 (.int .i64 (cf.queue : Nat)) rfl
  have z3:=HX4.out.cell 3 (.int .i64 (cf.input : Nat)) rfl
  have z4:=HX4.out.cell 4 (.int .i64 (cf.strikes : Nat)) rfl
  have z5:=HX4.out.cell 5 (.int .i64 (cf.lease : Nat)) rfl
  have z6:=HX4.out.cell 6 (.int .i64 (cf.idle : Nat)) rfl
  have z7:=HX4.out.cell 7 (.int .i64 (cf.width : Nat)) rfl
  have HEv:=Lib.hid (show Calls Tryz.prog 7 #[.agg #[.int .i64 (cf.log : Nat),.int .i64 (cf.data : Nat),.int .i64 (cf.queue : Nat),.int .i64 (cf.input : Nat),.int .i64 (cf.strikes : Nat),.int .i64 (cf.lease : Nat),.int .i64 (cf.idle : Nat),.int .i64 (cf.width : Nat)],.slice a1 len1 cap1] w4 (PGives cf T1 w4) from pevents_any HC.out HC0.out a1 len1 cap1 T1 w4 HT4.out HE4.out HLN.out (by omega) HTS.out)
  go_wp2_with fail
  refine HEv.out.mono ?_
  rintro r w5 ⟨gb,nb,Ab,cb,rfl,_,_,hrow,_,hb5⟩
  rw [hln] at hrow ⊢
  rw [HL.out] at hrow
  have HRb:=Lib.hid (show OtIn w5 w5.heap.size Ab L from hrow.otin)
  have HRa5:=Lib.hid (otin_more (HRa.out.below hb5) hb5.size)
  have HX5:=Lib.hid (HX4.out.go hb5 HS4.out)
  have HB5:=Lib.hid (Below.trans HB4.out (hb5.mono (Nat.le_of_lt HS4.out)))
  have HT5:=Lib.hid (HT4.out.below hb5)
  have HS5:=Lib.hid (Nat.lt_of_lt_of_le HS4.out hb5.size)
  have HE5:=Lib.hid ((HE0.out.below HB5.out).more (Nat.le_of_lt HS5.out))
  clear hrow hb5 HX4 HB4 HT4 HS4 HE4 HEv HRa z0 z1 z2 z3 z4 z5 z6 z7
  have hmix : Tryz.prog.follows .mixedOrders = true:=by kernel_rfl
  have hS0 : inC gm #[.int .i64 (cf.log : Nat),.int .i64 (cf.data : Nat),.int .i64 (cf.queue : Nat),.int .i64 (cf.input : Nat),.int .i64 (cf.strikes : Nat),.int .i64 (cf.lease : Nat),.int .i64 (cf.idle : Nat),.int .i64 (cf.width : Nat)] w5.drew:=HX5.out.keep ((Only.refl (fun _=>False) w5).drew) (fun h=>h)
  have hEw:=(HE5.out.take k).below (below_drew (Below.refl w5.heap.size w5))
  have HEv:=Lib.hid (show Calls Tryz.prog 7 #[.agg #[.int .i64 (cf.log : Nat),.int .i64 (cf.data : Nat),.int .i64 (cf.queue : Nat),.int .i64 (cf.input : Nat),.int .i64 (cf.strikes : Nat),.int .i64 (cf.lease : Nat),.int .i64 (cf.idle : Nat),.int .i64 (cf.width : Nat)],.slice a1 k cap1] w5.drew (PGives cf (T1.take k) w5.drew) from pevents_any HC.out HC0.out a1 k cap1 (T1.take k) w5.drew (HT5.out.below (below_drew (Below.refl w5.heap.size w5))) hEw (by rw [List.length_take,HLN.out]; omega) (by omega) (Nat.le_trans (tsum_take T1 k) HTS.out))
  have hlk : (T1.take k).length = k:=by rw [List.length_take,HLN.out]; omega
  clear hEw
  go_wp2_with fail
  refine wp_region_held (S:=fun W=>inC gm #[.int .i64 (cf.log : Nat),.int .i64 (cf.data : Nat),.int .i64 (cf.queue : Nat),.int .i64 (cf.input : Nat),.int .i64 (cf.strikes : Nat),.int .i64 (cf.lease : Nat),.int .i64 (cf.idle : Nat),.int .i64 (cf.width : Nat)] W) hmix ?_
  change wpAnyH _ _ _ _ _ _ _ _ (World.drew _)
  refine wpAnyH_take (i:=0) (v:=.agg #[.int .i64 (cf.log : Nat),.int .i64 (cf.data : Nat),.int .i64 (cf.queue : Nat),.int .i64 (cf.input : Nat),.int .i64 (cf.strikes : Nat),.int .i64 (cf.lease : Nat),.int .i64 (cf.idle : Nat),.int .i64 (cf.width : Nat)]) rfl (by kernel_rfl) (by kernel_rfl) (by kernel_rfl) (fun _ _ _ h=>h) (.inl ⟨by kernel_rfl,fun W hW=>?_⟩) hS0 ?_
  · have c0:=Bx.cell hW 0 (.int .i64 (cf.log : Nat)) rfl; have c1:=Bx.cell hW 1 (.int .i64 (cf.data : Nat)) rfl; have c2:=Bx.cell hW 2 (.int .i64 (cf.queue : Nat)) rfl; have c3:=Bx.cell hW 3 (.int .i64 (cf.input : Nat)) rfl; have c4:=Bx.cell hW 4 (.int .i64 (cf.strikes : Nat)) rfl; have c5:=Bx.cell hW 5 (.int .i64 (cf.lease : Nat)) rfl; have c6:=Bx.cell hW 6 (.int .i64 (cf.idle : Nat)) rfl; have c7:=Bx.cell hW 7 (.int .i64 (cf.width : Nat)) rfl; go_simp; try (first | rfl | omega | (intro hh; exfalso; omega))
  refine wpAnyH_take (i:=1) (v:=.slice a1 len1 cap1) rfl (by kernel_rfl) (by kernel_rfl) (by kernel_rfl) (fun _ _ _ h=>h) (.inl ⟨by kernel_rfl,fun W hW=>?_⟩) hS0 ?_
  · go_simp; try (first | rfl | omega | (intro hh; exfalso; omega))
  refine wpAnyH_take (i:=2) (v:=.int .i64 (k : Nat)) rfl (by kernel_rfl) (by kernel_rfl) (by kernel_rfl) (fun _ _ _ h=>h) (.inl ⟨by kernel_rfl,fun W hW=>?_⟩) hS0 ?_
  · go_simp; try (first | rfl | omega | (intro hh; exfalso; omega))
  refine wpAnyH_take (i:=3) (v:=.slice a1 k cap1) rfl (by kernel_rfl) (by kernel_rfl) (by kernel_rfl) (fun _ _ _ h=>h) (.inl ⟨by kernel_rfl,fun W hW=>?_⟩) hS0 ?_
  · go_simp; try (first | rfl | omega | (intro hh; exfalso; omega))
  refine wpAnyH_all (rs:=[4]) (by kernel_rfl) (by simp) ?_
  intro z hz
  rw [List.mem_singleton.1 hz]
  clear hz
  unfold wpOp
  go_simp
  refine .inl ?_
  refine HEv.out.mono ?_
  rintro r w6 ⟨g,n0,Ap,cp,rfl,hn0,hls,hrow,hag,hb6⟩
  have hS1 : inC gm #[.int .i64 (cf.log : Nat),.int .i64 (cf.data : Nat),.int .i64 (cf.queue : Nat),.int .i64 (cf.input : Nat),.int .i64 (cf.strikes : Nat),.int .i64 (cf.lease : Nat),.int .i64 (cf.idle : Nat),.int .i64 (cf.width : Nat)] w6:=Bx.go hS0 hb6 (Bx.room hS0)
  rw [hlk] at hrow ⊢
  refine ⟨hS1,?_⟩
  refine wpAnyH_take (i:=5) (v:=.tuple #[.pointer (some (at0 g)),.slice Ap k cp]) rfl (by kernel_rfl) (by kernel_rfl) (by kernel_rfl) (fun _ _ _ h=>h) (.inl ⟨by kernel_rfl,fun W hW=>?_⟩) hS1 ?_
  · go_simp; try (first | rfl | omega | (intro hh; exfalso; omega))
  refine wpAnyH_take (i:=6) (v:=.pointer (some (at0 g))) rfl (by kernel_rfl) (by kernel_rfl) (by kernel_rfl) (fun _ _ _ h=>h) (.inl ⟨by kernel_rfl,fun W hW=>?_⟩) hS1 ?_
  · go_simp; try (first | rfl | omega | (intro hh; exfalso; omega))
  refine wpAnyH_take (i:=7) (v:=.slice Ap k cp) rfl (by kernel_rfl) (by kernel_rfl) (by kernel_rfl) (fun _ _ _ h=>h) (.inl ⟨by kernel_rfl,fun W hW=>?_⟩) hS1 ?_
  · go_simp; try (first | rfl | omega | (intro hh; exfalso; omega))
  refine wpAnyH_take (i:=8) (v:=.pointer (some (at0 g))) rfl (by kernel_rfl) (by kernel_rfl) (by kernel_rfl) (fun _ _ _ h=>h) (.inl ⟨by kernel_rfl,fun W hW=>?_⟩) hS1 ?_
  · go_simp; try (first | rfl | omega | (intro hh; exfalso; omega))
  refine wpAnyH_take (i:=9) (v:=.slice Ap k cp) rfl (by kernel_rfl) (by kernel_rfl) (by kernel_rfl) (fun _ _ _ h=>h) (.inl ⟨by kernel_rfl,fun W hW=>?_⟩) hS1 ?_
  · go_simp; try (first | rfl | omega | (intro hh; exfalso; omega))
  refine wpAnyH_done (by kernel_rfl) ?_ _
  go_simp
  have HLs:=Lib.hid hls
  obtain ⟨Lp,hLp⟩ : ∃ Lp,pouts (bnew cf) (T1.take k) = Lp:=⟨_,rfl⟩
  rw [hLp] at hrow
  have HLp:=Lib.hid hLp
  have HRp:=Lib.hid hrow
  have hd5 : Below w5.heap.size w5 w5.drew:=below_drew (Below.refl w5.heap.size w5)
  have hb56 : Below w5.heap.size w5 w6:=hd5.trans hb6
  have HRa6:=Lib.hid (HRa5.out.below hb56)
  have HRb6:=Lib.hid (HRb.out.below hb56)
  have HB6:=Lib.hid (HB5.out.trans (hb56.mono (Nat.le_of_lt HS5.out)))
  have hn05 : w5.heap.size≤n0:=hn0
  have hgm5 : gm < w5.heap.size:=HS5.out
  have HAg:=Lib.hid hag
  clear hls hrow hag hb6 hb56 hd5 hLp hn0 hS0 hS1 HEv HX5 HB5 HT5 HS5 HE5 HRa5 HRb
  have HLL:=Lib.hid (show L.length = len1 by rw [← HL.out,pouts_len,HLN.out])
  have HLPL:=Lib.hid (show Lp.length = k by rw [← HLp.out,pouts_len,hlk])
  go_wp2_with fail
  go_loopw [77] (fun s77 wr=>∃ i : Nat,s77 = .int .i64 (i : Nat)∧i≤len1∧LS n0 (In Ap) g wr (prun (bnew cf) (T1.take (max k i)))∧OtIn wr w5.heap.size Aa L∧OtIn wr w5.heap.size Ab L∧OtIn wr w6.heap.size Ap Lp∧w6.heap.size≤wr.heap.size∧Below gm w wr) (fun s _=>len1 - (intOf s).toNat)
  case atStart=>exact ⟨0,rfl,Nat.zero_le _,by rw [show max k 0 = k by omega]; exact HLs.out,HRa6.out,HRb6.out,HRp.out.otin,Nat.le_refl _,HB6.out⟩
  case round =>
    obtain ⟨i,rfl,hi,hls,hra,hrb,hrp,hz6,hb⟩:=hrel
    have HLr:=Lib.hid hls
    have HRa:=Lib.hid hra
    have HRb:=Lib.hid hrb
    have HRq:=Lib.hid hrp
    have HB:=Lib.hid hb
    have hap:=fun p (hp : Ap = some p)=>HRp.out.lt hp
    have HApS:=Lib.hid hap
    clear hls hra hrb hrp hb HLs HRa6 HRb6 HB6 hap
    by_cases hil : i < len1
    rotate_left
    · obtain rfl : i = len1:=by omega
      have dk : decide ((i : Int) < (i : Int)) = false:=by simp
      clear HLr HRa HRb HRq
      go_wp2
      go_ret
      exact ⟨rfl,by rw [HG.out]; exact HB.out⟩
    have dk : decide ((i : Int) < (len1 : Int)) = true:=decide_eq_true (by omega)
    obtain ⟨e,he⟩ : ∃ e,T1[i]? = some e:=⟨_,List.getElem?_eq_getElem (by rw [HLN.out]; exact hil)⟩
    obtain ⟨o,ho⟩ : ∃ o : Ot,(⟨pE (prun (bnew cf) (T1.take i)) e,pT (prun (bnew cf) (T1.take i)) e⟩ : Ot) = o:=⟨_,rfl⟩
    have hLo : L[i]? = some o:=by rw [← HL.out,← ho]; exact pouts_get T1 _ i e he
    have hLp : i < k→Lp[i]? = some o:=fun h=>by
      rw [← HLp.out,← ho]
      have:=pouts_get (T1.take k) (bnew cf) i e (by rw [List.getElem?_take,if_pos h]; exact he)
      rw [List.take_take,show min i k = i by omega] at this
      exact this
    have hfr:=HRa.out
    obtain ⟨ba,oa,rfl,hlta,hca⟩:=hfr (by rw [HLL.out]; omega)
    obtain ⟨a0,a1c⟩:=hca i o hLo
    have hfr:=HRb.out
    obtain ⟨bb,ob,rfl,hltb,hcb⟩:=hfr (by rw [HLL.out]; omega)
    obtain ⟨b0,b1c⟩:=hcb i o hLo
    have hsz5 : w5.heap.size≤wr.heap.size:=by have:=HLr.out.lt.1; have:=HLr.out.lt.2; omega
    clear hfr hca hcb
    by_cases hik : i < k
    · have hLpi:=hLp hik
      have hfr:=HRq.out
      obtain ⟨bp,op,rfl,hltp,hcp⟩:=hfr (by rw [HLPL.out]; omega)
      obtain ⟨p0,p1c⟩:=hcp i o hLpi
      obtain ⟨cl,hcl⟩ : ∃ cl : List (Addr×Value),[(⟨ba,oa + i * 2,none⟩,.int .i64 (o.e : Nat)),(⟨ba,oa + i * 2 + 1,none⟩,.string (str o.t)),(⟨bb,ob + i * 2,none⟩,.int .i64 (o.e : Nat)),(⟨bb,ob + i * 2 + 1,none⟩,.string (str o.t)),(⟨bp,op + i * 2,none⟩,.int .i64 (o.e : Nat)),(⟨bp,op + i * 2 + 1,none⟩,.string (str o.t))] = cl:=⟨_,rfl⟩
      have hS0 : Cs cl wr.drew:=by
        rw [← hcl]
        intro p hp
        simp only [List.mem_cons,List.not_mem_nil,or_false] at hp
        rcases hp with rfl | rfl | rfl | rfl | rfl | rfl
        · exact a0
        · exact a1c
        · exact b0
        · exact b1c
        · exact p0
        · exact p1c
      have HGet:=Lib.hid (show ∀ W,Cs cl W→(W.cell? ⟨ba,oa + i * 2,none⟩ = some (.int .i64 (o.e : Nat))∧W.cell? ⟨ba,oa + i * 2 + 1,none⟩ = some (.string (str o.t)))∧(W.cell? ⟨bb,ob + i * 2,none⟩ = some (.int .i64 (o.e : Nat))∧W.cell? ⟨bb,ob + i * 2 + 1,none⟩ = some (.string (str o.t)))∧W.cell? ⟨bp,op + i * 2,none⟩ = some (.int .i64 (o.e : Nat))∧W.cell? ⟨bp,op + i * 2 + 1,none⟩ = some (.string (str o.t)) from fun W h=>by
        rw [← hcl] at h
        exact ⟨⟨h _ (.head _),h _ (.tail _ (.head _))⟩,⟨h _ (.tail _ (.tail _ (.head _))),h _ (.tail _ (.tail _ (.tail _ (.head _))))⟩,h _ (.tail _ (.tail _ (.tail _ (.tail _ (.head _))))),h _ (.tail _ (.tail _ (.tail _ (.tail _ (.tail _ (.head _))))))⟩)
      have d1 : decide ((i : Int) < (k : Int)) = true:=decide_eq_true (by omega)
      have d2 : decide ((i : Int) ≥ (k : Int)) = false:=decide_eq_false (by show ¬ ((k : Int)≤i); omega)
      have d3 : decide ((k : Int)≤(i : Int)) = false:=decide_eq_false (by omega)
      have hLn:=HLr.out
      rw [show max k i = max k (i + 1) by omega] at hLn
      have HLn:=Lib.hid hLn
      have HRq2:=HRq
      clear a0 a1c b0 b1c p0 p1c hcp hfr hcl he ho hLo hLp hLpi hLn
      go_wp2_with fail
      refine wp_region_held (S:=fun W=>Cs cl W) hmix ?_
      change wpAnyH _ _ _ _ _ _ _ _ (World.drew _)
      refine wpAnyH_take (i:=0) (v:=.slice (some ⟨ba,oa,none⟩) len1 ca) rfl (by kernel_rfl) (by kernel_rfl) (by kernel_rfl) (fun _ _ _ h=>h) (.inl ⟨by kernel_rfl,fun W hW=>?_⟩) hS0 ?_
      · go_simp; try (first | rfl | omega | (intro hh; exfalso; omega))
      refine wpAnyH_take (i:=1) (v:=.int .i64 (i : Nat)) rfl (by kernel_rfl) (by kernel_rfl) (by kernel_rfl) (fun _ _ _ h=>h) (.inl ⟨by kernel_rfl,fun W hW=>?_⟩) hS0 ?_
      · go_simp; try (first | rfl | omega | (intro hh; exfalso; omega))
      refine wpAnyH_take (i:=2) (v:=.pointer (some ⟨ba,oa + i * 2,none⟩)) rfl (by kernel_rfl) (by kernel_rfl) (by kernel_rfl) (fun _ _ _ h=>h) (.inl ⟨by kernel_rfl,fun W hW=>?_⟩) hS0 ?_
      · go_simp; try (first | rfl | omega | (intro hh; exfalso; omega))
      refine wpAnyH_take (i:=3) (v:=.agg #[.int .i64 (o.e : Nat),.string (str o.t)]) rfl (by kernel_rfl) (by kernel_rfl) (by kernel_rfl) (fun _ _ _ h=>h) (.inl ⟨by kernel_rfl,fun W hW=>?_⟩) hS0 ?_
      · have hg:=HGet.out W hW; have l0:=hg.1.1; have l1:=hg.1.2; go_simp; try (first | rfl | omega | (intro hh; exfalso; omega))
      refine wpAnyH_take (i:=4) (v:=.slice (some ⟨bb,ob,none⟩) len1 cb) rfl (by kernel_rfl) (by kernel_rfl) (by kernel_rfl) (fun _ _ _ h=>h) (.inl ⟨by kernel_rfl,fun W hW=>?_⟩) hS0 ?_
      · go_simp; try (first | rfl | omega | (intro hh; exfalso; omega))
      refine wpAnyH_take (i:=5) (v:=.int .i64 (i : Nat)) rfl (by kernel_rfl) (by kernel_rfl) (by kernel_rfl) (fun _ _ _ h=>h) (.inl ⟨by kernel_rfl,fun W hW=>?_⟩) hS0 ?_
      · go_simp; try (first | rfl | omega | (intro hh; exfalso; omega))
      refine wpAnyH_take (i:=6) (v:=.pointer (some ⟨bb,ob + i * 2,none⟩)) rfl (by kernel_rfl) (by kernel_rfl) (by kernel_rfl) (fun _ _ _ h=>h) (.inl ⟨by kernel_rfl,fun W hW=>?_⟩) hS0 ?_
      · go_simp; try (first | rfl | omega | (intro hh; exfalso; omega))
      refine wpAnyH_take (i:=7) (v:=.agg #[.int .i64 (o.e : Nat),.string (str o.t)]) rfl (by kernel_rfl) (by kernel_rfl) (by kernel_rfl) (fun _ _ _ h=>h) (.inl ⟨by kernel_rfl,fun W hW=>?_⟩) hS0 ?_
      · have hg:=HGet.out W hW; have l0:=hg.2.1.1; have l1:=hg.2.1.2; go_simp; try (first | rfl | omega | (intro hh; exfalso; omega))
      refine wpAnyH_take (i:=8) (v:=.bool false) rfl (by kernel_rfl) (by kernel_rfl) (by kernel_rfl) (fun _ _ _ h=>h) (.inl ⟨by kernel_rfl,fun W hW=>?_⟩) hS0 ?_
      · go_simp; try (first | rfl | omega | (intro hh; exfalso; omega))
      refine wpAnyH_take (i:=9) (v:=.bool false) rfl (by kernel_rfl) (by kernel_rfl) (by kernel_rfl) (fun _ _ _ h=>h) (.inl ⟨by kernel_rfl,fun W hW=>?_⟩) hS0 ?_
      · go_simp; try (first | rfl | omega | (intro hh; exfalso; omega))
      refine wpAnyH_take (i:=10) (v:=.int .i64 (i : Nat)) rfl (by kernel_rfl) (by kernel_rfl) (by kernel_rfl) (fun _ _ _ h=>h) (.inl ⟨by kernel_rfl,fun W hW=>?_⟩) hS0 ?_
      · go_simp; try (first | rfl | omega | (intro hh; exfalso; omega))
      refine wpAnyH_take (i:=11) (v:=.int .i64 (k : Nat)) rfl (by kernel_rfl) (by kernel_rfl) (by kernel_rfl) (fun _ _ _ h=>h) (.inl ⟨by kernel_rfl,fun W hW=>?_⟩) hS0 ?_
      · go_simp; try (first | rfl | omega | (intro hh; exfalso; omega))
      refine wpAnyH_take (i:=12) (v:=.bool true) rfl (by kernel_rfl) (by kernel_rfl) (by kernel_rfl) (fun _ _ _ h=>h) (.inl ⟨by kernel_rfl,fun W hW=>?_⟩) hS0 ?_
      · go_simp; try (first | rfl | omega | (intro hh; exfalso; omega))
      refine wpAnyH_take (i:=13) (v:=.bool true) rfl (by kernel_rfl) (by kernel_rfl) (by kernel_rfl) (fun _ _ _ h=>h) (.inl ⟨by kernel_rfl,fun W hW=>?_⟩) hS0 ?_
      · go_simp; try (first | rfl | omega | (intro hh; exfalso; omega))
      refine wpAnyH_take (i:=14) (v:=.slice (some ⟨bp,op,none⟩) k cp) rfl (by kernel_rfl) (by kernel_rfl) (by kernel_rfl) (fun _ _ _ h=>h) (.inl ⟨by kernel_rfl,fun W hW=>?_⟩) hS0 ?_
      · go_simp; try (first | rfl | omega | (intro hh; exfalso; omega))
      refine wpAnyH_take (i:=15) (v:=.int .i64 (i : Nat)) rfl (by kernel_rfl) (by kernel_rfl) (by kernel_rfl) (fun _ _ _ h=>h) (.inl ⟨by kernel_rfl,fun W hW=>?_⟩) hS0 ?_
      · go_simp; try (first | rfl | omega | (intro hh; exfalso; omega))
      refine wpAnyH_take (i:=16) (v:=.pointer (some ⟨bp,op + i * 2,none⟩)) rfl (by kernel_rfl) (by kernel_rfl) (by kernel_rfl) (fun _ _ _ h=>h) (.inl ⟨by kernel_rfl,fun W hW=>?_⟩) hS0 ?_
      · go_simp; try (first | rfl | omega | (intro hh; exfalso; omega))
      refine wpAnyH_take (i:=17) (v:=.agg #[.int .i64 (o.e : Nat),.string (str o.t)]) rfl (by kernel_rfl) (by kernel_rfl) (by kernel_rfl) (fun _ _ _ h=>h) (.inl ⟨by kernel_rfl,fun W hW=>?_⟩) hS0 ?_
      · have hg:=HGet.out W hW; have l0:=hg.2.2.1; have l1:=hg.2.2.2; go_simp; try (first | rfl | omega | (intro hh; exfalso; omega))
      refine wpAnyH_take (i:=18) (v:=.slice (some ⟨ba,oa,none⟩) len1 ca) rfl (by kernel_rfl) (by kernel_rfl) (by kernel_rfl) (fun _ _ _ h=>h) (.inl ⟨by kernel_rfl,fun W hW=>?_⟩) hS0 ?_
      · go_simp; try (first | rfl | omega | (intro hh; exfalso; omega))
      refine wpAnyH_take (i:=19) (v:=.int .i64 (i : Nat)) rfl (by kernel_rfl) (by kernel_rfl) (by kernel_rfl) (fun _ _ _ h=>h) (.inl ⟨by kernel_rfl,fun W hW=>?_⟩) hS0 ?_
      · go_simp; try (first | rfl | omega | (intro hh; exfalso; omega))
      refine wpAnyH_take (i:=20) (v:=.pointer (some ⟨ba,oa + i * 2,none⟩)) rfl (by kernel_rfl) (by kernel_rfl) (by kernel_rfl) (fun _ _ _ h=>h) (.inl ⟨by kernel_rfl,fun W hW=>?_⟩) hS0 ?_
      · go_simp; try (first | rfl | omega | (intro hh; exfalso; omega))
      refine wpAnyH_take (i:=21) (v:=.agg #[.int .i64 (o.e : Nat),.string (str o.t)]) rfl (by kernel_rfl) (by kernel_rfl) (by kernel_rfl) (fun _ _ _ h=>h) (.inl ⟨by kernel_rfl,fun W hW=>?_⟩) hS0 ?_
      · have hg:=HGet.out W hW; have l0:=hg.1.1; have l1:=hg.1.2; go_simp; try (first | rfl | omega | (intro hh; exfalso; omega))
      refine wpAnyH_take (i:=22) (v:=.bool false) rfl (by kernel_rfl) (by kernel_rfl) (by kernel_rfl) (fun _ _ _ h=>h) (.inl ⟨by kernel_rfl,fun W hW=>?_⟩) hS0 ?_
      · go_simp; try (first | rfl | omega | (intro hh; exfalso; omega))
      refine wpAnyH_take (i:=23) (v:=.bool false) rfl (by kernel_rfl) (by kernel_rfl) (by kernel_rfl) (fun _ _ _ h=>h) (.inl ⟨by kernel_rfl,fun W hW=>?_⟩) hS0 ?_
      · go_simp; try (first | rfl | omega | (intro hh; exfalso; omega))
      refine wpAnyH_take (i:=24) (v:=.bool false) rfl (by kernel_rfl) (by kernel_rfl) (by kernel_rfl) (fun _ _ _ h=>h) (.inl ⟨by kernel_rfl,fun W hW=>?_⟩) hS0 ?_
      · go_simp; try (first | rfl | omega | (intro hh; exfalso; omega))
      refine wpAnyH_take (i:=25) (v:=.bool false) rfl (by kernel_rfl) (by kernel_rfl) (by kernel_rfl) (fun _ _ _ h=>h) (.inl ⟨by kernel_rfl,fun W hW=>?_⟩) hS0 ?_
      · go_simp; try (first | rfl | omega | (intro hh; exfalso; omega))
      refine wpAnyH_take (i:=26) (v:=.int .i64 (i : Nat)) rfl (by kernel_rfl) (by kernel_rfl) (by kernel_rfl) (fun _ _ _ h=>h) (.inl ⟨by kernel_rfl,fun W hW=>?_⟩) hS0 ?_
      · go_simp; try (first | rfl | omega | (intro hh; exfalso; omega))
      refine wpAnyH_take (i:=27) (v:=.int .i64 (k : Nat)) rfl (by kernel_rfl) (by kernel_rfl) (by kernel_rfl) (fun _ _ _ h=>h) (.inl ⟨by kernel_rfl,fun W hW=>?_⟩) hS0 ?_
      · go_simp; try (first | rfl | omega | (intro hh; exfalso; omega))
      refine wpAnyH_take (i:=28) (v:=.bool false) rfl (by kernel_rfl) (by kernel_rfl) (by kernel_rfl) (fun _ _ _ h=>h) (.inl ⟨by kernel_rfl,fun W hW=>?_⟩) hS0 ?_
      · go_simp; try (first | rfl | omega | (intro hh; exfalso; omega))
      refine wpAnyH_take (i:=29) (v:=.bool false) rfl (by kernel_rfl) (by kernel_rfl) (by kernel_rfl) (fun _ _ _ h=>h) (.inl ⟨by kernel_rfl,fun W hW=>?_⟩) hS0 ?_
      · go_simp; try (first | rfl | omega | (intro hh; exfalso; omega))
      refine wpAnyH_take (i:=30) (v:=undef) rfl (by kernel_rfl) (by kernel_rfl) (by kernel_rfl) (fun _ _ _ h=>h) (.inr ⟨by kernel_rfl,rfl⟩) hS0 ?_
      refine wpAnyH_take (i:=31) (v:=undef) rfl (by kernel_rfl) (by kernel_rfl) (by kernel_rfl) (fun _ _ _ h=>h) (.inr ⟨by kernel_rfl,rfl⟩) hS0 ?_
      refine wpAnyH_take (i:=32) (v:=undef) rfl (by kernel_rfl) (by kernel_rfl) (by kernel_rfl) (fun _ _ _ h=>h) (.inr ⟨by kernel_rfl,rfl⟩) hS0 ?_
      refine wpAnyH_take (i:=33) (v:=undef) rfl (by kernel_rfl) (by kernel_rfl) (by kernel_rfl) (fun _ _ _ h=>h) (.inr ⟨by kernel_rfl,rfl⟩) hS0 ?_
      refine wpAnyH_take (i:=34) (v:=undef) rfl (by kernel_rfl) (by kernel_rfl) (by kernel_rfl) (fun _ _ _ h=>h) (.inr ⟨by kernel_rfl,rfl⟩) hS0 ?_
      refine wpAnyH_take (i:=35) (v:=undef) rfl (by kernel_rfl) (by kernel_rfl) (by kernel_rfl) (fun _ _ _ h=>h) (.inr ⟨by kernel_rfl,rfl⟩) hS0 ?_
      refine wpAnyH_take (i:=36) (v:=undef) rfl (by kernel_rfl) (by kernel_rfl) (by kernel_rfl) (fun _ _ _ h=>h) (.inr ⟨by kernel_rfl,rfl⟩) hS0 ?_
      refine wpAnyH_take (i:=37) (v:=undef) rfl (by kernel_rfl) (by kernel_rfl) (by kernel_rfl) (fun _ _ _ h=>h) (.inr ⟨by kernel_rfl,rfl⟩) hS0 ?_
      refine wpAnyH_take (i:=38) (v:=undef) rfl (by kernel_rfl) (by kernel_rfl) (by kernel_rfl) (fun _ _ _ h=>h) (.inr ⟨by kernel_rfl,rfl⟩) hS0 ?_
      refine wpAnyH_take (i:=39) (v:=undef) rfl (by kernel_rfl) (by kernel_rfl) (by kernel_rfl) (fun _ _ _ h=>h) (.inr ⟨by kernel_rfl,rfl⟩) hS0 ?_
      refine wpAnyH_take (i:=40) (v:=undef) rfl (by kernel_rfl) (by kernel_rfl) (by kernel_rfl) (fun _ _ _ h=>h) (.inr ⟨by kernel_rfl,rfl⟩) hS0 ?_
      refine wpAnyH_take (i:=41) (v:=.bool false) rfl (by kernel_rfl) (by kernel_rfl) (by kernel_rfl) (fun _ _ _ h=>h) (.inl ⟨by kernel_rfl,fun W hW=>?_⟩) hS0 ?_
      · go_simp; try (first | rfl | omega | (intro hh; exfalso; omega))
      refine wpAnyH_take (i:=42) (v:=.bool false) rfl (by kernel_rfl) (by kernel_rfl) (by kernel_rfl) (fun _ _ _ h=>h) (.inl ⟨by kernel_rfl,fun W hW=>?_⟩) hS0 ?_
      · go_simp; try (first | rfl | omega | (intro hh; exfalso; omega))
      refine wpAnyH_done (by kernel_rfl) ?_ _
      go_simp
      go_wp2
      go_roundw
      case rel=>exact ⟨i + 1,by go_num,by omega,HLn.out.quiet ((Only.refl Nay _).drew),fun h=>(HRa.out h),fun h=>(HRb.out h),fun h=>(HRq.out h),hz6,below_drew HB.out⟩
      case measure=>simp [intOf]; omega
    obtain ⟨bl,ol,rfl,hltl,hcl2⟩:=(HE0.out.below HB.out).outer (by rw [HLN.out]; omega)
    obtain ⟨v0,v1,v2,v3⟩:=hcl2 i e he
    obtain ⟨cl,hcl⟩ : ∃ cl : List (Addr×Value),[(⟨ba,oa + i * 2,none⟩,.int .i64 (o.e : Nat)),(⟨ba,oa + i * 2 + 1,none⟩,.string (str o.t)),(⟨bb,ob + i * 2,none⟩,.int .i64 (o.e : Nat)),(⟨bb,ob + i * 2 + 1,none⟩,.string (str o.t)),(⟨bl,ol + i * 4,none⟩,.int .i64 e.k),(⟨bl,ol + i * 4 + 1,none⟩,.int .i64 e.i),(⟨bl,ol + i * 4 + 2,none⟩,.int .i64 e.n),(⟨bl,ol + i * 4 + 3,none⟩,.string (str e.t))] = cl:=⟨_,rfl⟩
    have hS0 : Cs cl wr.drew:=by
      rw [← hcl]
      intro p hp
      simp only [List.mem_cons,List.not_mem_nil,or_false] at hp
      rcases hp with rfl | rfl | rfl | rfl | rfl | rfl | rfl | rfl
      · exact a0
      · exact a1c
      · exact b0
      · exact b1c
      · exact v0
      · exact v1
      · exact v2
      · exact v3
    have HOld:=Lib.hid (show ∀ p∈cl,p.1.block < n0 from fun p hp=>by
      rw [← hcl] at hp
      simp only [List.mem_cons,List.not_mem_nil,or_false] at hp
      rcases hp with rfl | rfl | rfl | rfl | rfl | rfl | rfl | rfl <;> (dsimp only; omega))
    have HGet:=Lib.hid (show ∀ W,Cs cl W→(W.cell? ⟨ba,oa + i * 2,none⟩ = some (.int .i64 (o.e : Nat))∧W.cell? ⟨ba,oa + i * 2 + 1,none⟩ = some (.string (str o.t)))∧(W.cell? ⟨bb,ob + i * 2,none⟩ = some (.int .i64 (o.e : Nat))∧W.cell? ⟨bb,ob + i * 2 + 1,none⟩ = some (.string (str o.t)))∧W.cell? ⟨bl,ol + i * 4,none⟩ = some (.int .i64 e.k)∧W.cell? ⟨bl,ol + i * 4 + 1,none⟩ = some (.int .i64 e.i)∧W.cell? ⟨bl,ol + i * 4 + 2,none⟩ = some (.int .i64 e.n)∧W.cell? ⟨bl,ol + i * 4 + 3,none⟩ = some (.string (str e.t)) from fun W h=>by
      rw [← hcl] at h
      exact ⟨⟨h _ (.head _),h _ (.tail _ (.head _))⟩,⟨h _ (.tail _ (.tail _ (.head _))),h _ (.tail _ (.tail _ (.tail _ (.head _))))⟩,h _ (.tail _ (.tail _ (.tail _ (.tail _ (.head _))))),h _ (.tail _ (.tail _ (.tail _ (.tail _ (.tail _ (.head _)))))),h _ (.tail _ (.tail _ (.tail _ (.tail _ (.tail _ (.tail _ (.head _))))))),h _ (.tail _ (.tail _ (.tail _ (.tail _ (.tail _ (.tail _ (.tail _ (.head _))))))))⟩)
    have d1 : decide ((i : Int) < (k : Int)) = false:=decide_eq_false (by omega)
    have d2 : decide ((i : Int) ≥ (k : Int)) = true:=decide_eq_true (by show ((k : Int)≤i); omega)
    have d3 : decide ((k : Int)≤(i : Int)) = true:=decide_eq_true (by omega)
    have hmx : max k i = i:=by omega
    have hLn:=HLr.out
    rw [hmx] at hLn
    have hnx:=take_next T1 i e he
    have htk:=tsum_take T1 (i + 1)
    rw [hnx,tsum_app] at htk
    have hts : tsum [e] = ewt e:=Nat.add_zero _
    have hli : (T1.take i).length = i:=by rw [List.length_take,HLN.out]; omega
    have hek:=ev_from HC0.out (T1.take i) (by have:=HTS.out; omega)
    rw [hli] at hek
    have HDo:=Lib.hid (ls_pdo (hLn.quiet ((Only.refl Nay wr).drew)) hek (by omega) (by have:=HTS.out; omega) e (by have:=HTS.out; omega))
    have ho1 : pE (prun (bnew cf) (T1.take i)) e = o.e:=by rw [← ho]
    have ho2 : pT (prun (bnew cf) (T1.take i)) e = o.t:=by rw [← ho]
    have HNX:=Lib.hid hnx
    unfold evv at HDo
    unfold outv at HDo
    rw [ho1,ho2] at HDo
    have hnr : n0≤wr.drew.heap.size:=by have h1:=HLr.out.lt.1; have h2:=HLr.out.lt.2; show n0≤wr.heap.size; omega
    have hgr : gm≤wr.drew.heap.size:=by show gm≤wr.heap.size; omega
    clear a0 a1c b0 b1c v0 v1 v2 v3 hcl2 hcl he ho hLo hLp hLn hnx htk hts hli hek ho1 ho2
    go_wp2_with fail
    refine wp_region_held (S:=fun W=>Cs cl W) hmix ?_
    change wpAnyH _ _ _ _ _ _ _ _ (World.drew _)
    refine wpAnyH_take (i:=0) (v:=.slice (some ⟨ba,oa,none⟩) len1 ca) rfl (by kernel_rfl) (by kernel_rfl) (by kernel_rfl) (fun _ _ _ h=>h) (.inl ⟨by kernel_rfl,fun W hW=>?_⟩) hS0 ?_
    · go_simp; try (first | rfl | omega | (intro hh; exfalso; omega))
    refine wpAnyH_take (i:=1) (v:=.int .i64 (i : Nat)) rfl (by kernel_rfl) (by kernel_rfl) (by kernel_rfl) (fun _ _ _ h=>h) (.inl ⟨by kernel_rfl,fun W hW=>?_⟩) hS0 ?_
    · go_simp; try (first | rfl | omega | (intro hh; exfalso; omega))
    refine wpAnyH_take (i:=2) (v:=.pointer (some ⟨ba,oa + i * 2,none⟩)) rfl (by kernel_rfl) (by kernel_rfl) (by kernel_rfl) (fun _ _ _ h=>h) (.inl ⟨by kernel_rfl,fun W hW=>?_⟩) hS0 ?_
    · go_simp; try (first | rfl | omega | (intro hh; exfalso; omega))
    refine wpAnyH_take (i:=3) (v:=.agg #[.int .i64 (o.e : Nat),.string (str o.t)]) rfl (by kernel_rfl) (by kernel_rfl) (by kernel_rfl) (fun _ _ _ h=>h) (.inl ⟨by kernel_rfl,fun W hW=>?_⟩) hS0 ?_
    · have hg:=HGet.out W hW; have l0:=hg.1.1; have l1:=hg.1.2; go_simp; try (first | rfl | omega | (intro hh; exfalso; omega))
    refine wpAnyH_take (i:=4) (v:=.slice (some ⟨bb,ob,none⟩) len1 cb) rfl (by kernel_rfl) (by kernel_rfl) (by kernel_rfl) (fun _ _ _ h=>h) (.inl ⟨by kernel_rfl,fun W hW=>?_⟩) hS0 ?_
    · go_simp; try (first | rfl | omega | (intro hh; exfalso; omega))
    refine wpAnyH_take (i:=5) (v:=.int .i64 (i : Nat)) rfl (by kernel_rfl) (by kernel_rfl) (by kernel_rfl) (fun _ _ _ h=>h) (.inl ⟨by kernel_rfl,fun W hW=>?_⟩) hS0 ?_
    · go_simp; try (first | rfl | omega | (intro hh; exfalso; omega))
    refine wpAnyH_take (i:=6) (v:=.pointer (some ⟨bb,ob + i * 2,none⟩)) rfl (by kernel_rfl) (by kernel_rfl) (by kernel_rfl) (fun _ _ _ h=>h) (.inl ⟨by kernel_rfl,fun W hW=>?_⟩) hS0 ?_
    · go_simp; try (first | rfl | omega | (intro hh; exfalso; omega))
    refine wpAnyH_take (i:=7) (v:=.agg #[.int .i64 (o.e : Nat),.string (str o.t)]) rfl (by kernel_rfl) (by kernel_rfl) (by kernel_rfl) (fun _ _ _ h=>h) (.inl ⟨by kernel_rfl,fun W hW=>?_⟩) hS0 ?_
    · have hg:=HGet.out W hW; have l0:=hg.2.1.1; have l1:=hg.2.1.2; go_simp; try (first | rfl | omega | (intro hh; exfalso; omega))
    refine wpAnyH_take (i:=8) (v:=.bool false) rfl (by kernel_rfl) (by kernel_rfl) (by kernel_rfl) (fun _ _ _ h=>h) (.inl ⟨by kernel_rfl,fun W hW=>?_⟩) hS0 ?_
    · go_simp; try (first | rfl | omega | (intro hh; exfalso; omega))
    refine wpAnyH_take (i:=9) (v:=.bool false) rfl (by kernel_rfl) (by kernel_rfl) (by kernel_rfl) (fun _ _ _ h=>h) (.inl ⟨by kernel_rfl,fun W hW=>?_⟩) hS0 ?_
    · go_simp; try (first | rfl | omega | (intro hh; exfalso; omega))
    refine wpAnyH_take (i:=10) (v:=.int .i64 (i : Nat)) rfl (by kernel_rfl) (by kernel_rfl) (by kernel_rfl) (fun _ _ _ h=>h) (.inl ⟨by kernel_rfl,fun W hW=>?_⟩) hS0 ?_
    · go_simp; try (first | rfl | omega | (intro hh; exfalso; omega))
    refine wpAnyH_take (i:=11) (v:=.int .i64 (k : Nat)) rfl (by kernel_rfl) (by kernel_rfl) (by kernel_rfl) (fun _ _ _ h=>h) (.inl ⟨by kernel_rfl,fun W hW=>?_⟩) hS0 ?_
    · go_simp; try (first | rfl | omega | (intro hh; exfalso; omega))
    refine wpAnyH_take (i:=12) (v:=.bool false) rfl (by kernel_rfl) (by kernel_rfl) (by kernel_rfl) (fun _ _ _ h=>h) (.inl ⟨by kernel_rfl,fun W hW=>?_⟩) hS0 ?_
    · go_simp; try (first | rfl | omega | (intro hh; exfalso; omega))
    refine wpAnyH_take (i:=13) (v:=.bool false) rfl (by kernel_rfl) (by kernel_rfl) (by kernel_rfl) (fun _ _ _ h=>h) (.inl ⟨by kernel_rfl,fun W hW=>?_⟩) hS0 ?_
    · go_simp; try (first | rfl | omega | (intro hh; exfalso; omega))
    refine wpAnyH_take (i:=14) (v:=undef) rfl (by kernel_rfl) (by kernel_rfl) (by kernel_rfl) (fun _ _ _ h=>h) (.inr ⟨by kernel_rfl,rfl⟩) hS0 ?_
    refine wpAnyH_take (i:=15) (v:=undef) rfl (by kernel_rfl) (by kernel_rfl) (by kernel_rfl) (fun _ _ _ h=>h) (.inr ⟨by kernel_rfl,rfl⟩) hS0 ?_
    refine wpAnyH_take (i:=16) (v:=undef) rfl (by kernel_rfl) (by kernel_rfl) (by kernel_rfl) (fun _ _ _ h=>h) (.inr ⟨by kernel_rfl,rfl⟩) hS0 ?_
    refine wpAnyH_take (i:=17) (v:=undef) rfl (by kernel_rfl) (by kernel_rfl) (by kernel_rfl) (fun _ _ _ h=>h) (.inr ⟨by kernel_rfl,rfl⟩) hS0 ?_
    refine wpAnyH_take (i:=18) (v:=undef) rfl (by kernel_rfl) (by kernel_rfl) (by kernel_rfl) (fun _ _ _ h=>h) (.inr ⟨by kernel_rfl,rfl⟩) hS0 ?_
    refine wpAnyH_take (i:=19) (v:=undef) rfl (by kernel_rfl) (by kernel_rfl) (by kernel_rfl) (fun _ _ _ h=>h) (.inr ⟨by kernel_rfl,rfl⟩) hS0 ?_
    refine wpAnyH_take (i:=20) (v:=undef) rfl (by kernel_rfl) (by kernel_rfl) (by kernel_rfl) (fun _ _ _ h=>h) (.inr ⟨by kernel_rfl,rfl⟩) hS0 ?_
    refine wpAnyH_take (i:=21) (v:=undef) rfl (by kernel_rfl) (by kernel_rfl) (by kernel_rfl) (fun _ _ _ h=>h) (.inr ⟨by kernel_rfl,rfl⟩) hS0 ?_
    refine wpAnyH_take (i:=22) (v:=undef) rfl (by kernel_rfl) (by kernel_rfl) (by kernel_rfl) (fun _ _ _ h=>h) (.inr ⟨by kernel_rfl,rfl⟩) hS0 ?_
    refine wpAnyH_take (i:=23) (v:=.bool false) rfl (by kernel_rfl) (by kernel_rfl) (by kernel_rfl) (fun _ _ _ h=>h) (.inl ⟨by kernel_rfl,fun W hW=>?_⟩) hS0 ?_
    · go_simp; try (first | rfl | omega | (intro hh; exfalso; omega))
    refine wpAnyH_take (i:=24) (v:=.bool false) rfl (by kernel_rfl) (by kernel_rfl) (by kernel_rfl) (fun _ _ _ h=>h) (.inl ⟨by kernel_rfl,fun W hW=>?_⟩) hS0 ?_
    · go_simp; try (first | rfl | omega | (intro hh; exfalso; omega))
    refine wpAnyH_take (i:=25) (v:=.bool false) rfl (by kernel_rfl) (by kernel_rfl) (by kernel_rfl) (fun _ _ _ h=>h) (.inl ⟨by kernel_rfl,fun W hW=>?_⟩) hS0 ?_
    · go_simp; try (first | rfl | omega | (intro hh; exfalso; omega))
    refine wpAnyH_take (i:=26) (v:=.int .i64 (i : Nat)) rfl (by kernel_rfl) (by kernel_rfl) (by kernel_rfl) (fun _ _ _ h=>h) (.inl ⟨by kernel_rfl,fun W hW=>?_⟩) hS0 ?_
    · go_simp; try (first | rfl | omega | (intro hh; exfalso; omega))
    refine wpAnyH_take (i:=27) (v:=.int .i64 (k : Nat)) rfl (by kernel_rfl) (by kernel_rfl) (by kernel_rfl) (fun _ _ _ h=>h) (.inl ⟨by kernel_rfl,fun W hW=>?_⟩) hS0 ?_
    · go_simp; try (first | rfl | omega | (intro hh; exfalso; omega))
    refine wpAnyH_take (i:=28) (v:=.bool true) rfl (by kernel_rfl) (by kernel_rfl) (by kernel_rfl) (fun _ _ _ h=>h) (.inl ⟨by kernel_rfl,fun W hW=>?_⟩) hS0 ?_
    · go_simp; try (first | rfl | omega | (intro hh; exfalso; omega))
    refine wpAnyH_take (i:=29) (v:=.bool true) rfl (by kernel_rfl) (by kernel_rfl) (by kernel_rfl) (fun _ _ _ h=>h) (.inl ⟨by kernel_rfl,fun W hW=>?_⟩) hS0 ?_
    · go_simp; try (first | rfl | omega | (intro hh; exfalso; omega))
    refine wpAnyH_take (i:=30) (v:=.pointer (some (at0 g))) rfl (by kernel_rfl) (by kernel_rfl) (by kernel_rfl) (fun _ _ _ h=>h) (.inl ⟨by kernel_rfl,fun W hW=>?_⟩) hS0 ?_
    · go_simp; try (first | rfl | omega | (intro hh; exfalso; omega))
    refine wpAnyH_take (i:=31) (v:=.slice (some ⟨bl,ol,none⟩) len1 cap1) rfl (by kernel_rfl) (by kernel_rfl) (by kernel_rfl) (fun _ _ _ h=>h) (.inl ⟨by kernel_rfl,fun W hW=>?_⟩) hS0 ?_
    · go_simp; try (first | rfl | omega | (intro hh; exfalso; omega))
    refine wpAnyH_take (i:=32) (v:=.int .i64 (i : Nat)) rfl (by kernel_rfl) (by kernel_rfl) (by kernel_rfl) (fun _ _ _ h=>h) (.inl ⟨by kernel_rfl,fun W hW=>?_⟩) hS0 ?_
    · go_simp; try (first | rfl | omega | (intro hh; exfalso; omega))
    refine wpAnyH_take (i:=33) (v:=.pointer (some ⟨bl,ol + i * 4,none⟩)) rfl (by kernel_rfl) (by kernel_rfl) (by kernel_rfl) (fun _ _ _ h=>h) (.inl ⟨by kernel_rfl,fun W hW=>?_⟩) hS0 ?_
    · go_simp; try (first | rfl | omega | (intro hh; exfalso; omega))
    refine wpAnyH_take (i:=34) (v:=.agg #[.int .i64 e.k,.int .i64 e.i,.int .i64 e.n,.string (str e.t)]) rfl (by kernel_rfl) (by kernel_rfl) (by kernel_rfl) (fun _ _ _ h=>h) (.inl ⟨by kernel_rfl,fun W hW=>?_⟩) hS0 ?_
    · have hg:=HGet.out W hW; have l0:=hg.2.2.1; have l1:=hg.2.2.2.1; have l2:=hg.2.2.2.2.1; have l3:=hg.2.2.2.2.2; go_simp; try (first | rfl | omega | (intro hh; exfalso; omega))
    refine wpAnyH_take (i:=36) (v:=.slice (some ⟨ba,oa,none⟩) len1 ca) rfl (by kernel_rfl) (by kernel_rfl) (by kernel_rfl) (fun _ _ _ h=>h) (.inl ⟨by kernel_rfl,fun W hW=>?_⟩) hS0 ?_
    · go_simp; try (first | rfl | omega | (intro hh; exfalso; omega))
    refine wpAnyH_take (i:=37) (v:=.int .i64 (i : Nat)) rfl (by kernel_rfl) (by kernel_rfl) (by kernel_rfl) (fun _ _ _ h=>h) (.inl ⟨by kernel_rfl,fun W hW=>?_⟩) hS0 ?_
    · go_simp; try (first | rfl | omega | (intro hh; exfalso; omega))
    refine wpAnyH_take (i:=38) (v:=.pointer (some ⟨ba,oa + i * 2,none⟩)) rfl (by kernel_rfl) (by kernel_rfl) (by kernel_rfl) (fun _ _ _ h=>h) (.inl ⟨by kernel_rfl,fun W hW=>?_⟩) hS0 ?_
    · go_simp; try (first | rfl | omega | (intro hh; exfalso; omega))
    refine wpAnyH_take (i:=39) (v:=.agg #[.int .i64 (o.e : Nat),.string (str o.t)]) rfl (by kernel_rfl) (by kernel_rfl) (by kernel_rfl) (fun _ _ _ h=>h) (.inl ⟨by kernel_rfl,fun W hW=>?_⟩) hS0 ?_
    · have hg:=HGet.out W hW; have l0:=hg.1.1; have l1:=hg.1.2; go_simp; try (first | rfl | omega | (intro hh; exfalso; omega))
    refine wpAnyH_all (rs:=[35]) (by kernel_rfl) (by simp) ?_
    intro z hz
    rw [List.mem_singleton.1 hz]
    clear hz
    unfold wpOp
    go_simp
    refine .inl ?_
    refine HDo.out.mono ?_
    rintro r w8 ⟨rfl,hl8,ho8⟩
    have hS1 : Cs cl w8:=Cs.only hS0 ho8 (fun p hp=>⟨Nat.lt_of_lt_of_le (HOld.out p hp) hnr,fun h=>by have:=h.1; have:=HOld.out p hp; omega⟩)
    have hz8 : w6.heap.size≤w8.heap.size:=Nat.le_trans hz6 ho8.size
    have HL8:=Lib.hid hl8
    have HRa8:=Lib.hid (otin_only (w:=wr.drew) (fun h=>HRa.out h) ho8 hsz5 (fun p hp h=>by injection hp with hp; subst hp; have:=h.1; dsimp only at this; omega))
    have HRb8:=Lib.hid (otin_only (w:=wr.drew) (fun h=>HRb.out h) ho8 hsz5 (fun p hp h=>by injection hp with hp; subst hp; have:=h.1; dsimp only at this; omega))
    have HRq8:=Lib.hid (otin_only (w:=wr.drew) (fun h=>HRq.out h) ho8 hz6 (fun p hp h=>h.2 ⟨p,hp,rfl⟩))
    have HB8:=Lib.hid ((below_drew HB.out).trans (ho8.below hgr fun x hx h=>by have:=h.1; omega))
    clear hl8 ho8 HDo
    refine ⟨hS1,?_⟩
    refine wpAnyH_take (i:=40) (v:=.bool false) rfl (by kernel_rfl) (by kernel_rfl) (by kernel_rfl) (fun _ _ _ h=>h) (.inl ⟨by kernel_rfl,fun W hW=>?_⟩) hS1 ?_
    · go_simp; try (first | rfl | omega | (intro hh; exfalso; omega))
    refine wpAnyH_take (i:=41) (v:=.bool false) rfl (by kernel_rfl) (by kernel_rfl) (by kernel_rfl) (fun _ _ _ h=>h) (.inl ⟨by kernel_rfl,fun W hW=>?_⟩) hS1 ?_
    · go_simp; try (first | rfl | omega | (intro hh; exfalso; omega))
    refine wpAnyH_take (i:=42) (v:=.bool false) rfl (by kernel_rfl) (by kernel_rfl) (by kernel_rfl) (fun _ _ _ h=>h) (.inl ⟨by kernel_rfl,fun W hW=>?_⟩) hS1 ?_
    · go_simp; try (first | rfl | omega | (intro hh; exfalso; omega))
    refine wpAnyH_done (by kernel_rfl) ?_ _
    go_simp
    go_wp2
    go_roundw
    case rel =>
      refine ⟨i + 1,by go_num,by omega,?_,HRa8.out,HRb8.out,HRq8.out,hz8,HB8.out⟩
      rw [show max k (i + 1) = i + 1 by omega,HNX.out,prun_app]
      exact HL8.out
    case measure=>simp [intOf]; omega
theorem w_in : Tryz.checked.prog.inits.idxOf? 3 = none:=by kernel_rfl
theorem w_ok (os : Os) : Input.okWideB Tryz.prog ((World.doorLaid Tryz.prog 400 os).forCall (fun _ _=>0) ⟨#[],#[.agg #[.int .i64 0,.int .i64 0,.int .i64 0,.int .i64 0,.int .i64 0,.int .i64 0,.int .i64 0,.int .i64 0],.slice none 0 0,.int .i64 0],[]⟩) 3 ⟨#[],#[.agg #[.int .i64 0,.int .i64 0,.int .i64 0,.int .i64 0,.int .i64 0,.int .i64 0,.int .i64 0,.int .i64 0],.slice none 0 0,.int .i64 0],[]⟩ = true:=by kernel_rfl
theorem w_pre (os : Os) (H : Type) (enc : TypeId×Value→H) : Rows.playTwiceSpec.preB enc Tryz.prog Tryz.f3 [] false ((World.doorLaid Tryz.prog 400 os).forCall (fun _ _=>0) ⟨#[],#[.agg #[.int .i64 0,.int .i64 0,.int .i64 0,.int .i64 0,.int .i64 0,.int .i64 0,.int .i64 0,.int .i64 0],.slice none 0 0,.int .i64 0],[]⟩).memory #[.agg #[.int .i64 0,.int .i64 0,.int .i64 0,.int .i64 0,.int .i64 0,.int .i64 0,.int .i64 0,.int .i64 0],.slice none 0 0,.int .i64 0] 8 = true:=by kernel_rfl
theorem w_sz (os : Os) (H : Type) (enc : TypeId×Value→H) : Rows.playTwiceSpec.sizedB enc Tryz.prog Tryz.f3 false ((World.doorLaid Tryz.prog 400 os).forCall (fun _ _=>0) ⟨#[],#[.agg #[.int .i64 0,.int .i64 0,.int .i64 0,.int .i64 0,.int .i64 0,.int .i64 0,.int .i64 0,.int .i64 0],.slice none 0 0,.int .i64 0],[]⟩).memory #[.agg #[.int .i64 0,.int .i64 0,.int .i64 0,.int .i64 0,.int .i64 0,.int .i64 0,.int .i64 0,.int .i64 0],.slice none 0 0,.int .i64 0] 8 = true:=by kernel_rfl
set_option maxRecDepth 100000 in
theorem lifted (os : Os) (started : os.Started) (H : Type) (enc : TypeId×Value→H) :
    ReturnsInHanded {} Tryz.checked os 3 .any (fun w args=>(Rows.playTwiceSpec.pre enc Tryz.prog Tryz.f3 [] false w args∧laidMetH Tryz.prog laidL w)∧sizedMet enc Tryz.prog Tryz.f3 (OpenSpec.ofChange Rows.playTwiceSpec) false w args)
      (Rows.playTwiceSpec.post enc Tryz.prog Tryz.f3 false true false false):=by
  refine returnsInHanded_of_change_and (C:=Tryz.checked) (X:=fun w _=>laidMetH Tryz.prog laidL w) (fun _ _ _ hh h=>h.of_heap hh) own started w_in Tryz.func3
    (ChangeSpec.witness_shaped (enc:=enc) (C:=Tryz.checked) (os:=os) (X:=fun w _=>laidMetH Tryz.prog laidL w) false (World.doorLaid Tryz.prog 400 os) #[.agg #[.int .i64 0,.int .i64 0,.int .i64 0,.int .i64 0,.int .i64 0,.int .i64 0,.int .i64 0,.int .i64 0],.slice none 0 0,.int .i64 0] 8 rfl (door_shaped os _) (w_ok os) (w_pre os H enc) (w_sz os H enc) (door_met os _)) ?_
  intro W base args ds gs before hval0 hW hcnd hsz0 hL _
  have hti:=ti_of hL
  have hval : ∀ (j : Nat) t v,Tryz.f3.params[j]? = some t→args[j]? = some v→Value.okWide Tryz.prog W .any base t v:=hval0
  have hW':=hW
  obtain ⟨p,q,hA0,hV,rfl,hfz,hnd⟩:=hW
  have hsz : (DataW.weightsEach Tryz.prog (Tryz.f3.params.toList ++ Rows.playTwiceSpec.plain.varTypes Tryz.prog) (ds ++ gs)).all (·≤reachBytes) = true:=hsz0
  have hA : DataW.TrodAll enc Tryz.prog W 0 (fun _=>true) true Tryz.f3.params.toList args.toList ds p:=hA0
  rw [Tryz.params3] at hA hval hsz
  obtain ⟨v0,vs0,d0,ds0,p0,q0,hargs,rfl,rfl,h0,r0⟩:=trodAll_cons hA
  obtain ⟨v1,vs1,d1,ds1,p1,q1,rfl,rfl,rfl,h1,r1⟩:=trodAll_cons r0
  obtain ⟨v2,vs2,d2,ds2,p2,q2,rfl,rfl,rfl,h2,r2⟩:=trodAll_cons r1
  obtain ⟨rfl,rfl,rfl⟩:=trodAll_nil r2
  obtain rfl : args = #[v0,v1,v2]:=by cases args; simp_all
  obtain ⟨rfl,rfl⟩:=trodVars_none hV
  have k0:=h0
  have lt0 : ∀ x∈p0,x.block < W.heap.size:=by obtain ⟨m,hm⟩:=k0; exact DataW.trod_lt m _ _ _ hm
  obtain ⟨ca0,cb0,cc0,cd0,ce0,cf0,cg0,ch0,rfl⟩:=open_conf (hval 0 23 v0 rfl rfl) h0
  obtain ⟨a1,len1,cap1,rfl⟩:=okWide_slice Tryz.underlying24 (hval 1 24 v1 rfl rfl)
  have k1:=h1
  have lt1 : ∀ x∈p1,x.block < W.heap.size:=by obtain ⟨m,hm⟩:=k1; exact DataW.trod_lt m _ _ _ hm
  obtain ⟨T1,w1,g1⟩ : ∃ T,EvIn W W.heap.size a1 T∧T.length = len1∧len1≤cap1∧cap1≤maxLen:=by
    obtain ⟨fuel,hf⟩:=h1
    exact open_events hf
  obtain ⟨a2,rfl,rfl,rfl,w2⟩:=open_int Tryz.underlying3 (hval 2 3 v2 rfl rfl) h2
  clear hA0 hval0 hsz hsz0
  refine (walk ca0 cb0 cc0 cd0 ce0 cf0 cg0 ch0 a1 len1 cap1 T1 a2 W w1 g1 w2 hti).mono fun e W' ⟨he,bel⟩=>?_
  subst he
  exact ⟨_,rfl,_,_,_,[],_,[],hW',trodAll_mk1 (shut_bool Tryz.underlying4 _),(trodAll_cons_mk (Below.trod laidOut (by kernel_rfl) (of_decide_eq_true (by kernel_rfl)) k0 bel lt0) (trodAll_cons_mk (Below.trod laidOut (by kernel_rfl) (of_decide_eq_true (by kernel_rfl)) k1 bel lt1) (trodAll_cons_mk (shut_int Tryz.underlying3 w2) trodAll_mk0))),rfl,bel.frame _,fun h=>by cases h⟩
theorem q0 : (Rows.playTwiceRow.wf (OpenSpec.ofChange Rows.playTwiceSpec)) = true:=by kernel_rfl
theorem q3 : (Tryz.f3.params.all (Tryz.prog.readableRec ·)) = true:=by kernel_rfl
theorem q4 : (namedTie Tryz.prog Rows.playTwiceRow.named Rows.playTwiceSpec.vars) = true:=by kernel_rfl
theorem q5 : ((Rows.playTwiceRow.stops == [])) = true:=by kernel_rfl
theorem q7 : ((Rows.playTwiceRow.knobs == [])) = true:=by kernel_rfl
theorem q9 : ((Rows.playTwiceRow.inPlace == Tryz.prog.inPlace 3)) = true:=by kernel_rfl
theorem q10 : ((Rows.playTwiceRow.unfollowed == Tryz.prog.unfollowed 3)) = true:=by kernel_rfl
theorem q11 : ((Rows.playTwiceRow.recurses == Tryz.prog.recurses 3)) = true:=by kernel_rfl
theorem q12 : ((Rows.playTwiceRow.named == Tryz.prog.varsNamed 3)) = true:=by kernel_rfl
theorem q13 : ((Rows.playTwiceRow.maps == (Tryz.f3.params.toList ++ Rows.playTwiceSpec.plain.varTypes Tryz.prog).any (Tryz.prog.mapsRec ·))) = true:=by kernel_rfl
theorem q14 : ((Rows.playTwiceRow.ifaces == (Tryz.f3.params.toList ++ Rows.playTwiceSpec.plain.varTypes Tryz.prog).any (Tryz.prog.ifacesRec ·))) = true:=by kernel_rfl
theorem q15 : ((Rows.playTwiceRow.mapsOut == Tryz.prog.mapsAmong Tryz.f3.resultTypes.toList)) = true:=by kernel_rfl
theorem q16 : ((Rows.playTwiceRow.loops == (Tryz.f3.params.toList ++ Rows.playTwiceSpec.plain.varTypes Tryz.prog).any (Tryz.prog.loopsFrom ·))) = true:=by kernel_rfl
theorem q17 : ((Rows.playTwiceRow.wideKeys == (Tryz.f3.params.toList ++ Rows.playTwiceSpec.plain.varTypes Tryz.prog ++ Tryz.f3.resultTypes.toList).any (Tryz.prog.wideKeysFrom ·))) = true:=by kernel_rfl
theorem q18 : (Rows.playTwiceSpec.vars.all (Tryz.prog.varReadable ·)) = true:=by kernel_rfl
theorem q19 : (Tryz.f3.resultTypes.all (fun t=>Tryz.prog.readableRec t && decide (t < Tryz.prog.types.size))) = true:=by kernel_rfl
theorem q20 : ((Rows.playTwiceRow.ifacesOut == Tryz.f3.resultTypes.toList.any (Tryz.prog.ifacesRec ·))) = true:=by kernel_rfl
theorem q21 : ((Rows.playTwiceRow.loopsOut == Tryz.f3.resultTypes.toList.any (Tryz.prog.loopsFrom ·))) = true:=by kernel_rfl
theorem q22 : ((Rows.playTwiceRow.plainKeys == Tryz.prog.plainKeys)) = true:=(show Rows.playTwiceRow.plainKeys = Rows.playTwiceRow.plainKeys from rfl) ▸ pq22
theorem q23 : (Rows.playTwiceRow.shortTexts.isNone) = true:=by kernel_rfl
theorem q26 : ((Rows.playTwiceRow.lifted == Tryz.prog.liftsFinal)) = true:=(show Rows.playTwiceRow.lifted = Rows.playTwiceRow.lifted from rfl) ▸ pq26
theorem q27 : ((Tryz.prog.make == some Rows.playTwiceRow.make)) = true:=(show Rows.playTwiceRow.make = Rows.playTwiceRow.make from rfl) ▸ pq27
theorem q28 : kindsAre Tryz.prog Rows.playTwiceRow Tryz.f3 = true:=by kernel_rfl
theorem q29 : ((Rows.playTwiceRow.pinned == Rows.playTwiceRow.pinnedBy)) = true:=by kernel_rfl
theorem q30 : ((Rows.playTwiceRow.veiled == (Tryz.f3.params.toList ++ Rows.playTwiceSpec.plain.varTypes Tryz.prog ++ Tryz.f3.resultTypes.toList).any (Tryz.prog.veiledRec ·))) = true:=by kernel_rfl
theorem q31 : (Rows.playTwiceRow.veiledFits Tryz.prog Tryz.f3.params.toList (Tryz.f3.params.toList ++ Rows.playTwiceSpec.plain.varTypes Tryz.prog ++ Tryz.f3.resultTypes.toList)) = true:=by kernel_rfl
theorem q_named : Tryz.prog.funcNamed Rows.playTwiceRow.func = some 3:=by kernel_rfl
theorem q_inst : Tryz.f3.isInstance Tryz.prog Rows.playTwiceRow.origin Rows.playTwiceRow.targs:=of_decide_eq_true (by kernel_rfl)
theorem q_wrap : Tryz.f3.isWrapper Tryz.prog Rows.playTwiceRow.wrapper Rows.playTwiceRow.mainSum:=by unfold Func.isWrapper; first | (rw [if_pos (by decide +kernel)]; kernel_rfl) | (rw [if_neg (by decide +kernel)]; exact ⟨rfl,rfl⟩)
set_option maxRecDepth 100000 in
theorem q_all : joinedFacts Tryz.prog 3 Tryz.f3 Rows.playTwiceSpec Rows.playTwiceRow = true:=joined_of (P:=Tryz.prog) (f:=3) (fn:=Tryz.f3) (s:=Rows.playTwiceSpec) (c:=Rows.playTwiceRow) q0 pq1 pq2 q3 q4 q5 pq6 q7 pq8 q9 q10 q11 q12 q13 q14 q15 q16 q17 q18 q19 q20 q21 q22 q23 pq24 pq25 q26 q27 q28 q29 q30 q31
theorem over : Rows.PlayTwiceSaid:=
  OpenClaim.holds_of_wide 3 Tryz.f3 rfl rfl rfl rfl rfl rfl rfl ⟨rfl,rfl,rfl,rfl,rfl⟩ rfl rfl rfl rfl rfl q_named Tryz.func3 q_all q_inst q_wrap
    (fun os started H enc _=>lifted os started H enc)
theorem c_wf : Rows.playTwiceRow.wfByText (OpenSpec.ofChange Rows.playTwiceSpec) = true:=by kernel_rfl
theorem c_looks : true = Tryz.prog.looks []:=by kernel_rfl
theorem c_stand : ([23,24,3].all fun u=>!Tryz.prog.wantsStandIn u) = true:=by kernel_rfl
theorem c_goes : false = Rows.playTwiceRow.goesBy Tryz.prog:=by kernel_rfl
end Go.Proofs.YtdiolacpngbalaaGreatDoor.playTwice
namespace Go.Proofs.YtdiolacpngbalaaGreatDoor
theorem playTwice_holds : Rows.PlayTwiceCardSaid:=
  Claim7.holds_tied_plain_at (c:=Rows.playTwiceRow) .later [] _ true _ true
    playTwice.over (fun _ h=>by cases h) playTwice.c_wf (fun _ h=>by cases h) playTwice_row_tie rfl ⟨rfl,rfl⟩ main_is rfl
    (fun f fn hf hfn=>by
      obtain rfl : f = 3:=Option.some.inj (playTwice.q_named.symm.trans hf) |>.symm
      obtain rfl : fn = Tryz.f3:=(Option.some.inj (Tryz.func3.symm.trans hfn)).symm
      exact ⟨playTwice.c_looks,fun j t ht=>by
        rw [Tryz.params3] at ht
        have hm : t∈[23,24,3]:=by simpa using Array.mem_of_getElem? ht
        exact (show Tryz.prog.wantsStandIn t = false by simpa using List.all_eq_true.1 playTwice.c_stand t hm)⟩)
    playTwice.c_goes
#print axioms playTwice_holds
end Go.Proofs.YtdiolacpngbalaaGreatDoor
