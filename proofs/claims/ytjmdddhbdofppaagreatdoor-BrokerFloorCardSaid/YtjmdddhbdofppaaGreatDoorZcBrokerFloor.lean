/- BrokerFloor: for every input the law answers true, and its arguments read as before. Conditions: none. -/
import Derived.BigQuiet
import Derived.Test.YtjmdddhbdofppaaGreatDoorZc42
import Derived.Test.YtjmdddhbdofppaaGreatDoorZcInse
import Derived.Test.YtjmdddhbdofppaaGreatDoorZcLg

namespace Go.Proofs.YtjmdddhbdofppaaGreatDoor.brokerFloor
open Go.ChangeShapes Go.WideShapes Go.ChangeAt Go.RowKit
open Fr Bk
set_option maxRecDepth 100000 in
set_option maxHeartbeats 2000000 in
theorem walk (ca0 cb0 cc0 cd0 ce0 cf0 cg0 ch0 : Int) (a1 : Option Addr) (len1 cap1 : Nat) (K1 I1 R1 : Nat→Int) (A1 : Nat→Option Addr) (L1 C1 : Nat→Nat) (T1 : Nat→Bs) (w : World)  (w1 : Ievs w w.heap.size a1 len1 K1 I1 R1 A1 L1 C1 T1) (g1 : len1≤cap1∧cap1≤maxLen) (ht : TI w) :
    Calls Tryz.prog 6 #[.agg (cv ca0 cb0 cc0 cd0 ce0 cf0 cg0 ch0),.slice a1 len1 cap1] w fun e w'=>e = .returned (.bool true)∧Below w.heap.size w w':=by
  have HTI:=Lib.hid ht
  have HEV:=Lib.hid w1
  have hln : len1≤9223372036854775807:=by have:=g1; unfold maxLen at this; omega
  clear ht w1 g1
  by_cases hrt : rt ca0 cb0 cc0 cd0 ce0 cf0 cg0 ch0 = true
  rotate_left
  · have hrt : rt ca0 cb0 cc0 cd0 ce0 cf0 cg0 ch0 = false:=by simpa using hrt
    unfold cv
    go_enter Tryz.func6,Tryz.ntmps6
    have hxm:=Bx.new w _ rfl #[.int .i64 ca0,.int .i64 cb0,.int .i64 cc0,.int .i64 cd0,.int .i64 ce0,.int .i64 cf0,.int .i64 cg0,.int .i64 ch0] 23
    have hba : Below w.heap.size w (w.alloc (.cells #[.int .i64 ca0,.int .i64 cb0,.int .i64 cc0,.int .i64 cd0,.int .i64 ce0,.int .i64 cf0,.int .i64 cg0,.int .i64 ch0] 23)):=(Below.refl _ _).alloc (Nat.le_refl _) _
    have hsz : w.heap.size < (w.alloc (.cells #[.int .i64 ca0,.int .i64 cb0,.int .i64 cc0,.int .i64 cd0,.int .i64 ce0,.int .i64 cf0,.int .i64 cg0,.int .i64 ch0] 23)).heap.size:=by simp
    go_wp2_with fail
    generalize w.alloc (.cells #[.int .i64 ca0,.int .i64 cb0,.int .i64 cc0,.int .i64 cd0,.int .i64 ce0,.int .i64 cf0,.int .i64 cg0,.int .i64 ch0] 23) = wa at *
    obtain ⟨gm,hgm⟩ : ∃ gm,w.heap.size = gm:=⟨_,rfl⟩
    rw [hgm] at hxm hba hsz
    have HG:=Lib.hid hgm
    have hTI:=HTI.out.below (hgm ▸ hba)
    have HE0:=Lib.hid (show Ievs w gm a1 len1 K1 I1 R1 A1 L1 C1 T1 from hgm ▸ HEV.out)
    rw [hgm]
    clear hgm HEV
    refine (bhead_any wa hTI).mono ?_
    rintro e w1 ⟨rfl,hb1⟩
    have HX1:=Lib.hid (hxm.go hb1 hsz)
    have HB1:=Lib.hid (Below.trans hba (hb1.mono (Nat.le_of_lt hsz)))
    have HT1:=Lib.hid (hTI.below hb1)
    have HS1:=Lib.hid (Nat.lt_of_lt_of_le hsz hb1.size)
    clear hxm hba hb1 hTI hsz
    have HF:=Lib.hid (lfew_any (cap:=cap1) w1 (show Ievs w1 w1.heap.size a1 len1 K1 I1 R1 A1 L1 C1 T1 from (HE0.out.below HB1.out).more (Nat.le_of_lt HS1.out)) hln)
    go_wp2_with fail
    refine HF.out.mono ?_
    rintro e w2 ⟨f,rfl,hfew,hb2⟩
    have HX2:=Lib.hid (HX1.out.go hb2 HS1.out)
    have HB2:=Lib.hid (Below.trans HB1.out (hb2.mono (Nat.le_of_lt HS1.out)))
    have HT2:=Lib.hid (HT1.out.below hb2)
    have HS2:=Lib.hid (Nat.lt_of_lt_of_le HS1.out hb2.size)
    clear hb2 HX1 HB1 HT1 HS1 HF
    rcases f with _ | _
    · go_wp2
      go_ret
      exact ⟨rfl,by rw [HG.out]; exact HB2.out⟩
    have z0:=HX2.out.cell 0 (.int .i64 ca0) rfl
    have z1:=HX2.out.cell 1 (.int .i64 cb0) rfl
    have z2:=HX2.out.cell 2 (.int .i64 cc0) rfl
    have z3:=HX2.out.cell 3 (.int .i64 cd0) rfl
    have z4:=HX2.out.cell 4 (.int .i64 ce0) rfl
    have z5:=HX2.out.cell 5 (.int .i64 cf0) rfl
    have z6:=HX2.out.cell 6 (.int .i64 cg0) rfl
    have z7:=HX2.out.cell 7 (.int .i64 ch0) rfl
    go_wp2_with fail
    refine (lright_any ca0 cb0 cc0 cd0 ce0 cf0 cg0 ch0 w2).mono ?_
    rintro e w3 ⟨rfl,hb3⟩
    rw [hrt]
    have HB3:=Lib.hid (Below.trans HB2.out (hb3.mono (Nat.le_of_lt HS2.out)))
    go_wp2
    go_ret
    exact ⟨rfl,by rw [HG.out]; exact HB3.out⟩
  obtain ⟨cf,hcf,hev0,rfl,rfl,rfl,rfl,rfl,rfl,rfl,rfl⟩:=rt_cf hrt
  have HC:=Lib.hid (And.intro hcf hev0)
  clear hcf hev0
  unfold cv
  go_enter Tryz.func6,Tryz.ntmps6
  have hxm:=Bx.new w _ rfl #[.int .i64 (cf.log : Nat),.int .i64 (cf.data : Nat),.int .i64 (cf.queue : Nat),.int .i64 (cf.input : Nat),.int .i64 (cf.strikes : Nat),.int .i64 (cf.lease : Nat),.int .i64 (cf.idle : Nat),.int .i64 (cf.width : Nat)] 23
  have hba : Below w.heap.size w (w.alloc (.cells #[.int .i64 (cf.log : Nat),.int .i64 (cf.data : Nat),.int .i64 (cf.queue : Nat),.int .i64 (cf.input : Nat),.int .i64 (cf.strikes : Nat),.int .i64 (cf.lease : Nat),.int .i64 (cf.idle : Nat),.int .i64 (cf.width : Nat)] 23)):=(Below.refl _ _).alloc (Nat.le_refl _) _
  have hsz : w.heap.size < (w.alloc (.cells #[.int .i64 (cf.log : Nat),.int .i64 (cf.data : Nat),.int .i64 (cf.queue : Nat),.int .i64 (cf.input : Nat),.int .i64 (cf.strikes : Nat),.int .i64 (cf.lease : Nat),.int .i64 (cf.idle : Nat),.int .i64 (cf.width : Nat)] 23)).heap.size:=by simp
  go_wp2_with fail
  generalize w.alloc (.cells #[.int .i64 (cf.log : Nat),.int .i64 (cf.data : Nat),.int .i64 (cf.queue : Nat),.int .i64 (cf.input : Nat),.int .i64 (cf.strikes : Nat),.int .i64 (cf.lease : Nat),.int .i64 (cf.idle : Nat),.int .i64 (cf.width : Nat)] 23) = wa at *
  obtain ⟨gm,hgm⟩ : ∃ gm,w.heap.size = gm:=⟨_,rfl⟩
  rw [hgm] at hxm hba hsz
  have HG:=Lib.hid hgm
  have hTI:=HTI.out.below (hgm ▸ hba)
  have HE0:=Lib.hid (show Ievs w gm a1 len1 K1 I1 R1 A1 L1 C1 T1 from hgm ▸ HEV.out)
  rw [hgm]
  clear hgm HEV
  refine (bhead_any wa hTI).mono ?_
  rintro e w1 ⟨rfl,hb1⟩
  have HX1:=Lib.hid (hxm.go hb1 hsz)
  have HB1:=Lib.hid (Below.trans hba (hb1.mono (Nat.le_of_lt hsz)))
  have HT1:=Lib.hid (hTI.below hb1)
  have HS1:=Lib.hid (Nat.lt_of_lt_of_le hsz hb1.size)
  clear hxm hba hb1 hTI hsz
  have HF:=Lib.hid (lfew_any (cap:=cap1) w1 (show Ievs w1 w1.heap.size a1 len1 K1 I1 R1 A1 L1 C1 T1 from (HE0.out.below HB1.out).more (Nat.le_of_lt HS1.out)) hln)
  go_wp2_with fail
  refine HF.out.mono ?_
  rintro e w2 ⟨f,rfl,hfew,hb2⟩
  have HX2:=Lib.hid (HX1.out.go hb2 HS1.out)
  have HB2:=Lib.hid (Below.trans HB1.out (hb2.mono (Nat.le_of_lt HS1.out)))
  have HT2:=Lib.hid (HT1.out.below hb2)
  have HS2:=Lib.hid (Nat.lt_of_lt_of_le HS1.out hb2.size)
  clear hb2 HX1 HB1 HT1 HS1 HF
  rcases f with _ | _
  · go_wp2
    go_ret
    exact ⟨rfl,by rw [HG.out]; exact HB2.out⟩
  have hfew:=hfew rfl
  have hf1:=hfew.1
  have HFW:=Lib.hid hfew.2
  clear hfew
  have z0:=HX2.out.cell 0 (.int .i64 (cf.log : Nat)) rfl
  have z1:=HX2.out.cell 1 (.int .i64 (cf.data : Nat)) rfl
  have z2:=HX2.out.cell 2 (.int .i64 (cf.queue : Nat)) rfl
  have z3:=HX2.out.cell 3 (.int .i64 (cf.input : Nat)) rfl
  have z4:=HX2.out.cell 4 (.int .i64 (cf.strikes : Nat)) rfl
  have z5:=HX2.out.cell 5 (.int .i64 (cf.lease : Nat)) rfl
  have z6:=HX2.out.cell 6 (.int .i64 (cf.idle : Nat)) rfl
  have z7:=HX2.out.cell 7 (.int .i64 (cf.width : Nat)) rfl
  go_wp2_with fail
  refine (lright_any (cf.log : Nat) (cf.data : Nat) (cf.queue : Nat) (cf.input : Nat) (cf.strikes : Nat) (cf.lease : Nat) (cf.idle : Nat) (cf.width : Nat) w2).mono ?_
  rintro e w3 ⟨rfl,hb3⟩
  rw [hrt]
  have HX3:=Lib.hid (HX2.out.go hb3 HS2.out)
  have HB3:=Lib.hid (Below.trans HB2.out (hb3.mono (Nat.le_of_lt HS2.out)))
  have HT3:=Lib.hid (HT2.out.below hb3)
  have HS3:=Lib.hid (Nat.lt_of_lt_of_le HS2.out hb3.size)
  clear hb3 HX2 HB2 HT2 HS2 z0 z1 z2 z3 z4 z5 z6 z7
  have HNew:=Lib.hid (show Calls Tryz.prog 21 #[.agg #[.int .i64 (cf.log : Nat),.int .i64 (cf.data : Nat),.int .i64 (cf.queue : Nat),.int .i64 (cf.input : Nat),.int .i64 (cf.strikes : Nat),.int .i64 (cf.lease : Nat),.int .i64 (cf.idle : Nat),.int .i64 (cf.width : Nat)]] w3 fun e w'=>∃ g,e = .returned (.pointer (some (at0 g)))∧LBx w3.heap.size g w' (bnew cf)∧Below w3.heap.size w3 w' from lb_new HC.out.1 w3 HT3.out)
  have z0:=HX3.out.cell 0 (.int .i64 (cf.log : Nat)) rfl
  have z1:=HX3.out.cell 1 (.int .i64 (cf.data : Nat)) rfl
  have z2:=HX3.out.cell 2 (.int .i64 (cf.queue : Nat)) rfl
  have z3:=HX3.out.cell 3 (.int .i64 (cf.input : Nat)) rfl
  have z4:=HX3.out.cell 4 (.int .i64 (cf.strikes : Nat)) rfl
  have z5:=HX3.out.cell 5 (.int .i64 (cf.lease : Nat)) rfl
  have z6:=HX3.out.cell 6 (.int .i64 (cf.idle : Nat)) rfl
  have z7:=HX3.out.cell 7 (.int .i64 (cf.width : Nat)) rfl
  go_wp2_with fail
  refine HNew.out.mono ?_
  rintro e w4 ⟨g,rfl,hl4,hb4⟩
  have HX4:=Lib.hid (HX3.out.go hb4 HS3.out)
  have HL4:=Lib.hid hl4
  have HB4:=Lib.hid (Below.trans HB3.out (hb4.mono (Nat.le_of_lt HS3.out)))
  have hn0:=HS3.out
  clear hl4 hb4 HX3 HB3 HT3 HS3 HNew z0 z1 z2 z3 z4 z5 z6 z7
  generalize w3.heap.size = n0 at *
  have hn1 : gm≤n0:=Nat.le_of_lt hn0
  go_wp2
  go_loopw [33] (fun s wr=>∃ (k : Nat) (b : Br),s = .int .i64 (k : Nat)∧k≤len1∧LBx n0 g wr b∧Hid (AtEv cf L1 k b)∧Below gm w wr∧Bx gm wr #[.int .i64 (cf.log : Nat),.int .i64 (cf.data : Nat),.int .i64 (cf.queue : Nat),.int .i64 (cf.input : Nat),.int .i64 (cf.strikes : Nat),.int .i64 (cf.lease : Nat),.int .i64 (cf.idle : Nat),.int .i64 (cf.width : Nat)]) (fun s _=>len1 - (intOf s).toNat)
  case atStart=>exact ⟨0,bnew cf,rfl,Nat.zero_le _,HL4.out,Lib.hid (AtEv.begin HC.out.2),HB4.out,HX4.out⟩
  case round =>
    obtain ⟨k,b,rfl,hk,hlr,HA,hbr,hxr⟩:=hrel
    have HLR:=Lib.hid hlr
    have HBR:=Lib.hid hbr
    have HXR:=Lib.hid hxr
    have hgw : gm≤wr.heap.size:=by rw [← HG.out]; exact hbr.size
    clear hlr hbr hxr HL4 HB4 HX4
    by_cases hlt : k < len1
    rotate_left
    · obtain rfl : k = len1:=by omega
      have dk : decide ((k : Int) < (k : Int)) = false:=by simp
      go_wp2
      go_ret
      exact ⟨rfl,by rw [HG.out]; exact HBR.out⟩
    have dk : decide ((k : Int) < (len1 : Int)) = true:=decide_eq_true (by omega)
    have HSum:=Lib.hid (show sumL L1 (k + 1)≤6000 from Nat.le_trans (sumL_mono (show k + 1≤len1 from hlt)) HFW.out)
    obtain ⟨bb,off,rfl,hbB,hc⟩:=(HE0.out.below HBR.out).outer (by omega)
    obtain ⟨hc0,hc1,hc2,hc3⟩:=hc k hlt
    obtain ⟨⟨hw0,hw1,hw2⟩,hby,hcap,_⟩:=HE0.out.inner k hlt
    have HY:=Lib.hid (And.intro hby hcap)
    obtain ⟨q,hq7,hq⟩:=bits_any (K1 k) 7 (by decide)
    have HQ:=Lib.hid (And.intro hq7 hq)
    clear hc hby hcap hq7 hq hw0 hw2
    have HE:=Lib.hid (Bx.new wr wr.heap.size rfl #[.int .i64 (K1 k),.int .i64 (I1 k),.int .i64 (R1 k),.slice (A1 k) (L1 k) (C1 k)] 34)
    have hbe : Below wr.heap.size wr (wr.alloc (.cells #[.int .i64 (K1 k),.int .i64 (I1 k),.int .i64 (R1 k),.slice (A1 k) (L1 k) (C1 k)] 34)):=(Below.refl _ _).alloc (Nat.le_refl _) _
    go_upto_region 11 with fail
    generalize wr.alloc _ = w5 at *
    have HL5:=Lib.hid (HLR.out.below hbe)
    have HB5:=Lib.hid (Below.trans HBR.out (hbe.mono hgw))
    have HX5:=Lib.hid (HXR.out.go hbe (Nat.lt_of_lt_of_le hn0 HLR.out.le))
    have e0:=HE.out.cell 0 (.int .i64 (K1 k)) rfl
    have e1:=HE.out.cell 1 (.int .i64 (I1 k)) rfl
    have e2:=HE.out.cell 2 (.int .i64 (R1 k)) rfl
    have e3:=HE.out.cell 3 (.slice (A1 k) (L1 k) (C1 k)) rfl
    clear hc0 hc1 hc2 hc3 hbe HLR HBR HXR
    have HDo:=Lib.hid (ldo_x (LAway.old (n:=L1 k) HL5.out fun hp p e=>by
        obtain ⟨b9,off9,e9,h9,_⟩:=HY.out.1.2 hp
        rw [e] at e9
        injection e9 with e9
        subst e9
        show b9 < n0
        omega) HA.out.ev (by omega) (by have:=HA.out.ev.tot; have:=HSum.out; have : sumL L1 (k + 1) = sumL L1 k + L1 k:=rfl; omega) (K1 k) (I1 k) (R1 k) hw1 (HY.out.1.below HB5.out) (by have:=HL5.out.le; omega) HY.out.2 (by have:=HSum.out; have : sumL L1 (k + 1) = sumL L1 k + L1 k:=rfl; omega) HQ.out.2 HQ.out.1)
    go_wp2_with fail
    refine HDo.out.mono ?_
    rintro e w6 ⟨rfl,hl6,hb6⟩
    have HA6:=Lib.hid (HA.out.next q (I1 k) (R1 k) (t:=T1 k) HY.out.1.1 HSum.out)
    have HX6:=Lib.hid (HX5.out.go hb6 hn0)
    have HB6:=Lib.hid (Below.trans HB5.out (hb6.mono hn1))
    obtain ⟨b6,hb6e⟩ : ∃ x,doEv q b (I1 k) (R1 k) (T1 k) = x:=⟨_,rfl⟩
    rw [hb6e] at hl6 HA6
    have HL6:=Lib.hid hl6
    clear hl6 hb6 hb6e HL5 HB5 HX5 HA HDo e0 e1 e2 e3 HY HQ hw1
    obtain ⟨hu1,hu2,hu3,hu4,hu5⟩:=hold_user HA6.out.ev.ok
    obtain ⟨h,hh⟩ : ∃ h,fhold b6.fl = h:=⟨_,rfl⟩
    have hwh : wf64 h:=wf_small (by rw [← hh]; omega)
    go_wp2_with fail
    refine (lb_holder HL6.out HA6.out.ev.ok).mono ?_
    rintro e w7 ⟨rfl,hl7,hb7⟩
    rw [hh]
    have HL7:=Lib.hid hl7
    have HX7:=Lib.hid (HX6.out.go hb7 (Nat.lt_of_lt_of_le hn0 HL6.out.le))
    have HB7:=Lib.hid (Below.trans HB6.out (hb7.mono (by rw [← HG.out]; exact HB6.out.size)))
    clear hl7 hb7 HL6 HX6 HB6
    go_wp2_with fail
    refine (lb_role HL7.out HA6.out.ev.ok h hwh).mono ?_
    rintro e w8 ⟨rfl,hl8,hb8⟩
    have HL8:=Lib.hid hl8
    have HX8:=Lib.hid (HX7.out.go hb8 (Nat.lt_of_lt_of_le hn0 HL7.out.le))
    have HB8:=Lib.hid (Below.trans HB7.out (hb8.mono (by rw [← HG.out]; exact HB7.out.size)))
    clear hl8 hb8 HL7 HX7 HB7
    rw [hh] at hu1 hu2 hu4 hu5
    obtain ⟨r,hr⟩ : ∃ r,rrole b6.fl.roles h = r:=⟨_,rfl⟩
    rw [hr] at hu1 ⊢
    by_cases h0 : h = 0
    · subst h0
      have hok : rhas b6.fl.roles 0 = false:=hu3
      rw [hok]
      have dh : ((0 : Int) != 0) = false:=rfl
      have dh2 : ((0 : Int) == 0) = true:=rfl
      clear hu1 hu2 hu3
      go_wp2_with fail
      refine (lb_users HL8.out HA6.out.ev.ok).mono ?_
      rintro e w9 ⟨a8,n8,c8,rfl,hl9,hb9,hn8,hv9,_⟩
      have HL9:=Lib.hid hl9
      have HX9:=Lib.hid (HX8.out.go hb9 hn0)
      have HB9:=Lib.hid (Below.trans HB8.out (hb9.mono hn1))
      have HV9:=Lib.hid hv9
      have hn16 : n8≤16:=by rw [hn8]; exact HA6.out.ev.ok.fok.rn
      have HIn8:=Lib.hid (show ∀ i,i < n8→(b6.fl.roles.map (·.1)).getD i 0∈b6.fl.roles.map (·.1) from fun i hi=>by rw [List.getD_eq_getElem?_getD,List.getElem?_eq_getElem (by rw [List.length_map]; omega)]; exact List.getElem_mem _)
      obtain ⟨N8,hN8⟩ : ∃ x,w9.heap.size = x:=⟨_,rfl⟩
      rw [hN8] at HV9
      have HN8:=Lib.hid hn8
      clear hl9 hb9 hv9 HL8 HB8 HX8 hn8
      go_wp2_with fail
      refine (lb_conns HL9.out).mono ?_
      rintro e w10 ⟨a10,n10,c10,rfl,hl10,hb10,hn10,_,_⟩
      have hfew:=users_few HA6.out.r3 HA6.out.ev.ok
      rw [← HN8.out,← hn10] at hfew
      have dfew : decide ((n8 : Int) > (n10 : Int)) = false:=decide_eq_false (by omega)
      have dfew2 : decide ((n10 : Int) < (n8 : Int)) = false:=decide_eq_false (by omega)
      have dfew3 : decide (n10 < n8) = false:=decide_eq_false (by omega)
      clear hfew
      have hn10b : n10≤16:=by rw [hn10]; exact conns_len b6 16
      have HLs:=Lib.hid hl10
      have HXs:=Lib.hid (HX9.out.go hb10 (Nat.lt_of_lt_of_le hn0 HL9.out.le))
      have HBs:=Lib.hid (Below.trans HB9.out (hb10.mono (by rw [← HG.out]; exact HB9.out.size)))
      have HVs:=Lib.hid (HV9.out.below (hN8 ▸ hb10))
      have hNs : N8≤w10.heap.size:=hN8 ▸ hb10.size
      have hn8z : n8 = 0→fhold b6.fl = 0:=fun h=>(hold_user HA6.out.ev.ok).2.1 (by rw [← HN8.out]; exact h)
      clear hl10 hb10 hn10 HL9 HX9 HB9 HV9 HN8
      by_cases h8 : n8 = 0
      · have d8 : ((n8 : Int) == 0) = true:=by simp; omega
        have d9 : (n8 == 0) = true:=by simp; omega
        go_wp2
        go_loopw [85] (fun s wr2=>∃ i : Nat,s = .int .i64 (i : Nat)∧i≤n8∧LBx n0 g wr2 b6∧Below gm w wr2∧Bx gm wr2 #[.int .i64 (cf.log : Nat),.int .i64 (cf.data : Nat),.int .i64 (cf.queue : Nat),.int .i64 (cf.input : Nat),.int .i64 (cf.strikes : Nat),.int .i64 (cf.lease : Nat),.int .i64 (cf.idle : Nat),.int .i64 (cf.width : Nat)]∧Vals wr2 N8 a8 n8 (ints (b6.fl.roles.map (·.1)))∧N8≤wr2.heap.size) (fun s _=>n8 - (intOf s).toNat)
        case atStart=>exact ⟨0,rfl,Nat.zero_le _,HLs.out,HBs.out,HXs.out,HVs.out,hNs⟩
        case round =>
          obtain ⟨i,rfl,hi,hl,hb,hx,hv,hN⟩:=hrel
          have HL:=Lib.hid hl
          have HB:=Lib.hid hb
          have HX:=Lib.hid hx
          have HV:=Lib.hid hv
          clear hl hb hx hv HLs HBs HXs HVs
          by_cases hil : i < n8
          · exfalso; omega
          · obtain rfl : i = n8:=by omega
            have di : decide ((i : Int) < (i : Int)) = false:=decide_eq_false (by omega)
            go_wp2
            go_roundw
            case rel=>exact ⟨k + 1,b6,by go_num,by omega,HL.out,HA6,HB.out,HX.out⟩
            case measure=>simp [intOf]; omega
      · have d8 : ((n8 : Int) == 0) = false:=by simp; omega
        have d9 : (n8 == 0) = false:=by simp; omega
        go_wp2
        go_loopw [85] (fun s wr2=>∃ i : Nat,s = .int .i64 (i : Nat)∧i≤n8∧LBx n0 g wr2 b6∧Below gm w wr2∧Bx gm wr2 #[.int .i64 (cf.log : Nat),.int .i64 (cf.data : Nat),.int .i64 (cf.queue : Nat),.int .i64 (cf.input : Nat),.int .i64 (cf.strikes : Nat),.int .i64 (cf.lease : Nat),.int .i64 (cf.idle : Nat),.int .i64 (cf.width : Nat)]∧Vals wr2 N8 a8 n8 (ints (b6.fl.roles.map (·.1)))∧N8≤wr2.heap.size) (fun s _=>n8 - (intOf s).toNat)
        case atStart=>exact ⟨0,rfl,Nat.zero_le _,HLs.out,HBs.out,HXs.out,HVs.out,hNs⟩
        case round =>
          obtain ⟨i,rfl,hi,hl,hb,hx,hv,hN⟩:=hrel
          have HL:=Lib.hid hl
          have HB:=Lib.hid hb
          have HX:=Lib.hid hx
          have HV:=Lib.hid hv
          clear hl hb hx hv HLs HBs HXs HVs
          by_cases hil : i < n8
          · have di : decide ((i : Int) < (n8 : Int)) = true:=decide_eq_true (by omega)
            obtain ⟨b9,o9,rfl,_,hc⟩:=ints_at HV.out (by omega)
            have hci:=hc i hil
            have hin:=HIn8.out i hil
            obtain ⟨x,hx⟩ : ∃ x,(b6.fl.roles.map (·.1)).getD i 0 = x:=⟨_,rfl⟩
            rw [hx] at hci hin
            obtain ⟨hs1,hs2⟩:=seen_user HA6.out.r3 HA6.out.ev.ok hin
            clear hc hx hin
            go_wp2_with fail
            refine (lb_seen HL.out x).mono ?_
            rintro e w9 ⟨rfl,hl9,hb9⟩
            rw [hs1]
            have HL9:=Lib.hid hl9
            have HB9:=Lib.hid (Below.trans HB.out (hb9.mono (by rw [← HG.out]; exact HB.out.size)))
            have HX9:=Lib.hid (HX.out.go hb9 (Nat.lt_of_lt_of_le hn0 HL.out.le))
            have HV9:=Lib.hid (HV.out.below (hb9.mono hN))
            have hN9:=Nat.le_trans hN hb9.size
            clear hl9 hb9 HL HB HX HV
            go_wp2
            go_roundw
            case rel=>exact ⟨i + 1,by go_num,by omega,HL9.out,HB9.out,HX9.out,HV9.out,hN9⟩
            case measure=>first | (simp [intOf]; omega) | (simp [intOf])
          · obtain rfl : i = n8:=by omega
            have di : decide ((i : Int) < (i : Int)) = false:=decide_eq_false (by omega)
            go_wp2
            go_roundw
            case rel=>exact ⟨k + 1,b6,by go_num,by omega,HL.out,HA6,HB.out,HX.out⟩
            case measure=>simp [intOf]; omega
    · obtain ⟨hok,hrn⟩:=hu1 h0
      rw [hok]
      have dh : (h != 0) = true:=by simpa using h0
      have dh2 : (h == 0) = false:=by simpa using h0
      have dr : (r == 0) = false:=by simpa using hrn
      clear hu1 hu2 hu3
      go_wp2_with fail
      refine (lb_users HL8.out HA6.out.ev.ok).mono ?_
      rintro e w9 ⟨a8,n8,c8,rfl,hl9,hb9,hn8,hv9,_⟩
      have HL9:=Lib.hid hl9
      have HX9:=Lib.hid (HX8.out.go hb9 hn0)
      have HB9:=Lib.hid (Below.trans HB8.out (hb9.mono hn1))
      have HV9:=Lib.hid hv9
      have hn16 : n8≤16:=by rw [hn8]; exact HA6.out.ev.ok.fok.rn
      have HIn8:=Lib.hid (show ∀ i,i < n8→(b6.fl.roles.map (·.1)).getD i 0∈b6.fl.roles.map (·.1) from fun i hi=>by rw [List.getD_eq_getElem?_getD,List.getElem?_eq_getElem (by rw [List.length_map]; omega)]; exact List.getElem_mem _)
      obtain ⟨N8,hN8⟩ : ∃ x,w9.heap.size = x:=⟨_,rfl⟩
      rw [hN8] at HV9
      have HN8:=Lib.hid hn8
      clear hl9 hb9 hv9 HL8 HB8 HX8 hn8
      go_wp2_with fail
      refine (lb_conns HL9.out).mono ?_
      rintro e w10 ⟨a10,n10,c10,rfl,hl10,hb10,hn10,_,_⟩
      have hfew:=users_few HA6.out.r3 HA6.out.ev.ok
      rw [← HN8.out,← hn10] at hfew
      have dfew : decide ((n8 : Int) > (n10 : Int)) = false:=decide_eq_false (by omega)
      have dfew2 : decide ((n10 : Int) < (n8 : Int)) = false:=decide_eq_false (by omega)
      have dfew3 : decide (n10 < n8) = false:=decide_eq_false (by omega)
      clear hfew
      have hn10b : n10≤16:=by rw [hn10]; exact conns_len b6 16
      have HLs:=Lib.hid hl10
      have HXs:=Lib.hid (HX9.out.go hb10 (Nat.lt_of_lt_of_le hn0 HL9.out.le))
      have HBs:=Lib.hid (Below.trans HB9.out (hb10.mono (by rw [← HG.out]; exact HB9.out.size)))
      have HVs:=Lib.hid (HV9.out.below (hN8 ▸ hb10))
      have hNs : N8≤w10.heap.size:=hN8 ▸ hb10.size
      have hn8z : n8 = 0→fhold b6.fl = 0:=fun h=>(hold_user HA6.out.ev.ok).2.1 (by rw [← HN8.out]; exact h)
      clear hl10 hb10 hn10 HL9 HX9 HB9 HV9 HN8
      have h8 : ¬ n8 = 0:=fun e=>h0 (by rw [← hh]; exact hn8z e)
      have d8 : ((n8 : Int) == 0) = false:=by simp; omega
      go_wp2
      go_loopw [85] (fun s wr2=>∃ i : Nat,s = .int .i64 (i : Nat)∧i≤n8∧LBx n0 g wr2 b6∧Below gm w wr2∧Bx gm wr2 #[.int .i64 (cf.log : Nat),.int .i64 (cf.data : Nat),.int .i64 (cf.queue : Nat),.int .i64 (cf.input : Nat),.int .i64 (cf.strikes : Nat),.int .i64 (cf.lease : Nat),.int .i64 (cf.idle : Nat),.int .i64 (cf.width : Nat)]∧Vals wr2 N8 a8 n8 (ints (b6.fl.roles.map (·.1)))∧N8≤wr2.heap.size) (fun s _=>n8 - (intOf s).toNat)
      case atStart=>exact ⟨0,rfl,Nat.zero_le _,HLs.out,HBs.out,HXs.out,HVs.out,hNs⟩
      case round =>
        obtain ⟨i,rfl,hi,hl,hb,hx,hv,hN⟩:=hrel
        have HL:=Lib.hid hl
        have HB:=Lib.hid hb
        have HX:=Lib.hid hx
        have HV:=Lib.hid hv
        clear hl hb hx hv HLs HBs HXs HVs
        by_cases hil : i < n8
        · have di : decide ((i : Int) < (n8 : Int)) = true:=decide_eq_true (by omega)
          obtain ⟨b9,o9,rfl,_,hc⟩:=ints_at HV.out (by omega)
          have hci:=hc i hil
          have hin:=HIn8.out i hil
          obtain ⟨x,hx⟩ : ∃ x,(b6.fl.roles.map (·.1)).getD i 0 = x:=⟨_,rfl⟩
          rw [hx] at hci hin
          obtain ⟨hs1,hs2⟩:=seen_user HA6.out.r3 HA6.out.ev.ok hin
          clear hc hx hin
          go_wp2_with fail
          refine (lb_seen HL.out x).mono ?_
          rintro e w9 ⟨rfl,hl9,hb9⟩
          rw [hs1]
          have HL9:=Lib.hid hl9
          have HB9:=Lib.hid (Below.trans HB.out (hb9.mono (by rw [← HG.out]; exact HB.out.size)))
          have HX9:=Lib.hid (HX.out.go hb9 (Nat.lt_of_lt_of_le hn0 HL.out.le))
          have HV9:=Lib.hid (HV.out.below (hb9.mono hN))
          have hN9:=Nat.le_trans hN hb9.size
          clear hl9 hb9 HL HB HX HV
          go_wp2
          go_roundw
          case rel=>exact ⟨i + 1,by go_num,by omega,HL9.out,HB9.out,HX9.out,HV9.out,hN9⟩
          case measure=>first | (simp [intOf]; omega) | (simp [intOf])
        · obtain rfl : i = n8:=by omega
          have di : decide ((i : Int) < (i : Int)) = false:=decide_eq_false (by omega)
          go_wp2
          go_roundw
          case rel=>exact ⟨k + 1,b6,by go_num,by omega,HL.out,HA6,HB.out,HX.out⟩
          case measure=>simp [intOf]; omega
theorem w_in : Tryz.checked.prog.inits.idxOf? 6 = none:=by kernel_rfl
theorem w_ok (os : Os) : Input.okWideB Tryz.prog ((World.doorLaid Tryz.prog 400 os).forCall (fun _ _=>0) ⟨#[],#[.agg #[.int .i64 0,.int .i64 0,.int .i64 0,.int .i64 0,.int .i64 0,.int .i64 0,.int .i64 0,.int .i64 0],.slice none 0 0],[]⟩) 6 ⟨#[],#[.agg #[.int .i64 0,.int .i64 0,.int .i64 0,.int .i64 0,.int .i64 0,.int .i64 0,.int .i64 0,.int .i64 0],.slice none 0 0],[]⟩ = true:=by kernel_rfl
theorem w_pre (os : Os) (H : Type) (enc : TypeId×Value→H) : Rows.brokerFloorSpec.preB enc Tryz.prog Tryz.f6 [] false ((World.doorLaid Tryz.prog 400 os).forCall (fun _ _=>0) ⟨#[],#[.agg #[.int .i64 0,.int .i64 0,.int .i64 0,.int .i64 0,.int .i64 0,.int .i64 0,.int .i64 0,.int .i64 0],.slice none 0 0],[]⟩).memory #[.agg #[.int .i64 0,.int .i64 0,.int .i64 0,.int .i64 0,.int .i64 0,.int .i64 0,.int .i64 0,.int .i64 0],.slice none 0 0] 8 = true:=by kernel_rfl
theorem w_sz (os : Os) (H : Type) (enc : TypeId×Value→H) : Rows.brokerFloorSpec.sizedB enc Tryz.prog Tryz.f6 false ((World.doorLaid Tryz.prog 400 os).forCall (fun _ _=>0) ⟨#[],#[.agg #[.int .i64 0,.int .i64 0,.int .i64 0,.int .i64 0,.int .i64 0,.int .i64 0,.int .i64 0,.int .i64 0],.slice none 0 0],[]⟩).memory #[.agg #[.int .i64 0,.int .i64 0,.int .i64 0,.int .i64 0,.int .i64 0,.int .i64 0,.int .i64 0,.int .i64 0],.slice none 0 0] 8 = true:=by kernel_rfl
set_option maxRecDepth 100000 in
theorem lifted (os : Os) (started : os.Started) (H : Type) (enc : TypeId×Value→H) :
    ReturnsInHanded {} Tryz.checked os 6 .any (fun w args=>(Rows.brokerFloorSpec.pre enc Tryz.prog Tryz.f6 [] false w args∧laidMetH Tryz.prog laidL w)∧sizedMet enc Tryz.prog Tryz.f6 (OpenSpec.ofChange Rows.brokerFloorSpec) false w args)
      (Rows.brokerFloorSpec.post enc Tryz.prog Tryz.f6 false true false false):=by
  refine returnsInHanded_of_change_and (C:=Tryz.checked) (X:=fun w _=>laidMetH Tryz.prog laidL w) (fun _ _ _ hh h=>h.of_heap hh) own started w_in Tryz.func6
    (ChangeSpec.witness_shaped (enc:=enc) (C:=Tryz.checked) (os:=os) (X:=fun w _=>laidMetH Tryz.prog laidL w) false (World.doorLaid Tryz.prog 400 os) #[.agg #[.int .i64 0,.int .i64 0,.int .i64 0,.int .i64 0,.int .i64 0,.int .i64 0,.int .i64 0,.int .i64 0],.slice none 0 0] 8 rfl (door_shaped os _) (w_ok os) (w_pre os H enc) (w_sz os H enc) (door_met os _)) ?_
  intro W base args ds gs before hval0 hW hcnd hsz0 hL _
  have hti:=ti_of hL
  have hval : ∀ (j : Nat) t v,Tryz.f6.params[j]? = some t→args[j]? = some v→Value.okWide Tryz.prog W .any base t v:=hval0
  have hW':=hW
  obtain ⟨p,q,hA0,hV,rfl,hfz,hnd⟩:=hW
  have hsz : (DataW.weightsEach Tryz.prog (Tryz.f6.params.toList ++ Rows.brokerFloorSpec.plain.varTypes Tryz.prog) (ds ++ gs)).all (·≤reachBytes) = true:=hsz0
  have hA : DataW.TrodAll enc Tryz.prog W 0 (fun _=>true) true Tryz.f6.params.toList args.toList ds p:=hA0
  rw [Tryz.params6] at hA hval hsz
  obtain ⟨v0,vs0,d0,ds0,p0,q0,hargs,rfl,rfl,h0,r0⟩:=trodAll_cons hA
  obtain ⟨v1,vs1,d1,ds1,p1,q1,rfl,rfl,rfl,h1,r1⟩:=trodAll_cons r0
  obtain ⟨rfl,rfl,rfl⟩:=trodAll_nil r1
  obtain rfl : args = #[v0,v1]:=by cases args; simp_all
  obtain ⟨rfl,rfl⟩:=trodVars_none hV
  have k0:=h0
  have lt0 : ∀ x∈p0,x.block < W.heap.size:=by obtain ⟨m,hm⟩:=k0; exact DataW.trod_lt m _ _ _ hm
  obtain ⟨ca0,cb0,cc0,cd0,ce0,cf0,cg0,ch0,rfl⟩:=open_conf (hval 0 23 v0 rfl rfl) h0
  obtain ⟨a1,len1,cap1,rfl⟩:=okWide_slice Tryz.underlying24 (hval 1 24 v1 rfl rfl)
  have k1:=h1
  have lt1 : ∀ x∈p1,x.block < W.heap.size:=by obtain ⟨m,hm⟩:=k1; exact DataW.trod_lt m _ _ _ hm
  obtain ⟨K1,I1,R1,A1,L1,C1,T1,w1,g1⟩ : ∃ K I R A L C T,Ievs W W.heap.size a1 len1 K I R A L C T∧len1≤cap1∧cap1≤maxLen:=by
    obtain ⟨fuel,hf⟩:=h1
    exact open_ievs hf (fits_of hsz (j:=1) rfl rfl)
  clear hA0 hval0 hsz hsz0
  refine (walk ca0 cb0 cc0 cd0 ce0 cf0 cg0 ch0 a1 len1 cap1 K1 I1 R1 A1 L1 C1 T1 W w1 g1 hti).mono fun e W' ⟨he,bel⟩=>?_
  subst he
  exact ⟨_,rfl,_,_,_,[],_,[],hW',trodAll_mk1 (shut_bool Tryz.underlying4 _),(trodAll_cons_mk (Below.trod laidOut (by kernel_rfl) (of_decide_eq_true (by kernel_rfl)) k0 bel lt0) (trodAll_cons_mk (Below.trod laidOut (by kernel_rfl) (of_decide_eq_true (by kernel_rfl)) k1 bel lt1) trodAll_mk0)),rfl,bel.frame _,fun h=>by cases h⟩
theorem q0 : (Rows.brokerFloorRow.wf (OpenSpec.ofChange Rows.brokerFloorSpec)) = true:=by kernel_rfl
theorem q3 : (Tryz.f6.params.all (Tryz.prog.readableRec ·)) = true:=by kernel_rfl
theorem q4 : (namedTie Tryz.prog Rows.brokerFloorRow.named Rows.brokerFloorSpec.vars) = true:=by kernel_rfl
theorem q5 : ((Rows.brokerFloorRow.stops == [])) = true:=by kernel_rfl
theorem q7 : ((Rows.brokerFloorRow.knobs == [])) = true:=by kernel_rfl
theorem q9 : ((Rows.brokerFloorRow.inPlace == Tryz.prog.inPlace 6)) = true:=by kernel_rfl
theorem q10 : ((Rows.brokerFloorRow.unfollowed == Tryz.prog.unfollowed 6)) = true:=by kernel_rfl
theorem q11 : ((Rows.brokerFloorRow.recurses == Tryz.prog.recurses 6)) = true:=by kernel_rfl
theorem q12 : ((Rows.brokerFloorRow.named == Tryz.prog.varsNamed 6)) = true:=by kernel_rfl
theorem q13 : ((Rows.brokerFloorRow.maps == (Tryz.f6.params.toList ++ Rows.brokerFloorSpec.plain.varTypes Tryz.prog).any (Tryz.prog.mapsRec ·))) = true:=by kernel_rfl
theorem q14 : ((Rows.brokerFloorRow.ifaces == (Tryz.f6.params.toList ++ Rows.brokerFloorSpec.plain.varTypes Tryz.prog).any (Tryz.prog.ifacesRec ·))) = true:=by kernel_rfl
theorem q15 : ((Rows.brokerFloorRow.mapsOut == Tryz.prog.mapsAmong Tryz.f6.resultTypes.toList)) = true:=by kernel_rfl
theorem q16 : ((Rows.brokerFloorRow.loops == (Tryz.f6.params.toList ++ Rows.brokerFloorSpec.plain.varTypes Tryz.prog).any (Tryz.prog.loopsFrom ·))) = true:=by kernel_rfl
theorem q17 : ((Rows.brokerFloorRow.wideKeys == (Tryz.f6.params.toList ++ Rows.brokerFloorSpec.plain.varTypes Tryz.prog ++ Tryz.f6.resultTypes.toList).any (Tryz.prog.wideKeysFrom ·))) = true:=by kernel_rfl
theorem q18 : (Rows.brokerFloorSpec.vars.all (Tryz.prog.varReadable ·)) = true:=by kernel_rfl
theorem q19 : (Tryz.f6.resultTypes.all (fun t=>Tryz.prog.readableRec t && decide (t < Tryz.prog.types.size))) = true:=by kernel_rfl
theorem q20 : ((Rows.brokerFloorRow.ifacesOut == Tryz.f6.resultTypes.toList.any (Tryz.prog.ifacesRec ·))) = true:=by kernel_rfl
theorem q21 : ((Rows.brokerFloorRow.loopsOut == Tryz.f6.resultTypes.toList.any (Tryz.prog.loopsFrom ·))) = true:=by kernel_rfl
theorem q22 : ((Rows.brokerFloorRow.plainKeys == Tryz.prog.plainKeys)) = true:=(show Rows.brokerFloorRow.plainKeys = Rows.brokerEventsRow.plainKeys from rfl) ▸ pq22
theorem q23 : (Rows.brokerFloorRow.shortTexts.isNone) = true:=by kernel_rfl
theorem q26 : ((Rows.brokerFloorRow.lifted == Tryz.prog.liftsFinal)) = true:=(show Rows.brokerFloorRow.lifted = Rows.brokerEventsRow.lifted from rfl) ▸ pq26
theorem q27 : ((Tryz.prog.make == some Rows.brokerFloorRow.make)) = true:=(show Rows.brokerFloorRow.make = Rows.brokerEventsRow.make from rfl) ▸ pq27
theorem q28 : kindsAre Tryz.prog Rows.brokerFloorRow Tryz.f6 = true:=by kernel_rfl
theorem q29 : ((Rows.brokerFloorRow.pinned == Rows.brokerFloorRow.pinnedBy)) = true:=by kernel_rfl
theorem q30 : ((Rows.brokerFloorRow.veiled == (Tryz.f6.params.toList ++ Rows.brokerFloorSpec.plain.varTypes Tryz.prog ++ Tryz.f6.resultTypes.toList).any (Tryz.prog.veiledRec ·))) = true:=by kernel_rfl
theorem q31 : (Rows.brokerFloorRow.veiledFits Tryz.prog Tryz.f6.params.toList (Tryz.f6.params.toList ++ Rows.brokerFloorSpec.plain.varTypes Tryz.prog ++ Tryz.f6.resultTypes.toList)) = true:=by kernel_rfl
theorem q_named : Tryz.prog.funcNamed Rows.brokerFloorRow.func = some 6:=by kernel_rfl
theorem q_inst : Tryz.f6.isInstance Tryz.prog Rows.brokerFloorRow.origin Rows.brokerFloorRow.targs:=of_decide_eq_true (by kernel_rfl)
theorem q_wrap : Tryz.f6.isWrapper Tryz.prog Rows.brokerFloorRow.wrapper Rows.brokerFloorRow.mainSum:=by unfold Func.isWrapper; first | (rw [if_pos (by decide +kernel)]; kernel_rfl) | (rw [if_neg (by decide +kernel)]; exact ⟨rfl,rfl⟩)
set_option maxRecDepth 100000 in
theorem q_all : joinedFacts Tryz.prog 6 Tryz.f6 Rows.brokerFloorSpec Rows.brokerFloorRow = true:=joined_of (P:=Tryz.prog) (f:=6) (fn:=Tryz.f6) (s:=Rows.brokerFloorSpec) (c:=Rows.brokerFloorRow) q0 pq1 pq2 q3 q4 q5 pq6 q7 pq8 q9 q10 q11 q12 q13 q14 q15 q16 q17 q18 q19 q20 q21 q22 q23 pq24 pq25 q26 q27 q28 q29 q30 q31
theorem over : Rows.BrokerFloorSaid:=
  OpenClaim.holds_of_wide 6 Tryz.f6 rfl rfl rfl rfl rfl rfl rfl ⟨rfl,rfl,rfl,rfl,rfl⟩ rfl rfl rfl rfl rfl q_named Tryz.func6 q_all q_inst q_wrap
    (fun os started H enc _=>lifted os started H enc)
theorem c_wf : Rows.brokerFloorRow.wfByText (OpenSpec.ofChange Rows.brokerFloorSpec) = true:=by kernel_rfl
theorem c_looks : true = Tryz.prog.looks []:=by kernel_rfl
theorem c_stand : ([23,24].all fun u=>!Tryz.prog.wantsStandIn u) = true:=by kernel_rfl
theorem c_goes : false = Rows.brokerFloorRow.goesBy Tryz.prog:=by kernel_rfl
end Go.Proofs.YtjmdddhbdofppaaGreatDoor.brokerFloor
namespace Go.Proofs.YtjmdddhbdofppaaGreatDoor
theorem brokerFloor_holds : Rows.BrokerFloorCardSaid:=
  Claim7.holds_tied_plain_at (c:=Rows.brokerFloorRow) .later [] _ true _ true
    brokerFloor.over (fun _ h=>by cases h) brokerFloor.c_wf (fun _ h=>by cases h) brokerFloor_row_tie rfl ⟨rfl,rfl⟩ main_is rfl
    (fun f fn hf hfn=>by
      obtain rfl : f = 6:=Option.some.inj (brokerFloor.q_named.symm.trans hf) |>.symm
      obtain rfl : fn = Tryz.f6:=(Option.some.inj (Tryz.func6.symm.trans hfn)).symm
      exact ⟨brokerFloor.c_looks,fun j t ht=>by
        rw [Tryz.params6] at ht
        have hm : t∈[23,24]:=by simpa using Array.mem_of_getElem? ht
        exact (show Tryz.prog.wantsStandIn t = false by simpa using List.all_eq_true.1 brokerFloor.c_stand t hm)⟩)
    brokerFloor.c_goes
#print axioms brokerFloor_holds
end Go.Proofs.YtjmdddhbdofppaaGreatDoor
