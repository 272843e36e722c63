/- WholeFloor: for every input the law answers true, and its arguments read as before. Conditions: none. -/
import Derived.BigQuiet
import Derived.Test.YtalichkdeekdcaaGreatDoorZd32
import Derived.Test.YtalichkdeekdcaaGreatDoorZd46
import Derived.Test.YtalichkdeekdcaaGreatDoorZd47
import Derived.Test.YtalichkdeekdcaaGreatDoorZd48
namespace Go.Proofs.YtalichkdeekdcaaGreatDoor.wholeFloor
open Go.ChangeShapes Go.WideShapes Go.ChangeAt Go.RowKit
open Fr Bk
theorem lb_pdo {n0 g:Nat} {w:World} {b:Br} {i T m:Nat} (h:LBx n0 g w b) (he:EvOk b i T m) (hi:i≤1000000000) (hT:T≤100000000) (e:Sc.Ev) (hm:m+ewt e≤1000000) :
  Calls Tryz.prog 27 #[.pointer (some (at0 g)),evv e] w fun r w'=>r = .returned (outv (pE b e) (pT b e))∧LBx n0 g w' (pEv b e)∧Below n0 w w':=by
 obtain ⟨F,rs,h⟩:=h
 exact (pdo_any h.is he hi hT e hm).mono fun e w' hg=>h.e hg
theorem r3_pEv {b:Br} (h:R3 b) (e:Sc.Ev):R3 (pEv b e):=by
 unfold pEv
 split
 ·exact R3.doEv h _ _ _ _
 ·exact h
theorem r3_prun:∀ (l:List Sc.Ev) {b:Br},R3 b→R3 (prun b l)
 | [],_,h=>h
 | e :: l,_,h=>r3_prun l (r3_pEv h e)
set_option maxRecDepth 100000 in
set_option maxHeartbeats 8000000 in
theorem walk (ca0 cb0 cc0 cd0 ce0 cf0 cg0 ch0:Int) (a1:Option Addr) (len1 cap1:Nat) (T1:List Sc.Ev) (w:World)  (w1:EvIn w w.heap.size a1 T1) (g1:T1.length=len1∧len1≤cap1∧cap1≤maxLen) (ht:TI w) :
  Calls Tryz.prog 5 #[.agg (cv ca0 cb0 cc0 cd0 ce0 cf0 cg0 ch0),.slice a1 len1 cap1] w fun e w'=>e = .returned (.bool true)∧Below w.heap.size w w':=by
 have HTI:=Lib.hid ht
 have HEV:=Lib.hid w1
 have hln:T1.length=len1:=g1.1
 have hlc:len1≤cap1:=g1.2.1
 have h63:len1≤9223372036854775807:=by have:=g1.2.2; unfold maxLen at this; omega
 clear ht w1 g1
 by_cases hrt:rt ca0 cb0 cc0 cd0 ce0 cf0 cg0 ch0=true
 rotate_left
 ·as_aux_lemma =>
   have hrt:rt ca0 cb0 cc0 cd0 ce0 cf0 cg0 ch0=false:=by simpa using hrt
   unfold cv
   go_enter Tryz.func5,Tryz.ntmps5
   have hxm:=Bx.new w _ rfl #[.int .i64 ca0,.int .i64 cb0,.int .i64 cc0,.int .i64 cd0,.int .i64 ce0,.int .i64 cf0,.int .i64 cg0,.int .i64 ch0] 23
   have hba:Below w.heap.size w (w.alloc (.cells #[.int .i64 ca0,.int .i64 cb0,.int .i64 cc0,.int .i64 cd0,.int .i64 ce0,.int .i64 cf0,.int .i64 cg0,.int .i64 ch0] 23)):=(Below.refl _ _).alloc (Nat.le_refl _) _
   have hsz:w.heap.size<(w.alloc (.cells #[.int .i64 ca0,.int .i64 cb0,.int .i64 cc0,.int .i64 cd0,.int .i64 ce0,.int .i64 cf0,.int .i64 cg0,.int .i64 ch0] 23)).heap.size:=by simp
   go_wp2_with fail
   generalize w.alloc (.cells #[.int .i64 ca0,.int .i64 cb0,.int .i64 cc0,.int .i64 cd0,.int .i64 ce0,.int .i64 cf0,.int .i64 cg0,.int .i64 ch0] 23)=wa at *
   obtain ⟨gm,hgm⟩:∃ gm,w.heap.size=gm:=⟨_,rfl⟩
   rw [hgm] at hxm hba hsz
   have HG:=Lib.hid hgm
   have hTI:=HTI.out.below (hgm ▸ hba)
   have HE0:=Lib.hid (show EvIn w gm a1 T1 from hgm ▸ HEV.out)
   rw [hgm]
   clear hgm HEV
   refine (alive_any wa hTI).mono ?_
   rintro e w1 ⟨rfl,hb1⟩
   have HX1:=Lib.hid (hxm.go hb1 hsz)
   have HB1:=Lib.hid (Below.trans hba (hb1.mono (Nat.le_of_lt hsz)))
   have HT1:=Lib.hid (hTI.below hb1)
   have HS1:=Lib.hid (Nat.lt_of_lt_of_le hsz hb1.size)
   clear hxm hba hb1 hTI hsz
   have HF:=Lib.hid (tfew_any a1 len1 cap1 T1 w1 ((HE0.out.below HB1.out).more (Nat.le_of_lt HS1.out)) hln h63)
   go_wp2_with fail
   refine HF.out.mono ?_
   rintro e w2 ⟨f,rfl,hyes,hb2⟩
   have HX2:=Lib.hid (HX1.out.go hb2 HS1.out)
   have HB2:=Lib.hid (Below.trans HB1.out (hb2.mono (Nat.le_of_lt HS1.out)))
   have HT2:=Lib.hid (HT1.out.below hb2)
   have HS2:=Lib.hid (Nat.lt_of_lt_of_le HS1.out hb2.size)
   clear hb2 HX1 HB1 HT1 HS1 HF
   rcases f with _ | _
   ·go_wp2
    go_ret
    exact ⟨rfl,by rw [HG.out]; exact HB2.out⟩
   have z0:=HX2.out.cell 0 (.int .i64 ca0) rfl
   have z1:=HX2.out.cell 1 (.int .i64 cb0) rfl
   have z2:=HX2.out.cell 2 (.int .i64 cc0) rfl
   have z3:=HX2.out.cell 3 (.int .i64 cd0) rfl
   have z4:=HX2.out.cell 4 (.int .i64 ce0) rfl
   have z5:=HX2.out.cell 5 (.int .i64 cf0) rfl
   have z6:=HX2.out.cell 6 (.int .i64 cg0) rfl
   have z7:=HX2.out.cell 7 (.int .i64 ch0) rfl
   go_wp2_with fail
   refine (cright_any ca0 cb0 cc0 cd0 ce0 cf0 cg0 ch0 w2).mono ?_
   rintro e w3 ⟨rfl,hb3⟩
   rw [hrt]
   have HB3:=Lib.hid (Below.trans HB2.out (hb3.mono (Nat.le_of_lt HS2.out)))
   go_wp2
   go_ret
   exact ⟨rfl,by rw [HG.out]; exact HB3.out⟩
 obtain ⟨cf,hcf,hev0,rfl,rfl,rfl,rfl,rfl,rfl,rfl,rfl⟩:=rt_cf hrt
 have HC:=Lib.hid (And.intro hcf hev0)
 clear hcf hev0
 unfold cv
 go_enter Tryz.func5,Tryz.ntmps5
 have hxm:=Bx.new w _ rfl #[.int .i64 (cf.log:Nat),.int .i64 (cf.data:Nat),.int .i64 (cf.queue:Nat),.int .i64 (cf.input:Nat),.int .i64 (cf.strikes:Nat),.int .i64 (cf.lease:Nat),.int .i64 (cf.idle:Nat),.int .i64 (cf.width:Nat)] 23
 have hba:Below w.heap.size w (w.alloc (.cells #[.int .i64 (cf.log:Nat),.int .i64 (cf.data:Nat),.int .i64 (cf.queue:Nat),.int .i64 (cf.input:Nat),.int .i64 (cf.strikes:Nat),.int .i64 (cf.lease:Nat),.int .i64 (cf.idle:Nat),.int .i64 (cf.width:Nat)] 23)):=(Below.refl _ _).alloc (Nat.le_refl _) _
 have hsz:w.heap.size<(w.alloc (.cells #[.int .i64 (cf.log:Nat),.int .i64 (cf.data:Nat),.int .i64 (cf.queue:Nat),.int .i64 (cf.input:Nat),.int .i64 (cf.strikes:Nat),.int .i64 (cf.lease:Nat),.int .i64 (cf.idle:Nat),.int .i64 (cf.width:Nat)] 23)).heap.size:=by simp
 go_wp2_with fail
 generalize w.alloc (.cells #[.int .i64 (cf.log:Nat),.int .i64 (cf.data:Nat),.int .i64 (cf.queue:Nat),.int .i64 (cf.input:Nat),.int .i64 (cf.strikes:Nat),.int .i64 (cf.lease:Nat),.int .i64 (cf.idle:Nat),.int .i64 (cf.width:Nat)] 23)=wa at *
 obtain ⟨gm,hgm⟩:∃ gm,w.heap.size=gm:=⟨_,rfl⟩
 rw [hgm] at hxm hba hsz
 have HG:=Lib.hid hgm
 have hTI:=HTI.out.below (hgm ▸ hba)
 have HE0:=Lib.hid (show EvIn w gm a1 T1 from hgm ▸ HEV.out)
 rw [hgm]
 clear hgm HEV
 refine (alive_any wa hTI).mono ?_
 rintro e w1 ⟨rfl,hb1⟩
 have HX1:=Lib.hid (hxm.go hb1 hsz)
 have HB1:=Lib.hid (Below.trans hba (hb1.mono (Nat.le_of_lt hsz)))
 have HT1:=Lib.hid (hTI.below hb1)
 have HS1:=Lib.hid (Nat.lt_of_lt_of_le hsz hb1.size)
 clear hxm hba hb1 hTI hsz
 have HF:=Lib.hid (tfew_any a1 len1 cap1 T1 w1 ((HE0.out.below HB1.out).more (Nat.le_of_lt HS1.out)) hln h63)
 go_wp2_with fail
 refine HF.out.mono ?_
 rintro e w2 ⟨f,rfl,hyes,hb2⟩
 have HX2:=Lib.hid (HX1.out.go hb2 HS1.out)
 have HB2:=Lib.hid (Below.trans HB1.out (hb2.mono (Nat.le_of_lt HS1.out)))
 have HT2:=Lib.hid (HT1.out.below hb2)
 have HS2:=Lib.hid (Nat.lt_of_lt_of_le HS1.out hb2.size)
 clear hb2 HX1 HB1 HT1 HS1 HF
 rcases f with _ | _
 ·go_wp2
  go_ret
  exact ⟨rfl,by rw [HG.out]; exact HB2.out⟩
 have z0:=HX2.out.cell 0 (.int .i64 (cf.log:Nat)) rfl
 have z1:=HX2.out.cell 1 (.int .i64 (cf.data:Nat)) rfl
 have z2:=HX2.out.cell 2 (.int .i64 (cf.queue:Nat)) rfl
 have z3:=HX2.out.cell 3 (.int .i64 (cf.input:Nat)) rfl
 have z4:=HX2.out.cell 4 (.int .i64 (cf.strikes:Nat)) rfl
 have z5:=HX2.out.cell 5 (.int .i64 (cf.lease:Nat)) rfl
 have z6:=HX2.out.cell 6 (.int .i64 (cf.idle:Nat)) rfl
 have z7:=HX2.out.cell 7 (.int .i64 (cf.width:Nat)) rfl
 obtain ⟨hev,h120,h6⟩:=hyes rfl
 have HRt:=Lib.hid hev
 have H6:=Lib.hid h6
 clear hyes hev h6
 go_wp2_with fail
 refine (cright_any ((cf.log:Nat)) ((cf.data:Nat)) ((cf.queue:Nat)) ((cf.input:Nat)) ((cf.strikes:Nat)) ((cf.lease:Nat)) ((cf.idle:Nat)) ((cf.width:Nat)) w2).mono ?_
 rintro e w3 ⟨rfl,hb3⟩
 rw [hrt]
 have HX3:=Lib.hid (HX2.out.go hb3 HS2.out)
 have HB3:=Lib.hid (Below.trans HB2.out (hb3.mono (Nat.le_of_lt HS2.out)))
 have HT3:=Lib.hid (HT2.out.below hb3)
 have HS3:=Lib.hid (Nat.lt_of_lt_of_le HS2.out hb3.size)
 have HTS:=Lib.hid (show tsum T1≤1000000 by have:=tsum_le T1; omega)
 have HLN:=Lib.hid hln
 clear hb3 HX2 HB2 HT2 HS2 h63 z0 z1 z2 z3 z4 z5 z6 z7
 have z0:=HX3.out.cell 0 (.int .i64 (cf.log:Nat)) rfl
 have z1:=HX3.out.cell 1 (.int .i64 (cf.data:Nat)) rfl
 have z2:=HX3.out.cell 2 (.int .i64 (cf.queue:Nat)) rfl
 have z3:=HX3.out.cell 3 (.int .i64 (cf.input:Nat)) rfl
 have z4:=HX3.out.cell 4 (.int .i64 (cf.strikes:Nat)) rfl
 have z5:=HX3.out.cell 5 (.int .i64 (cf.lease:Nat)) rfl
 have z6:=HX3.out.cell 6 (.int .i64 (cf.idle:Nat)) rfl
 have z7:=HX3.out.cell 7 (.int .i64 (cf.width:Nat)) rfl
 have HEv:=Lib.hid (show Calls Tryz.prog 26 #[.agg #[.int .i64 (cf.log:Nat),.int .i64 (cf.data:Nat),.int .i64 (cf.queue:Nat),.int .i64 (cf.input:Nat),.int .i64 (cf.strikes:Nat),.int .i64 (cf.lease:Nat),.int .i64 (cf.idle:Nat),.int .i64 (cf.width:Nat)],.slice none 0 0] w3 (PGives cf [] w3) from pevents_any HC.out.1 HC.out.2 none 0 0 [] w3 HT3.out (EvIn.nil _ _ _) rfl (by decide) (by decide))
 go_wp2_with fail
 refine HEv.out.mono ?_
 rintro r w4 ⟨g,n0,A4,c4,rfl,hn0,hls,_,_,hb4⟩
 rw [show (([]:List Sc.Ev).length)=0 from rfl]
 have hb4:Below w3.heap.size w3 w4:=hb4
 have HL4:=Lib.hid (show LBx n0 g w4 (prun (bnew cf) (T1.take 0)) from hls.lbx)
 have HB4:=Lib.hid (Below.trans HB3.out (hb4.mono (Nat.le_of_lt HS3.out)))
 have hg4:gm≤n0:=by have:=HS3.out; omega
 clear hls hb4 HX3 HB3 HT3 HEv hn0 z0 z1 z2 z3 z4 z5 z6 z7
 go_wp2
 go_loopw [33] (fun s wr=>∃ k:Nat,s = .int .i64 (k:Nat)∧k≤len1∧LBx n0 g wr (prun (bnew cf) (T1.take k))∧Below gm w wr) (fun s _=>len1 - (intOf s).toNat)
 case atStart=>exact ⟨0,rfl,Nat.zero_le _,HL4.out,HB4.out⟩
 case round =>
  obtain ⟨k,rfl,hk,hl,hb⟩:=hrel
  have HLr:=Lib.hid hl
  have HBr:=Lib.hid hb
  have hgw:gm≤wr.heap.size:=by rw [← HG.out]; exact hb.size
  clear hl hb HL4 HB4
  by_cases hlt:k<len1
  rotate_left
  ·obtain rfl:k=len1:=by omega
   have dk:decide ((k:Int)<(k:Int))=false:=by simp
   go_wp2
   go_ret
   exact ⟨rfl,by rw [HG.out]; exact HBr.out⟩
  have dk:decide ((k:Int)<(len1:Int))=true:=decide_eq_true (by omega)
  obtain ⟨e,he⟩:∃ e,T1[k]?=some e:=⟨_,List.getElem?_eq_getElem (by rw [HLN.out]; exact hlt)⟩
  obtain ⟨bb,off,rfl,hbB,hc⟩:=(HE0.out.below HBr.out).outer (by rw [HLN.out]; omega)
  obtain ⟨hc0,hc1,hc2,hc3⟩:=hc k e he
  have HEk:=Lib.hid he
  have hbe:Below wr.heap.size wr (wr.alloc (.cells #[.int .i64 e.k,.int .i64 e.i,.int .i64 e.n,.string (str e.t)] 30)):=(Below.refl _ _).alloc (Nat.le_refl _) _
  have HE:=Lib.hid (Bx.new wr wr.heap.size rfl #[.int .i64 e.k,.int .i64 e.i,.int .i64 e.n,.string (str e.t)] 30)
  clear hc he
  go_upto_region 11 with fail
  generalize wr.alloc _=w5 at *
  have HL5:=Lib.hid (HLr.out.below hbe)
  have HB5:=Lib.hid (Below.trans HBr.out (hbe.mono hgw))
  obtain ⟨e0,e1,e2,e3⟩:=HE.out.ev
  have htk:tsum (T1.take k)≤480000:=by
   have h1:=tsum_le (T1.take k)
   have h2:(T1.take k).length≤120:=by rw [List.length_take]; omega
   omega
  have hew:ewt e≤4000:=by
   unfold ewt
   rw [if_pos (HRt.out e (List.mem_of_getElem? HEk.out))]
   exact (Sc.rtE_in (HRt.out e (List.mem_of_getElem? HEk.out))).2.2.2.2.2.2
  have hev:=ev_from HC.out.2 (T1.take k) (by omega)
  have hlk:(T1.take k).length=k:=by rw [List.length_take,HLN.out]; omega
  rw [hlk] at hev
  have HDo:=Lib.hid (show Calls Tryz.prog 27 #[.pointer (some (at0 g)),.agg #[.int .i64 e.k,.int .i64 e.i,.int .i64 e.n,.string (str e.t)]] w5 (fun r w'=>r = .returned (outv (pE (prun (bnew cf) (T1.take k)) e) (pT (prun (bnew cf) (T1.take k)) e))∧LBx n0 g w' (pEv (prun (bnew cf) (T1.take k)) e)∧Below n0 w5 w') from lb_pdo HL5.out hev (by omega) (by omega) e (by omega))
  have hnx:pEv (prun (bnew cf) (T1.take k)) e=prun (bnew cf) (T1.take (k+1)):=by rw [take_next T1 k e HEk.out,prun_app]; rfl
  have htk2:tsum (T1.take (k+1))≤1000000:=by
   have h1:=tsum_le (T1.take (k+1))
   have h2:(T1.take (k+1)).length≤120:=by rw [List.length_take]; omega
   omega
  have HEv6:=Lib.hid (ev_from HC.out.2 (T1.take (k+1)) htk2)
  have HR6:=Lib.hid (r3_prun (T1.take (k+1)) (r3_new cf))
  rw [hnx] at HDo
  clear hc0 hc1 hc2 hc3 hbe HLr HBr htk hew hev hlk hnx htk2 HL5 HE
  obtain ⟨b6,hb6e⟩:∃ b6,prun (bnew cf) (T1.take (k+1))=b6:=⟨_,rfl⟩
  rw [hb6e] at HDo HEv6 HR6
  have HBe:=Lib.hid hb6e
  clear hb6e
  unfold outv at HDo
  go_wp2_with fail
  refine HDo.out.mono ?_
  rintro r w6 ⟨rfl,hl6,hb6⟩
  have HL6:=Lib.hid hl6
  have HB6:=Lib.hid (Below.trans HB5.out (hb6.mono hg4))
  clear hl6 hb6 HDo HB5 e0 e1 e2 e3
  obtain ⟨hu1,hu2,hu3,hu4,hu5⟩:=hold_user HEv6.out.ok
  have HS9:=Lib.hid (fun (h:Int) (hh:fhold b6.fl=h) (h0:h≠0)=>(seen_user HR6.out HEv6.out.ok (id:=h) (List.mem_map.2 ⟨_,rhas_of_mem (hh ▸ (hu1 (hh ▸ h0)).1),rfl⟩)).1)
  have HU1:=Lib.hid hu1
  obtain ⟨h,hh⟩:∃ h,fhold b6.fl=h:=⟨_,rfl⟩
  have hwh:wf64 h:=wf_small (by rw [← hh]; omega)
  clear hu1 hu2 hu3 hu4 hu5
  go_wp2_with fail
  refine (lb_holder HL6.out HEv6.out.ok).mono ?_
  rintro r w7 ⟨rfl,hl7,hb7⟩
  rw [hh]
  have HL7:=Lib.hid hl7
  have HB7:=Lib.hid (Below.trans HB6.out (hb7.mono (by rw [← HG.out]; exact HB6.out.size)))
  clear hl7 hb7 HL6 HB6
  by_cases h0:h=0
  ·subst h0
   have dh:((0:Int) == 0)=true:=rfl
   clear HU1 HS9
   go_wp2
   go_roundw
   case rel=>exact ⟨k+1,by go_num,by omega,by rw [HBe.out]; exact HL7.out,HB7.out⟩
   case measure=>simp [intOf]; omega
  have hu:=HU1.out (by rw [hh]; exact h0)
  have hse:=HS9.out h hh h0
  rw [hh] at hu
  obtain ⟨hok,hrn⟩:=hu
  have dh2:(h == 0)=false:=by simpa using h0
  obtain ⟨ro,hro⟩:∃ ro,rrole b6.fl.roles h=ro:=⟨_,rfl⟩
  rw [hro] at hrn
  have dr:(ro == 0)=false:=by simpa using hrn
  clear HU1 HS9
  go_wp2_with fail
  refine (lb_role HL7.out HEv6.out.ok h hwh).mono ?_
  rintro r w8 ⟨rfl,hl8,hb8⟩
  rw [hok,hro]
  have HL8:=Lib.hid hl8
  have HB8:=Lib.hid (Below.trans HB7.out (hb8.mono (by rw [← HG.out]; exact HB7.out.size)))
  clear hl8 hb8 HL7 HB7
  go_wp2_with fail
  refine (lb_seen HL8.out h).mono ?_
  rintro r w9 ⟨rfl,hl9,hb9⟩
  rw [hse]
  have HL9:=Lib.hid hl9
  have HB9:=Lib.hid (Below.trans HB8.out (hb9.mono (by rw [← HG.out]; exact HB8.out.size)))
  clear hl9 hb9 HL8 HB8 hse
  go_wp2
  go_roundw
  case rel=>exact ⟨k+1,by go_num,by omega,by rw [HBe.out]; exact HL9.out,HB9.out⟩
  case measure=>simp [intOf]; omega
theorem w_in:Tryz.checked.prog.inits.idxOf? 5=none:=by kernel_rfl
theorem w_ok (os:Os):Input.okWideB Tryz.prog ((World.doorLaid Tryz.prog 400 os).forCall (fun _ _=>0) ⟨#[],#[.agg #[.int .i64 0,.int .i64 0,.int .i64 0,.int .i64 0,.int .i64 0,.int .i64 0,.int .i64 0,.int .i64 0],.slice none 0 0],[]⟩) 5 ⟨#[],#[.agg #[.int .i64 0,.int .i64 0,.int .i64 0,.int .i64 0,.int .i64 0,.int .i64 0,.int .i64 0,.int .i64 0],.slice none 0 0],[]⟩=true:=by kernel_rfl
theorem w_pre (os:Os) (H:Type) (enc:TypeId×Value→H):Rows.wholeFloorSpec.preB enc Tryz.prog Tryz.f5 [] false ((World.doorLaid Tryz.prog 400 os).forCall (fun _ _=>0) ⟨#[],#[.agg #[.int .i64 0,.int .i64 0,.int .i64 0,.int .i64 0,.int .i64 0,.int .i64 0,.int .i64 0,.int .i64 0],.slice none 0 0],[]⟩).memory #[.agg #[.int .i64 0,.int .i64 0,.int .i64 0,.int .i64 0,.int .i64 0,.int .i64 0,.int .i64 0,.int .i64 0],.slice none 0 0] 8=true:=by kernel_rfl
theorem w_sz (os:Os) (H:Type) (enc:TypeId×Value→H):Rows.wholeFloorSpec.sizedB enc Tryz.prog Tryz.f5 false ((World.doorLaid Tryz.prog 400 os).forCall (fun _ _=>0) ⟨#[],#[.agg #[.int .i64 0,.int .i64 0,.int .i64 0,.int .i64 0,.int .i64 0,.int .i64 0,.int .i64 0,.int .i64 0],.slice none 0 0],[]⟩).memory #[.agg #[.int .i64 0,.int .i64 0,.int .i64 0,.int .i64 0,.int .i64 0,.int .i64 0,.int .i64 0,.int .i64 0],.slice none 0 0] 8=true:=by kernel_rfl
set_option maxRecDepth 100000 in
theorem lifted (os:Os) (started:os.Started) (H:Type) (enc:TypeId×Value→H) :
  ReturnsInHanded {} Tryz.checked os 5 .any (fun w args=>(Rows.wholeFloorSpec.pre enc Tryz.prog Tryz.f5 [] false w args∧laidMetH Tryz.prog laidL w)∧sizedMet enc Tryz.prog Tryz.f5 (OpenSpec.ofChange Rows.wholeFloorSpec) false w args)
   (Rows.wholeFloorSpec.post enc Tryz.prog Tryz.f5 false true false false):=by
 refine returnsInHanded_of_change_and (C:=Tryz.checked) (X:=fun w _=>laidMetH Tryz.prog laidL w) (fun _ _ _ hh h=>h.of_heap hh) own started w_in Tryz.func5
  (ChangeSpec.witness_shaped (enc:=enc) (C:=Tryz.checked) (os:=os) (X:=fun w _=>laidMetH Tryz.prog laidL w) false (World.doorLaid Tryz.prog 400 os) #[.agg #[.int .i64 0,.int .i64 0,.int .i64 0,.int .i64 0,.int .i64 0,.int .i64 0,.int .i64 0,.int .i64 0],.slice none 0 0] 8 rfl (door_shaped os _) (w_ok os) (w_pre os H enc) (w_sz os H enc) (door_met os _)) ?_
 intro W base args ds gs before hval0 hW hcnd hsz0 hL _
 have hti:=ti_of hL
 have hval:∀ (j:Nat) t v,Tryz.f5.params[j]?=some t→args[j]?=some v→Value.okWide Tryz.prog W .any base t v:=hval0
 have hW':=hW
 obtain ⟨p,q,hA0,hV,rfl,hfz,hnd⟩:=hW
 have hsz:(DataW.weightsEach Tryz.prog (Tryz.f5.params.toList ++ Rows.wholeFloorSpec.plain.varTypes Tryz.prog) (ds ++ gs)).all (·≤reachBytes)=true:=hsz0
 have hA:DataW.TrodAll enc Tryz.prog W 0 (fun _=>true) true Tryz.f5.params.toList args.toList ds p:=hA0
 rw [Tryz.params5] at hA hval hsz
 obtain ⟨v0,vs0,d0,ds0,p0,q0,hargs,rfl,rfl,h0,r0⟩:=trodAll_cons hA
 obtain ⟨v1,vs1,d1,ds1,p1,q1,rfl,rfl,rfl,h1,r1⟩:=trodAll_cons r0
 obtain ⟨rfl,rfl,rfl⟩:=trodAll_nil r1
 obtain rfl:args = #[v0,v1]:=by cases args; simp_all
 obtain ⟨rfl,rfl⟩:=trodVars_none hV
 have k0:=h0
 have lt0:∀ x∈p0,x.block<W.heap.size:=by obtain ⟨m,hm⟩:=k0; exact DataW.trod_lt m _ _ _ hm
 obtain ⟨ca0,cb0,cc0,cd0,ce0,cf0,cg0,ch0,rfl⟩:=open_conf (hval 0 23 v0 rfl rfl) h0
 obtain ⟨a1,len1,cap1,rfl⟩:=okWide_slice Tryz.underlying25 (hval 1 25 v1 rfl rfl)
 have k1:=h1
 have lt1:∀ x∈p1,x.block<W.heap.size:=by obtain ⟨m,hm⟩:=k1; exact DataW.trod_lt m _ _ _ hm
 obtain ⟨T1,w1,g1⟩:∃ T,EvIn W W.heap.size a1 T∧T.length=len1∧len1≤cap1∧cap1≤maxLen:=by
  obtain ⟨fuel,hf⟩:=h1
  exact open_events hf
 clear hA0 hval0 hsz hsz0
 refine (walk ca0 cb0 cc0 cd0 ce0 cf0 cg0 ch0 a1 len1 cap1 T1 W w1 g1 hti).mono fun e W' ⟨he,bel⟩=>?_
 subst he
 exact ⟨_,rfl,_,_,_,[],_,[],hW',trodAll_mk1 (shut_bool Tryz.underlying4 _),(trodAll_cons_mk (Below.trod laidOut (by kernel_rfl) (of_decide_eq_true (by kernel_rfl)) k0 bel lt0) (trodAll_cons_mk (Below.trod laidOut (by kernel_rfl) (of_decide_eq_true (by kernel_rfl)) k1 bel lt1) trodAll_mk0)),rfl,bel.frame _,fun h=>by cases h⟩
theorem q0:(Rows.wholeFloorRow.wf (OpenSpec.ofChange Rows.wholeFloorSpec))=true:=by kernel_rfl
theorem q3:(Tryz.f5.params.all (Tryz.prog.readableRec ·))=true:=by kernel_rfl
theorem q4:(namedTie Tryz.prog Rows.wholeFloorRow.named Rows.wholeFloorSpec.vars)=true:=by kernel_rfl
theorem q5:((Rows.wholeFloorRow.stops == []))=true:=by kernel_rfl
theorem q7:((Rows.wholeFloorRow.knobs == []))=true:=by kernel_rfl
theorem q9:((Rows.wholeFloorRow.inPlace == Tryz.prog.inPlace 5))=true:=by kernel_rfl
theorem q10:((Rows.wholeFloorRow.unfollowed == Tryz.prog.unfollowed 5))=true:=by kernel_rfl
theorem q11:((Rows.wholeFloorRow.recurses == Tryz.prog.recurses 5))=true:=by kernel_rfl
theorem q12:((Rows.wholeFloorRow.named == Tryz.prog.varsNamed 5))=true:=by kernel_rfl
theorem q13:((Rows.wholeFloorRow.maps == (Tryz.f5.params.toList ++ Rows.wholeFloorSpec.plain.varTypes Tryz.prog).any (Tryz.prog.mapsRec ·)))=true:=by kernel_rfl
theorem q14:((Rows.wholeFloorRow.ifaces == (Tryz.f5.params.toList ++ Rows.wholeFloorSpec.plain.varTypes Tryz.prog).any (Tryz.prog.ifacesRec ·)))=true:=by kernel_rfl
theorem q15:((Rows.wholeFloorRow.mapsOut == Tryz.prog.mapsAmong Tryz.f5.resultTypes.toList))=true:=by kernel_rfl
theorem q16:((Rows.wholeFloorRow.loops == (Tryz.f5.params.toList ++ Rows.wholeFloorSpec.plain.varTypes Tryz.prog).any (Tryz.prog.loopsFrom ·)))=true:=by kernel_rfl
theorem q17:((Rows.wholeFloorRow.wideKeys == (Tryz.f5.params.toList ++ Rows.wholeFloorSpec.plain.varTypes Tryz.prog ++ Tryz.f5.resultTypes.toList).any (Tryz.prog.wideKeysFrom ·)))=true:=by kernel_rfl
theorem q18:(Rows.wholeFloorSpec.vars.all (Tryz.prog.varReadable ·))=true:=by kernel_rfl
theorem q19:(Tryz.f5.resultTypes.all (fun t=>Tryz.prog.readableRec t && decide (t<Tryz.prog.types.size)))=true:=by kernel_rfl
theorem q20:((Rows.wholeFloorRow.ifacesOut == Tryz.f5.resultTypes.toList.any (Tryz.prog.ifacesRec ·)))=true:=by kernel_rfl
theorem q21:((Rows.wholeFloorRow.loopsOut == Tryz.f5.resultTypes.toList.any (Tryz.prog.loopsFrom ·)))=true:=by kernel_rfl
theorem q22:((Rows.wholeFloorRow.plainKeys == Tryz.prog.plainKeys))=true:=(show Rows.wholeFloorRow.plainKeys=Rows.wholeTilesRow.plainKeys from rfl) ▸ pq22
theorem q23:(Rows.wholeFloorRow.shortTexts.isNone)=true:=by kernel_rfl
theorem q26:((Rows.wholeFloorRow.lifted == Tryz.prog.liftsFinal))=true:=(show Rows.wholeFloorRow.lifted=Rows.wholeTilesRow.lifted from rfl) ▸ pq26
theorem q27:((Tryz.prog.make == some Rows.wholeFloorRow.make))=true:=(show Rows.wholeFloorRow.make=Rows.wholeTilesRow.make from rfl) ▸ pq27
theorem q28:kindsAre Tryz.prog Rows.wholeFloorRow Tryz.f5=true:=by kernel_rfl
theorem q29:((Rows.wholeFloorRow.pinned == Rows.wholeFloorRow.pinnedBy))=true:=by kernel_rfl
theorem q30:((Rows.wholeFloorRow.veiled == (Tryz.f5.params.toList ++ Rows.wholeFloorSpec.plain.varTypes Tryz.prog ++ Tryz.f5.resultTypes.toList).any (Tryz.prog.veiledRec ·)))=true:=by kernel_rfl
theorem q31:(Rows.wholeFloorRow.veiledFits Tryz.prog Tryz.f5.params.toList (Tryz.f5.params.toList ++ Rows.wholeFloorSpec.plain.varTypes Tryz.prog ++ Tryz.f5.resultTypes.toList))=true:=by kernel_rfl
theorem q_named:Tryz.prog.funcNamed Rows.wholeFloorRow.func=some 5:=by kernel_rfl
theorem q_inst:Tryz.f5.isInstance Tryz.prog Rows.wholeFloorRow.origin Rows.wholeFloorRow.targs:=of_decide_eq_true (by kernel_rfl)
theorem q_wrap:Tryz.f5.isWrapper Tryz.prog Rows.wholeFloorRow.wrapper Rows.wholeFloorRow.mainSum:=by unfold Func.isWrapper; first | (rw [if_pos (by decide +kernel)]; kernel_rfl) | (rw [if_neg (by decide +kernel)]; exact ⟨rfl,rfl⟩)
set_option maxRecDepth 100000 in
theorem q_all:joinedFacts Tryz.prog 5 Tryz.f5 Rows.wholeFloorSpec Rows.wholeFloorRow=true:=joined_of (P:=Tryz.prog) (f:=5) (fn:=Tryz.f5) (s:=Rows.wholeFloorSpec) (c:=Rows.wholeFloorRow) q0 pq1 pq2 q3 q4 q5 pq6 q7 pq8 q9 q10 q11 q12 q13 q14 q15 q16 q17 q18 q19 q20 q21 q22 q23 pq24 pq25 q26 q27 q28 q29 q30 q31
theorem over:Rows.WholeFloorSaid:=
 OpenClaim.holds_of_wide 5 Tryz.f5 rfl rfl rfl rfl rfl rfl rfl ⟨rfl,rfl,rfl,rfl,rfl⟩ rfl rfl rfl rfl rfl q_named Tryz.func5 q_all q_inst q_wrap
  (fun os started H enc _=>lifted os started H enc)
theorem c_wf:Rows.wholeFloorRow.wfByText (OpenSpec.ofChange Rows.wholeFloorSpec)=true:=by kernel_rfl
theorem c_looks:true=Tryz.prog.looks []:=by kernel_rfl
theorem c_stand:([23,25].all fun u=>!Tryz.prog.wantsStandIn u)=true:=by kernel_rfl
theorem c_goes:false=Rows.wholeFloorRow.goesBy Tryz.prog:=by kernel_rfl
end Go.Proofs.YtalichkdeekdcaaGreatDoor.wholeFloor
namespace Go.Proofs.YtalichkdeekdcaaGreatDoor
theorem wholeFloor_holds:Rows.WholeFloorCardSaid:=
 Claim7.holds_tied_plain_at (c:=Rows.wholeFloorRow) .later [] _ true _ true
  wholeFloor.over (fun _ h=>by cases h) wholeFloor.c_wf (fun _ h=>by cases h) wholeFloor_row_tie rfl ⟨rfl,rfl⟩ main_is rfl
  (fun f fn hf hfn=>by
   obtain rfl:f=5:=Option.some.inj (wholeFloor.q_named.symm.trans hf) |>.symm
   obtain rfl:fn=Tryz.f5:=(Option.some.inj (Tryz.func5.symm.trans hfn)).symm
   exact ⟨wholeFloor.c_looks,fun j t ht=>by
    rw [Tryz.params5] at ht
    have hm:t∈[23,25]:=by simpa using Array.mem_of_getElem? ht
    exact (show Tryz.prog.wantsStandIn t=false by simpa using List.all_eq_true.1 wholeFloor.c_stand t hm)⟩)
  wholeFloor.c_goes
#print axioms wholeFloor_holds
end Go.Proofs.YtalichkdeekdcaaGreatDoor
