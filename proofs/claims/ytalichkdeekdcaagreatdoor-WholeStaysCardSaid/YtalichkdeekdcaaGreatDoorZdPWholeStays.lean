/- WholeStays: for every input the law answers true, and its arguments read as before. Conditions: none. -/
import Derived.BigQuiet
import Derived.Test.YtalichkdeekdcaaGreatDoorZd32
import Derived.Test.YtalichkdeekdcaaGreatDoorZd46
import Derived.Test.YtalichkdeekdcaaGreatDoorZd47
import Derived.Test.YtalichkdeekdcaaGreatDoorZd48
namespace Go.Proofs.YtalichkdeekdcaaGreatDoor.wholeStays
open Go.ChangeShapes Go.WideShapes Go.ChangeAt Go.RowKit
open Fr Bk
def Cs (l:List (Addr×Value)) (W:World):Prop:=∀ p∈l,W.cell? p.1=some p.2
theorem otin_more {w:World} {B B':Nat} {a:Option Addr} {L:List Ot} (h:OtIn w B a L) (hB:B≤B'):OtIn w B' a L:=fun hn=>by
 obtain ⟨b,off,e,hlt,hc⟩:=h hn
 exact ⟨b,off,e,Nat.lt_of_lt_of_le hlt hB,hc⟩
set_option maxRecDepth 100000 in
set_option maxHeartbeats 8000000 in
theorem walk (ca0 cb0 cc0 cd0 ce0 cf0 cg0 ch0:Int) (a1:Option Addr) (len1 cap1:Nat) (T1:List Sc.Ev) (w:World)  (w1:EvIn w w.heap.size a1 T1) (g1:T1.length=len1∧len1≤cap1∧cap1≤maxLen) (ht:TI w) :
    Calls Tryz.prog 11 #[.agg (cv ca0 cb0 cc0 cd0 ce0 cf0 cg0 ch0),.slice a1 len1 cap1] w fun e w'=>e = .returned (.bool true)∧Below w.heap.size w w':=by
  have HTI:=Lib.hid ht
  have HEV:=Lib.hid w1
  have hln:T1.length=len1:=g1.1
  have hlc:len1≤cap1:=g1.2.1
  have h63:len1≤9223372036854775807:=by have:=g1.2.2; unfold maxLen at this; omega
  clear ht w1 g1
  by_cases hrt:rt ca0 cb0 cc0 cd0 ce0 cf0 cg0 ch0=true
  rotate_left
  · as_aux_lemma =>
      have hrt:rt ca0 cb0 cc0 cd0 ce0 cf0 cg0 ch0=false:=by simpa using hrt
      unfold cv
      go_enter Tryz.func11,Tryz.ntmps11
      have hxm:=Bx.new w _ rfl #[.int .i64 ca0,.int .i64 cb0,.int .i64 cc0,.int .i64 cd0,.int .i64 ce0,.int .i64 cf0,.int .i64 cg0,.int .i64 ch0] 23
      have hba:Below w.heap.size w (w.alloc (.cells #[.int .i64 ca0,.int .i64 cb0,.int .i64 cc0,.int .i64 cd0,.int .i64 ce0,.int .i64 cf0,.int .i64 cg0,.int .i64 ch0] 23)):=(Below.refl _ _).alloc (Nat.le_refl _) _
      have hsz:w.heap.size<(w.alloc (.cells #[.int .i64 ca0,.int .i64 cb0,.int .i64 cc0,.int .i64 cd0,.int .i64 ce0,.int .i64 cf0,.int .i64 cg0,.int .i64 ch0] 23)).heap.size:=by simp
      go_wp2_with fail
      generalize w.alloc (.cells #[.int .i64 ca0,.int .i64 cb0,.int .i64 cc0,.int .i64 cd0,.int .i64 ce0,.int .i64 cf0,.int .i64 cg0,.int .i64 ch0] 23)=wa at *
      obtain ⟨gm,hgm⟩:∃ gm,w.heap.size=gm:=⟨_,rfl⟩
      rw [hgm] at hxm hba hsz
      have HG:=Lib.hid hgm
      have hTI:=HTI.out.below (hgm ▸ hba)
      have HE0:=Lib.hid (show EvIn w gm a1 T1 from hgm ▸ HEV.out)
      rw [hgm]
      clear hgm HEV
      refine (alive_any wa hTI).mono ?_
      rintro e w1 ⟨rfl,hb1⟩
      have HX1:=Lib.hid (hxm.go hb1 hsz)
      have HB1:=Lib.hid (Below.trans hba (hb1.mono (Nat.le_of_lt hsz)))
      have HT1:=Lib.hid (hTI.below hb1)
      have HS1:=Lib.hid (Nat.lt_of_lt_of_le hsz hb1.size)
      clear hxm hba hb1 hTI hsz
      have HF:=Lib.hid (tfew_any a1 len1 cap1 T1 w1 ((HE0.out.below HB1.out).more (Nat.le_of_lt HS1.out)) hln h63)
      go_wp2_with fail
      refine HF.out.mono ?_
      rintro e w2 ⟨f,rfl,hyes,hb2⟩
      have HX2:=Lib.hid (HX1.out.go hb2 HS1.out)
      have HB2:=Lib.hid (Below.trans HB1.out (hb2.mono (Nat.le_of_lt HS1.out)))
      have HT2:=Lib.hid (HT1.out.below hb2)
      have HS2:=Lib.hid (Nat.lt_of_lt_of_le HS1.out hb2.size)
      clear hb2 HX1 HB1 HT1 HS1 HF
      rcases f with _ | _
      · go_wp2
        go_ret
        exact ⟨rfl,by rw [HG.out]; exact HB2.out⟩
      have z0:=HX2.out.cell 0 (.int .i64 ca0) rfl
      have z1:=HX2.out.cell 1 (.int .i64 cb0) rfl
      have z2:=HX2.out.cell 2 (.int .i64 cc0) rfl
      have z3:=HX2.out.cell 3 (.int .i64 cd0) rfl
      have z4:=HX2.out.cell 4 (.int .i64 ce0) rfl
      have z5:=HX2.out.cell 5 (.int .i64 cf0) rfl
      have z6:=HX2.out.cell 6 (.int .i64 cg0) rfl
      have z7:=HX2.out.cell 7 (.int .i64 ch0) rfl
      go_wp2_with fail
      refine (cright_any ca0 cb0 cc0 cd0 ce0 cf0 cg0 ch0 w2).mono ?_
      rintro e w3 ⟨rfl,hb3⟩
      rw [hrt]
      have HB3:=Lib.hid (Below.trans HB2.out (hb3.mono (Nat.le_of_lt HS2.out)))
      go_wp2
      go_ret
      exact ⟨rfl,by rw [HG.out]; exact HB3.out⟩
  obtain ⟨cf,hcf,hev0,rfl,rfl,rfl,rfl,rfl,rfl,rfl,rfl⟩:=rt_cf hrt
  have HC:=Lib.hid (And.intro hcf hev0)
  clear hcf hev0
  unfold cv
  go_enter Tryz.func11,Tryz.ntmps11
  have hxm:=Bx.new w _ rfl #[.int .i64 (cf.log:Nat),.int .i64 (cf.data:Nat),.int .i64 (cf.queue:Nat),.int .i64 (cf.input:Nat),.int .i64 (cf.strikes:Nat),.int .i64 (cf.lease:Nat),.int .i64 (cf.idle:Nat),.int .i64 (cf.width:Nat)] 23
  have hba:Below w.heap.size w (w.alloc (.cells #[.int .i64 (cf.log:Nat),.int .i64 (cf.data:Nat),.int .i64 (cf.queue:Nat),.int .i64 (cf.input:Nat),.int .i64 (cf.strikes:Nat),.int .i64 (cf.lease:Nat),.int .i64 (cf.idle:Nat),.int .i64 (cf.width:Nat)] 23)):=(Below.refl _ _).alloc (Nat.le_refl _) _
  have hsz:w.heap.size<(w.alloc (.cells #[.int .i64 (cf.log:Nat),.int .i64 (cf.data:Nat),.int .i64 (cf.queue:Nat),.int .i64 (cf.input:Nat),.int .i64 (cf.strikes:Nat),.int .i64 (cf.lease:Nat),.int .i64 (cf.idle:Nat),.int .i64 (cf.width:Nat)] 23)).heap.size:=by simp
  go_wp2_with fail
  generalize w.alloc (.cells #[.int .i64 (cf.log:Nat),.int .i64 (cf.data:Nat),.int .i64 (cf.queue:Nat),.int .i64 (cf.input:Nat),.int .i64 (cf.strikes:Nat),.int .i64 (cf.lease:Nat),.int .i64 (cf.idle:Nat),.int .i64 (cf.width:Nat)] 23)=wa at *
  obtain ⟨gm,hgm⟩:∃ gm,w.heap.size=gm:=⟨_,rfl⟩
  rw [hgm] at hxm hba hsz
  have HG:=Lib.hid hgm
  have hTI:=HTI.out.below (hgm ▸ hba)
  have HE0:=Lib.hid (show EvIn w gm a1 T1 from hgm ▸ HEV.out)
  rw [hgm]
  clear hgm HEV
  refine (alive_any wa hTI).mono ?_
  rintro e w1 ⟨rfl,hb1⟩
  have HX1:=Lib.hid (hxm.go hb1 hsz)
  have HB1:=Lib.hid (Below.trans hba (hb1.mono (Nat.le_of_lt hsz)))
  have HT1:=Lib.hid (hTI.below hb1)
  have HS1:=Lib.hid (Nat.lt_of_lt_of_le hsz hb1.size)
  clear hxm hba hb1 hTI hsz
  have HF:=Lib.hid (tfew_any a1 len1 cap1 T1 w1 ((HE0.out.below HB1.out).more (Nat.le_of_lt HS1.out)) hln h63)
  go_wp2_with fail
  refine HF.out.mono ?_
  rintro e w2 ⟨f,rfl,hyes,hb2⟩
  have HX2:=Lib.hid (HX1.out.go hb2 HS1.out)
  have HB2:=Lib.hid (Below.trans HB1.out (hb2.mono (Nat.le_of_lt HS1.out)))
  have HT2:=Lib.hid (HT1.out.below hb2)
  have HS2:=Lib.hid (Nat.lt_of_lt_of_le HS1.out hb2.size)
  clear hb2 HX1 HB1 HT1 HS1 HF
  rcases f with _ | _
  · go_wp2
    go_ret
    exact ⟨rfl,by rw [HG.out]; exact HB2.out⟩
  have z0:=HX2.out.cell 0 (.int .i64 (cf.log:Nat)) rfl
  have z1:=HX2.out.cell 1 (.int .i64 (cf.data:Nat)) rfl
  have z2:=HX2.out.cell 2 (.int .i64 (cf.queue:Nat)) rfl
  have z3:=HX2.out.cell 3 (.int .i64 (cf.input:Nat)) rfl
  have z4:=HX2.out.cell 4 (.int .i64 (cf.strikes:Nat)) rfl
  have z5:=HX2.out.cell 5 (.int .i64 (cf.lease:Nat)) rfl
  have z6:=HX2.out.cell 6 (.int .i64 (cf.idle:Nat)) rfl
  have z7:=HX2.out.cell 7 (.int .i64 (cf.width:Nat)) rfl
  obtain ⟨hev,h120,h6⟩:=hyes rfl
  have HRt:=Lib.hid hev
  have H6:=Lib.hid h6
  clear hyes hev h6
  go_wp2_with fail
  refine (cright_any ((cf.log:Nat)) ((cf.data:Nat)) ((cf.queue:Nat)) ((cf.input:Nat)) ((cf.strikes:Nat)) ((cf.lease:Nat)) ((cf.idle:Nat)) ((cf.width:Nat)) w2).mono ?_
  rintro e w3 ⟨rfl,hb3⟩
  rw [hrt]
  have HX3:=Lib.hid (HX2.out.go hb3 HS2.out)
  have HB3:=Lib.hid (Below.trans HB2.out (hb3.mono (Nat.le_of_lt HS2.out)))
  have HT3:=Lib.hid (HT2.out.below hb3)
  have HS3:=Lib.hid (Nat.lt_of_lt_of_le HS2.out hb3.size)
  have HTS:=Lib.hid (show tsum T1≤1000000 by have:=tsum_le T1; omega)
  have HLN:=Lib.hid hln
  clear hb3 HX2 HB2 HT2 HS2 h63 z0 z1 z2 z3 z4 z5 z6 z7
  have z0:=HX3.out.cell 0 (.int .i64 (cf.log:Nat)) rfl
  have z1:=HX3.out.cell 1 (.int .i64 (cf.data:Nat)) rfl
  have z2:=HX3.out.cell 2 (.int .i64 (cf.queue:Nat)) rfl
  have z3:=HX3.out.cell 3 (.int .i64 (cf.input:Nat)) rfl
  have z4:=HX3.out.cell 4 (.int .i64 (cf.strikes:Nat)) rfl
  have z5:=HX3.out.cell 5 (.int .i64 (cf.lease:Nat)) rfl
  have z6:=HX3.out.cell 6 (.int .i64 (cf.idle:Nat)) rfl
  have z7:=HX3.out.cell 7 (.int .i64 (cf.width:Nat)) rfl
  have hel:(Sc.evs T1).length≤262000:=by
    rw [Sc.evs_len]
    have h1:=H6.out
    unfold tot at h1
    have h2:=HLN.out
    omega
  have HPl:=Lib.hid (show Calls Tryz.prog 16 #[.agg #[.int .i64 (cf.log:Nat),.int .i64 (cf.data:Nat),.int .i64 (cf.queue:Nat),.int .i64 (cf.input:Nat),.int .i64 (cf.strikes:Nat),.int .i64 (cf.lease:Nat),.int .i64 (cf.idle:Nat),.int .i64 (cf.width:Nat)],.slice a1 len1 cap1] w3 (PLGives cf T1 w3) from played_any HC.out.1 HC.out.2 T1 HRt.out (by have:=HLN.out; omega) HTS.out hel a1 len1 cap1 w3 HT3.out ((HE0.out.below HB3.out).more (Nat.le_of_lt HS3.out)) HLN.out)
  have HEL:=Lib.hid hel
  clear hel
  go_wp2_with fail
  refine HPl.out.mono ?_
  rintro r w4 ⟨g,n0,ao,co,rfl,hn0,_,hrow,_,hb4⟩
  rw [hln] at hrow ⊢
  have hb4:Below w3.heap.size w3 w4:=hb4
  obtain ⟨OL,hOL⟩:∃ OL,pouts (bnew cf) T1=OL:=⟨_,rfl⟩
  rw [hOL] at hrow
  have HOL:=Lib.hid hOL
  have HOLn:=Lib.hid (show OL.length=len1 from by rw [← hOL,pouts_len]; exact HLN.out)
  have HO4:=Lib.hid (show OtIn w4 w4.heap.size ao OL from hrow.otin)
  have HX4:=Lib.hid (HX3.out.go hb4 HS3.out)
  have HB4:=Lib.hid (Below.trans HB3.out (hb4.mono (Nat.le_of_lt HS3.out)))
  have HT4:=Lib.hid (HT3.out.below hb4)
  have HS4:=Lib.hid (Nat.lt_of_lt_of_le HS3.out hb4.size)
  clear hrow hb4 HX3 HB3 HT3 HS3 HPl hn0 hOL z0 z1 z2 z3 z4 z5 z6 z7
  obtain ⟨N,hN⟩:∃ N,w4.heap.size=N:=⟨_,rfl⟩
  have hba:Below N w4 ((w4.alloc (.cells #[] 30)).alloc (.cells #[] 53)):=((Below.refl N w4).alloc (by omega) _).alloc (by simp; omega) _
  have hr8:EvRow N ((w4.alloc (.cells #[] 30)).alloc (.cells #[] 53)) (some ⟨w4.heap.size,0,none⟩) 0 0 (keptE (bnew cf) (T1.take 0)):=(EvRow.empty w4 (by omega)).below ((Below.refl _ _).alloc (Nat.le_refl _) _)
  have hr9:OtRow N ((w4.alloc (.cells #[] 30)).alloc (.cells #[] 53)) (some ⟨w4.heap.size+1,0,none⟩) 0 0 (keptO (pouts (bnew cf) (T1.take 0))):=by
    have h:=OtRow.empty (base:=N) (w4.alloc (.cells #[] 30)) (by simp; omega)
    have e:(w4.alloc (.cells #[] 30)).heap.size=w4.heap.size+1:=by simp
    rw [e] at h
    exact h
  rw [hN] at hr8 hr9
  have HR80:=Lib.hid hr8
  have HR90:=Lib.hid hr9
  have HBA:=Lib.hid hba
  have HD0:=Lib.hid (show ∀ x,In (some ⟨N,0,none⟩) x→¬ In (some ⟨N+1,0,none⟩) x from fun x hx hy=>by
    obtain ⟨p,hp,rfl⟩:=hx
    obtain ⟨q,hq,e⟩:=hy
    injection hp with hp
    injection hq with hq
    subst hp hq
    exact absurd e (by show ¬ N+1=N; omega))
  rw [hN] at HO4 HS4
  have HNN:=Lib.hid hN
  clear hr8 hr9 hba
  go_upto_region 10 with fail
  clear hN
  generalize (w4.alloc (.cells #[] 30)).alloc (.cells #[] 53)=w5 at *
  go_wp2
  go_loopw [8,9,39] (fun s8 s9 s39 wr=>∃ (i n8 c8 n9 c9:Nat) (a8 a9:Option Addr),s39 = .int .i64 (i:Nat)∧s8 = .slice a8 n8 c8∧s9 = .slice a9 n9 c9∧i≤len1∧EvRow N wr a8 n8 c8 (keptE (bnew cf) (T1.take i))∧OtRow N wr a9 n9 c9 (keptO (pouts (bnew cf) (T1.take i)))∧Hid (∀ x,In a8 x→¬ In a9 x)∧Below N w4 wr) (fun _ _ s _=>len1 - (intOf s).toNat)
  case atStart=>exact ⟨0,0,0,0,0,_,_,rfl,rfl,rfl,Nat.zero_le _,HR80.out,HR90.out,HD0,HBA.out⟩
  case round =>
    obtain ⟨i,n8,c8,n9,c9,a8,a9,rfl,rfl,rfl,hi,hr8,hr9,HD,hb⟩:=hrel
    have HR8:=Lib.hid hr8
    have HR9:=Lib.hid hr9
    have HBN:=Lib.hid hb
    have hNw:N≤wr.heap.size:=by rw [← HNN.out]; exact hb.size
    have hn8:n8≤120:=by
      have h1:=hr8.len
      have h2:=keptE_len (T1.take i) (bnew cf)
      rw [List.length_take] at h2
      omega
    have hn9:n9≤120:=by
      have h1:=hr9.len
      have h2:=keptO_len (pouts (bnew cf) (T1.take i))
      rw [pouts_len,List.length_take] at h2
      omega
    clear hr8 hr9 hb HR80 HR90 HD0 HBA
    by_cases hlt:i<len1
    rotate_left
    · obtain rfl:i=len1:=by omega
      have dk:decide ((i:Int)<(i:Int))=false:=by simp
      have htk:T1.take i=T1:=List.take_of_length_le (by rw [HLN.out]; exact Nat.le_refl _)
      have hR8:=HR8.out
      have hR9:=HR9.out
      rw [htk] at hR8 hR9
      rw [HOL.out] at hR9
      obtain ⟨L2,hL2⟩:∃ L2,keptE (bnew cf) T1=L2:=⟨_,rfl⟩
      rw [hL2] at hR8
      have hko:pouts (bnew cf) L2=keptO OL:=by rw [← hL2,← HOL.out]; exact kept_outs T1 (bnew cf)
      obtain ⟨O2,hO2⟩:∃ O2,keptO OL=O2:=⟨_,rfl⟩
      rw [hO2] at hR9 hko
      have hl2:=hR8.len
      have hl9:=hR9.len
      have hlo:O2.length=L2.length:=by rw [← hko,pouts_len]
      have hn89:n9=n8:=by omega
      subst hn89
      have HX6:=Lib.hid (HX4.out.go HBN.out HS4.out)
      have HB6:=Lib.hid (HB4.out.trans (HBN.out.mono (Nat.le_of_lt HS4.out)))
      have HE6:=Lib.hid (show EvIn wr wr.heap.size a8 L2 from hR8.evin)
      have HO6:=Lib.hid (show OtIn wr wr.heap.size a9 O2 from hR9.otin)
      have HR2:=Lib.hid (show ∀ x∈L2,Sc.rtE x=true from fun x hx=>HRt.out x (keptE_sub T1 (bnew cf) x (by rw [hL2]; exact hx)))
      have hts2:tsum L2≤1000000:=by have:=tsum_le L2; omega
      have hel2:(Sc.evs L2).length≤262000:=by have h1:=keptE_evs T1 (bnew cf); have h2:=HEL.out; rw [hL2] at h1; omega
      have HPl:=Lib.hid (show Calls Tryz.prog 16 #[.agg #[.int .i64 (cf.log:Nat),.int .i64 (cf.data:Nat),.int .i64 (cf.queue:Nat),.int .i64 (cf.input:Nat),.int .i64 (cf.strikes:Nat),.int .i64 (cf.lease:Nat),.int .i64 (cf.idle:Nat),.int .i64 (cf.width:Nat)],.slice a8 n9 c8] wr (PLGives cf L2 wr) from played_any HC.out.1 HC.out.2 L2 HR2.out (by omega) hts2 hel2 a8 n9 c8 wr (HTI.out.below (by rw [HG.out]; exact HB6.out)) HE6.out hl2)
      have HKO:=Lib.hid hko
      have HL2:=Lib.hid hl2
      have HL9:=Lib.hid hl9
      clear hR8 hR9 htk hL2 hko hO2 hlo hts2 hel2 hl2 hl9 HX4 HB4 HT4 HE0 HO4 HR8 HR9 HBN HD
      have z0:=HX6.out.cell 0 (.int .i64 (cf.log:Nat)) rfl
      have z1:=HX6.out.cell 1 (.int .i64 (cf.data:Nat)) rfl
      have z2:=HX6.out.cell 2 (.int .i64 (cf.queue:Nat)) rfl
      have z3:=HX6.out.cell 3 (.int .i64 (cf.input:Nat)) rfl
      have z4:=HX6.out.cell 4 (.int .i64 (cf.strikes:Nat)) rfl
      have z5:=HX6.out.cell 5 (.int .i64 (cf.lease:Nat)) rfl
      have z6:=HX6.out.cell 6 (.int .i64 (cf.idle:Nat)) rfl
      have z7:=HX6.out.cell 7 (.int .i64 (cf.width:Nat)) rfl
      go_wp2_with fail
      refine HPl.out.mono ?_
      rintro r w7 ⟨g7,m0,a7,c7,rfl,_,_,hrow,_,hb7⟩
      rw [HL2.out] at hrow ⊢
      rw [HKO.out] at hrow
      have HB7:=Lib.hid (HB6.out.trans (hb7.mono (by rw [← HG.out]; exact HB6.out.size)))
      have HO7:=Lib.hid (show OtIn w7 w7.heap.size a7 O2 from hrow.otin)
      have HO67:=Lib.hid (otin_more (HO6.out.below hb7) hb7.size)
      clear hrow hb7 HPl HO6 HE6 HB6 HX6 z0 z1 z2 z3 z4 z5 z6 z7
      have hmix:Tryz.prog.follows .mixedOrders=true:=by kernel_rfl
      have dnn:((n9:Int) != (n9:Int))=false:=by simp
      go_wp2
      go_loopw [77] (fun s wz=>∃ r:Nat,s = .int .i64 (r:Nat)∧r≤n9∧OtIn wz w7.heap.size a7 O2∧OtIn wz w7.heap.size a9 O2∧Below gm w wz) (fun s _=>n9 - (intOf s).toNat)
      case atStart=>exact ⟨0,rfl,Nat.zero_le _,HO7.out,HO67.out,HB7.out⟩
      case round =>
        obtain ⟨r,rfl,hr,ho7,ho9,hb⟩:=hrel
        have HA7:=Lib.hid ho7
        have HA9:=Lib.hid ho9
        have HBz:=Lib.hid hb
        clear ho7 ho9 hb HO7 HO67 HB7
        by_cases hrn:r<n9
        rotate_left
        · obtain rfl:r=n9:=by omega
          have dr:decide ((r:Int)<(r:Int))=false:=by simp
          go_wp2
          go_ret
          exact ⟨rfl,by rw [HG.out]; exact HBz.out⟩
        have dr:decide ((r:Int)<(n9:Int))=true:=decide_eq_true (by omega)
        obtain ⟨o,ho⟩:∃ o,O2[r]?=some o:=⟨_,List.getElem?_eq_getElem (by rw [HL9.out]; exact hrn)⟩
        have hfr:=HA7.out
        obtain ⟨b7,o7,rfl,_,hc7⟩:=hfr (by rw [HL9.out]; omega)
        obtain ⟨p0,p1⟩:=hc7 r o ho
        have hfr:=HA9.out
        obtain ⟨b9,o9,rfl,_,hc9⟩:=hfr (by rw [HL9.out]; omega)
        obtain ⟨q0,q1⟩:=hc9 r o ho
        obtain ⟨cl,hcl⟩:∃ cl:List (Addr×Value),[(⟨b7,o7+r * 2,none⟩,.int .i64 (o.e:Nat)),(⟨b7,o7+r * 2+1,none⟩,.string (str o.t)),(⟨b9,o9+r * 2,none⟩,.int .i64 (o.e:Nat)),(⟨b9,o9+r * 2+1,none⟩,.string (str o.t))]=cl:=⟨_,rfl⟩
        have hCs:Cs cl wr.drew:=by
          rw [← hcl]
          intro p hp
          simp only [List.mem_cons,List.not_mem_nil,or_false] at hp
          rcases hp with rfl | rfl | rfl | rfl
          · exact p0
          · exact p1
          · exact q0
          · exact q1
        have HGet:=Lib.hid (show ∀ W,Cs cl W→(W.cell? ⟨b7,o7+r * 2,none⟩=some (.int .i64 (o.e:Nat))∧W.cell? ⟨b7,o7+r * 2+1,none⟩=some (.string (str o.t)))∧W.cell? ⟨b9,o9+r * 2,none⟩=some (.int .i64 (o.e:Nat))∧W.cell? ⟨b9,o9+r * 2+1,none⟩=some (.string (str o.t)) from fun W h=>by
          rw [← hcl] at h
          exact ⟨⟨h _ (.head _),h _ (.tail _ (.head _))⟩,h _ (.tail _ (.tail _ (.head _))),h _ (.tail _ (.tail _ (.tail _ (.head _))))⟩)
        have HCs:=Lib.hid hCs
        clear hcl hCs p0 p1 q0 q1 hc7 hc9 hfr ho
        go_upto_region 23 with fail
        go_wp2_with fail
        refine wp_region_held (S:=fun W=>Cs cl W) hmix ?_
        change wpAnyH _ _ _ _ _ _ _ _ (World.drew _)
        refine wpAnyH_take (i:=0) (v:=.slice (some ⟨b7,o7,none⟩) n9 c7) rfl (by kernel_rfl) (by kernel_rfl) (by kernel_rfl) (fun _ _ _ h=>h) (.inl ⟨by kernel_rfl,fun W hW=>?_⟩) HCs.out ?_
        · go_simp; try (first | rfl | omega | (intro hh; exfalso; omega))
        refine wpAnyH_take (i:=1) (v:=.int .i64 (r:Nat)) rfl (by kernel_rfl) (by kernel_rfl) (by kernel_rfl) (fun _ _ _ h=>h) (.inl ⟨by kernel_rfl,fun W hW=>?_⟩) HCs.out ?_
        · go_simp; try (first | rfl | omega | (intro hh; exfalso; omega))
        refine wpAnyH_take (i:=2) (v:=.pointer (some ⟨b7,o7+r * 2,none⟩)) rfl (by kernel_rfl) (by kernel_rfl) (by kernel_rfl) (fun _ _ _ h=>h) (.inl ⟨by kernel_rfl,fun W hW=>?_⟩) HCs.out ?_
        · go_simp; try (first | rfl | omega | (intro hh; exfalso; omega))
        refine wpAnyH_take (i:=3) (v:=.agg #[.int .i64 (o.e:Nat),.string (str o.t)]) rfl (by kernel_rfl) (by kernel_rfl) (by kernel_rfl) (fun _ _ _ h=>h) (.inl ⟨by kernel_rfl,fun W hW=>?_⟩) HCs.out ?_
        · have l0:=(HGet.out W hW).1.1; have l1:=(HGet.out W hW).1.2; go_simp; try (first | rfl | omega | (intro hh; exfalso; omega))
        refine wpAnyH_take (i:=4) (v:=.slice (some ⟨b9,o9,none⟩) n9 c9) rfl (by kernel_rfl) (by kernel_rfl) (by kernel_rfl) (fun _ _ _ h=>h) (.inl ⟨by kernel_rfl,fun W hW=>?_⟩) HCs.out ?_
        · go_simp; try (first | rfl | omega | (intro hh; exfalso; omega))
        refine wpAnyH_take (i:=5) (v:=.int .i64 (r:Nat)) rfl (by kernel_rfl) (by kernel_rfl) (by kernel_rfl) (fun _ _ _ h=>h) (.inl ⟨by kernel_rfl,fun W hW=>?_⟩) HCs.out ?_
        · go_simp; try (first | rfl | omega | (intro hh; exfalso; omega))
        refine wpAnyH_take (i:=6) (v:=.pointer (some ⟨b9,o9+r * 2,none⟩)) rfl (by kernel_rfl) (by kernel_rfl) (by kernel_rfl) (fun _ _ _ h=>h) (.inl ⟨by kernel_rfl,fun W hW=>?_⟩) HCs.out ?_
        · go_simp; try (first | rfl | omega | (intro hh; exfalso; omega))
        refine wpAnyH_take (i:=7) (v:=.agg #[.int .i64 (o.e:Nat),.string (str o.t)]) rfl (by kernel_rfl) (by kernel_rfl) (by kernel_rfl) (fun _ _ _ h=>h) (.inl ⟨by kernel_rfl,fun W hW=>?_⟩) HCs.out ?_
        · have l0:=(HGet.out W hW).2.1; have l1:=(HGet.out W hW).2.2; go_simp; try (first | rfl | omega | (intro hh; exfalso; omega))
        refine wpAnyH_take (i:=8) (v:=.bool false) rfl (by kernel_rfl) (by kernel_rfl) (by kernel_rfl) (fun _ _ _ h=>h) (.inl ⟨by kernel_rfl,fun W hW=>?_⟩) HCs.out ?_
        · go_simp; try (first | rfl | omega | (intro hh; exfalso; omega))
        refine wpAnyH_done (by kernel_rfl) ?_ _
        go_simp
        go_wp2
        go_roundw
        case rel=>exact ⟨r+1,by go_num,by omega,fun h=>HA7.out h,fun h=>HA9.out h,below_drew HBz.out⟩
        case measure=>simp [intOf]; omega
    have dk:decide ((i:Int)<(len1:Int))=true:=decide_eq_true (by omega)
    obtain ⟨e,he⟩:∃ e,T1[i]?=some e:=⟨_,List.getElem?_eq_getElem (by rw [HLN.out]; exact hlt)⟩
    have hog:=pouts_get T1 (bnew cf) i e he
    rw [HOL.out] at hog
    obtain ⟨oe,hoe⟩:∃ oe,pE (prun (bnew cf) (T1.take i)) e=oe:=⟨_,rfl⟩
    obtain ⟨ot,hot⟩:∃ ot,pT (prun (bnew cf) (T1.take i)) e=ot:=⟨_,rfl⟩
    rw [hoe,hot] at hog
    have htn:=take_next T1 i e he
    have hpn:pouts (bnew cf) (T1.take (i+1))=pouts (bnew cf) (T1.take i) ++ [⟨oe,ot⟩]:=by
      rw [htn,pouts_app,← hoe,← hot]
      rfl
    have hkn:keptE (bnew cf) (T1.take (i+1))=keptE (bnew cf) (T1.take i) ++ (if oe=0 then [e] else []):=by
      rw [htn,keptE_app,← hoe]
      rfl
    have hkon:keptO (pouts (bnew cf) (T1.take (i+1)))=keptO (pouts (bnew cf) (T1.take i)) ++ (if oe=0 then [⟨oe,ot⟩] else []):=by
      rw [hpn,keptO_app]
      congr 1
      unfold keptO
      by_cases x:oe=0
      · rw [if_pos x,List.filter_cons_of_pos (by simpa using x)]
        rfl
      · rw [if_neg x,List.filter_cons_of_neg (by simpa using x)]
        rfl
    have HKN:=Lib.hid hkn
    have HKON:=Lib.hid hkon
    have hfr:=HO4.out.below (show Below N w4 wr from HBN.out)
    obtain ⟨bo,oo,rfl,hltO,hcO⟩:=hfr (by rw [HOLn.out]; omega)
    obtain ⟨p0,p1⟩:=hcO i ⟨oe,ot⟩ hog
    obtain ⟨bl,ol,rfl,hltl,hcl⟩:=(HE0.out.below (HB4.out.trans (HBN.out.mono (Nat.le_of_lt HS4.out)))).outer (by rw [HLN.out]; omega)
    obtain ⟨v0,v1,v2,v3⟩:=hcl i e he
    have hen:e.t.length≤maxLen:=by
      have:=(Sc.rtE_in (HRt.out e (List.mem_of_getElem? he))).2.2.2.2.2.2
      unfold maxLen
      omega
    have HEN:=Lib.hid hen
    have HEk:=Lib.hid he
    have hba:Below wr.heap.size wr (wr.alloc (.cells #[.int .i64 (oe:Nat),.string (str ot)] 53)):=(Below.refl _ _).alloc (Nat.le_refl _) _
    have HXo:=Lib.hid (Bx.new wr wr.heap.size rfl #[.int .i64 (oe:Nat),.string (str ot)] 53)
    replace p0:wr.cell? ⟨bo,oo+i * 2,none⟩=some (.int .i64 (oe:Nat)):=p0
    replace p1:wr.cell? ⟨bo,oo+i * 2+1,none⟩=some (.string (str ot)):=p1
    clear hcO hcl hfr hog hoe hot htn hpn hkn hkon hen he
    go_upto_region 13 with fail
    obtain ⟨go,hgo⟩:∃ go,wr.heap.size=go:=⟨_,rfl⟩
    have HV:=Lib.hid (show (wr.alloc (.cells #[.int .i64 (oe:Nat),.string (str ot)] 53)).cell? ⟨bl,ol+i * 4,none⟩=some (.int .i64 e.k)∧(wr.alloc (.cells #[.int .i64 (oe:Nat),.string (str ot)] 53)).cell? ⟨bl,ol+i * 4+1,none⟩=some (.int .i64 e.i)∧(wr.alloc (.cells #[.int .i64 (oe:Nat),.string (str ot)] 53)).cell? ⟨bl,ol+i * 4+2,none⟩=some (.int .i64 e.n)∧(wr.alloc (.cells #[.int .i64 (oe:Nat),.string (str ot)] 53)).cell? ⟨bl,ol+i * 4+3,none⟩=some (.string (str e.t)) from by
      have hbl:bl<wr.heap.size:=by have:=HS4.out; omega
      exact ⟨(hba.cell (p:=⟨bl,ol+i * 4,none⟩) hbl).trans v0,(hba.cell (p:=⟨bl,ol+i * 4+1,none⟩) hbl).trans v1,(hba.cell (p:=⟨bl,ol+i * 4+2,none⟩) hbl).trans v2,(hba.cell (p:=⟨bl,ol+i * 4+3,none⟩) hbl).trans v3⟩)
    have HR8b:=Lib.hid (HR8.out.below hba)
    have HR9b:=Lib.hid (HR9.out.below hba)
    have HBNb:=Lib.hid (HBN.out.trans (hba.mono (show w4.heap.size≤wr.heap.size from HBN.out.size) |>.mono (by rw [HNN.out]; exact Nat.le_refl N)))
    have HA8:=Lib.hid (show ∀ p,a8=some p→N≤p.block∧p.block<wr.heap.size from fun p hp=>HR8.out.lt hp)
    have HA9:=Lib.hid (show ∀ p,a9=some p→N≤p.block∧p.block<wr.heap.size from fun p hp=>HR9.out.lt hp)
    clear v0 v1 v2 v3 p0 p1 hba
    generalize wr.alloc (.cells #[.int .i64 (oe:Nat),.string (str ot)] 53)=w6 at *
    rw [hgo] at HXo HA8 HA9 ⊢
    have HGO:=Lib.hid hgo
    have k0:=HXo.out.cell 0 (.int .i64 (oe:Nat)) rfl
    clear hgo
    by_cases h0:oe=0
    rotate_left
    · have d0:((oe:Int) == 0)=false:=by simp; omega
      go_wp2
      go_roundw
      case rel=>exact ⟨i+1,n8,c8,n9,c9,a8,a9,by go_num,rfl,rfl,by omega,by rw [HKN.out,if_neg h0,List.append_nil]; exact HR8b.out,by rw [HKON.out,if_neg h0,List.append_nil]; exact HR9b.out,HD,HBNb.out⟩
      case measure=>simp [intOf]; omega
    subst h0
    replace k0:w6.cell? ⟨go,0,none⟩=some (.int .i64 0):=k0
    have HXo:=Lib.hid (show Bx go w6 #[.int .i64 0,.string (str ot)] from HXo.out)
    obtain ⟨v0,v1,v2,v3⟩:=HV.out
    have hgs:go<w6.heap.size:=HXo.out.room
    have hNg:N≤go:=by have:=HGO.out; omega
    have hb7:Below w6.heap.size w6 (w6.alloc (.cells #[.int .i64 e.k,.int .i64 e.i,.int .i64 e.n,.string (str e.t)] 30)):=(Below.refl _ _).alloc (Nat.le_refl _) _
    have HB7:=Lib.hid hb7
    have HR8c:=Lib.hid (HR8b.out.below hb7)
    have HN7:=Lib.hid (ev_one w6 e HEN.out 30)
    have hz7:N≤(w6.alloc (.cells #[.int .i64 e.k,.int .i64 e.i,.int .i64 e.n,.string (str e.t)] 30)).heap.size:=by simp; omega
    have hz6:w6.heap.size≤(w6.alloc (.cells #[.int .i64 e.k,.int .i64 e.i,.int .i64 e.n,.string (str e.t)] 30)).heap.size:=by simp
    have HA8':=HA8
    clear hb7
    go_upto_region 15 with (first
      | (at_builtin
         refine wpList_eappg rfl (.tmp 47) (.tmp 52) rfl rfl HR8c.out rfl HN7.out rfl (by omega) hz7 ?_
         intro A2 c2 w8 hr2 hO2 hA2
         have HR2:=Lib.hid hr2
         have HO2:=Lib.hid hO2
         have HA2:=Lib.hid hA2
         clear hr2 hO2 hA2
         go_upto_region 15 with fail))
    generalize w6.alloc (.cells #[.int .i64 e.k,.int .i64 e.i,.int .i64 e.n,.string (str e.t)] 30)=w7 at *
    have hR2:=HR2.out
    have hO2:=HO2.out
    have HX8:=Lib.hid ((HXo.out.go HB7.out HXo.out.room).keep hO2 (fun ⟨p,hp,hx⟩=>by have:=(HA8.out p hp).2; omega))
    have HR9c:=Lib.hid ((HR9b.out.below HB7.out).only hO2 (fun p hp hx=>HD.out p.block hx ⟨p,hp,rfl⟩))
    have HBN8:=Lib.hid ((HBNb.out.trans (HB7.out.mono (by omega))).trans (hO2.below (B:=N) hz7 (fun y hy ⟨p,hp,hx⟩=>by have:=(HA8.out p hp).1; omega)))
    have hz8:w7.heap.size≤w8.heap.size:=hO2.size
    have hb9:Below w8.heap.size w8 (w8.alloc (.cells #[.int .i64 0,.string (str ot)] 53)):=(Below.refl _ _).alloc (Nat.le_refl _) _
    have HB9:=Lib.hid hb9
    have HR9d:=Lib.hid (HR9c.out.below hb9)
    have HN9:=Lib.hid (show OtIn (w8.alloc (.cells #[.int .i64 0,.string (str ot)] 53)) (w8.heap.size+1) (some ⟨w8.heap.size,0,none⟩) [⟨0,ot⟩] from ot_one w8 ⟨0,ot⟩ 53)
    have hz9:N≤(w8.alloc (.cells #[.int .i64 0,.string (str ot)] 53)).heap.size:=by simp; omega
    have hz98:w8.heap.size≤(w8.alloc (.cells #[.int .i64 0,.string (str ot)] 53)).heap.size:=by simp
    have q0:=HX8.out.cell 0 (.int .i64 0) rfl
    have q1:=HX8.out.cell 1 (.string (str ot)) rfl
    clear hR2 hO2 hb9 k0 v0 v1 v2 v3 HXo HR8c HN7 HR9c HR9b HR8b HBNb HV
    go_wp2_with (first
      | (at_builtin
         refine wpList_oapp rfl (.tmp 54) (.tmp 56) rfl rfl HR9d.out rfl HN9.out rfl (by omega) hz9 ?_
         intro A3 c3 w10 hr3 hO3 hA3
         have HR3:=Lib.hid hr3
         have HO3:=Lib.hid hO3
         have HA3:=Lib.hid hA3
         clear hr3 hO3 hA3))
    go_roundw
    case rel =>
      have hA2x:∀ x,In A2 x→¬ In a9 x:=fun x ⟨p,hp,hx⟩ ⟨q,hq,hy⟩=>by
        have h9:=(HA9.out q hq).2
        rcases HA2.out p hp with h | h
        · exact HD.out x (hx ▸ h) ⟨q,hq,hy⟩
        · omega
      refine ⟨i+1,n8+1,c2,n9+1,c3,A2,A3,by go_num,rfl,rfl,by omega,?_,?_,Lib.hid fun x hx hy=>?_,?_⟩
      · rw [HKN.out,if_pos rfl]
        exact (HR2.out.below HB9.out).only HO3.out (fun p hp hx=>hA2x p.block ⟨p,hp,rfl⟩ hx)
      · rw [HKON.out,if_pos rfl]
        exact HR3.out
      · obtain ⟨q,hq,hqx⟩:=hy
        rcases HA3.out q hq with h | h
        · exact hA2x x hx (hqx ▸ h)
        · obtain ⟨p,hp,hpx⟩:=hx
          have:=(HR2.out.lt hp).2
          omega
      · exact (HBN8.out.trans (HB9.out.mono (by omega))).trans (HO3.out.below (B:=N) hz9 (fun y hy ⟨p,hp,hx⟩=>by have:=(HA9.out p hp).1; omega))
    case measure=>simp [intOf]; omega
theorem w_in:Tryz.checked.prog.inits.idxOf? 11=none:=by kernel_rfl
theorem w_ok (os:Os):Input.okWideB Tryz.prog ((World.doorLaid Tryz.prog 400 os).forCall (fun _ _=>0) ⟨#[],#[.agg #[.int .i64 0,.int .i64 0,.int .i64 0,.int .i64 0,.int .i64 0,.int .i64 0,.int .i64 0,.int .i64 0],.slice none 0 0],[]⟩) 11 ⟨#[],#[.agg #[.int .i64 0,.int .i64 0,.int .i64 0,.int .i64 0,.int .i64 0,.int .i64 0,.int .i64 0,.int .i64 0],.slice none 0 0],[]⟩=true:=by kernel_rfl
theorem w_pre (os:Os) (H:Type) (enc:TypeId×Value→H):Rows.wholeStaysSpec.preB enc Tryz.prog Tryz.f11 [] false ((World.doorLaid Tryz.prog 400 os).forCall (fun _ _=>0) ⟨#[],#[.agg #[.int .i64 0,.int .i64 0,.int .i64 0,.int .i64 0,.int .i64 0,.int .i64 0,.int .i64 0,.int .i64 0],.slice none 0 0],[]⟩).memory #[.agg #[.int .i64 0,.int .i64 0,.int .i64 0,.int .i64 0,.int .i64 0,.int .i64 0,.int .i64 0,.int .i64 0],.slice none 0 0] 8=true:=by kernel_rfl
theorem w_sz (os:Os) (H:Type) (enc:TypeId×Value→H):Rows.wholeStaysSpec.sizedB enc Tryz.prog Tryz.f11 false ((World.doorLaid Tryz.prog 400 os).forCall (fun _ _=>0) ⟨#[],#[.agg #[.int .i64 0,.int .i64 0,.int .i64 0,.int .i64 0,.int .i64 0,.int .i64 0,.int .i64 0,.int .i64 0],.slice none 0 0],[]⟩).memory #[.agg #[.int .i64 0,.int .i64 0,.int .i64 0,.int .i64 0,.int .i64 0,.int .i64 0,.int .i64 0,.int .i64 0],.slice none 0 0] 8=true:=by kernel_rfl
set_option maxRecDepth 100000 in
theorem lifted (os:Os) (started:os.Started) (H:Type) (enc:TypeId×Value→H) :
  ReturnsInHanded {} Tryz.checked os 11 .any (fun w args=>(Rows.wholeStaysSpec.pre enc Tryz.prog Tryz.f11 [] false w args∧laidMetH Tryz.prog laidL w)∧sizedMet enc Tryz.prog Tryz.f11 (OpenSpec.ofChange Rows.wholeStaysSpec) false w args)
   (Rows.wholeStaysSpec.post enc Tryz.prog Tryz.f11 false true false false):=by
 refine returnsInHanded_of_change_and (C:=Tryz.checked) (X:=fun w _=>laidMetH Tryz.prog laidL w) (fun _ _ _ hh h=>h.of_heap hh) own started w_in Tryz.func11
  (ChangeSpec.witness_shaped (enc:=enc) (C:=Tryz.checked) (os:=os) (X:=fun w _=>laidMetH Tryz.prog laidL w) false (World.doorLaid Tryz.prog 400 os) #[.agg #[.int .i64 0,.int .i64 0,.int .i64 0,.int .i64 0,.int .i64 0,.int .i64 0,.int .i64 0,.int .i64 0],.slice none 0 0] 8 rfl (door_shaped os _) (w_ok os) (w_pre os H enc) (w_sz os H enc) (door_met os _)) ?_
 intro W base args ds gs before hval0 hW hcnd hsz0 hL _
 have hti:=ti_of hL
 have hval:∀ (j:Nat) t v,Tryz.f11.params[j]?=some t→args[j]?=some v→Value.okWide Tryz.prog W .any base t v:=hval0
 have hW':=hW
 obtain ⟨p,q,hA0,hV,rfl,hfz,hnd⟩:=hW
 have hsz:(DataW.weightsEach Tryz.prog (Tryz.f11.params.toList ++ Rows.wholeStaysSpec.plain.varTypes Tryz.prog) (ds ++ gs)).all (·≤reachBytes)=true:=hsz0
 have hA:DataW.TrodAll enc Tryz.prog W 0 (fun _=>true) true Tryz.f11.params.toList args.toList ds p:=hA0
 rw [Tryz.params11] at hA hval hsz
 obtain ⟨v0,vs0,d0,ds0,p0,q0,hargs,rfl,rfl,h0,r0⟩:=trodAll_cons hA
 obtain ⟨v1,vs1,d1,ds1,p1,q1,rfl,rfl,rfl,h1,r1⟩:=trodAll_cons r0
 obtain ⟨rfl,rfl,rfl⟩:=trodAll_nil r1
 obtain rfl:args = #[v0,v1]:=by cases args; simp_all
 obtain ⟨rfl,rfl⟩:=trodVars_none hV
 have k0:=h0
 have lt0:∀ x∈p0,x.block<W.heap.size:=by obtain ⟨m,hm⟩:=k0; exact DataW.trod_lt m _ _ _ hm
 obtain ⟨ca0,cb0,cc0,cd0,ce0,cf0,cg0,ch0,rfl⟩:=open_conf (hval 0 23 v0 rfl rfl) h0
 obtain ⟨a1,len1,cap1,rfl⟩:=okWide_slice Tryz.underlying25 (hval 1 25 v1 rfl rfl)
 have k1:=h1
 have lt1:∀ x∈p1,x.block<W.heap.size:=by obtain ⟨m,hm⟩:=k1; exact DataW.trod_lt m _ _ _ hm
 obtain ⟨T1,w1,g1⟩:∃ T,EvIn W W.heap.size a1 T∧T.length=len1∧len1≤cap1∧cap1≤maxLen:=by
  obtain ⟨fuel,hf⟩:=h1
  exact open_events hf
 clear hA0 hval0 hsz hsz0
 refine (walk ca0 cb0 cc0 cd0 ce0 cf0 cg0 ch0 a1 len1 cap1 T1 W w1 g1 hti).mono fun e W' ⟨he,bel⟩=>?_
 subst he
 exact ⟨_,rfl,_,_,_,[],_,[],hW',trodAll_mk1 (shut_bool Tryz.underlying4 _),(trodAll_cons_mk (Below.trod laidOut (by kernel_rfl) (of_decide_eq_true (by kernel_rfl)) k0 bel lt0) (trodAll_cons_mk (Below.trod laidOut (by kernel_rfl) (of_decide_eq_true (by kernel_rfl)) k1 bel lt1) trodAll_mk0)),rfl,bel.frame _,fun h=>by cases h⟩
theorem q0:(Rows.wholeStaysRow.wf (OpenSpec.ofChange Rows.wholeStaysSpec))=true:=by kernel_rfl
theorem q3:(Tryz.f11.params.all (Tryz.prog.readableRec ·))=true:=by kernel_rfl
theorem q4:(namedTie Tryz.prog Rows.wholeStaysRow.named Rows.wholeStaysSpec.vars)=true:=by kernel_rfl
theorem q5:((Rows.wholeStaysRow.stops == []))=true:=by kernel_rfl
theorem q7:((Rows.wholeStaysRow.knobs == []))=true:=by kernel_rfl
theorem q9:((Rows.wholeStaysRow.inPlace == Tryz.prog.inPlace 11))=true:=by kernel_rfl
theorem q10:((Rows.wholeStaysRow.unfollowed == Tryz.prog.unfollowed 11))=true:=by kernel_rfl
theorem q11:((Rows.wholeStaysRow.recurses == Tryz.prog.recurses 11))=true:=by kernel_rfl
theorem q12:((Rows.wholeStaysRow.named == Tryz.prog.varsNamed 11))=true:=by kernel_rfl
theorem q13:((Rows.wholeStaysRow.maps == (Tryz.f11.params.toList ++ Rows.wholeStaysSpec.plain.varTypes Tryz.prog).any (Tryz.prog.mapsRec ·)))=true:=by kernel_rfl
theorem q14:((Rows.wholeStaysRow.ifaces == (Tryz.f11.params.toList ++ Rows.wholeStaysSpec.plain.varTypes Tryz.prog).any (Tryz.prog.ifacesRec ·)))=true:=by kernel_rfl
theorem q15:((Rows.wholeStaysRow.mapsOut == Tryz.prog.mapsAmong Tryz.f11.resultTypes.toList))=true:=by kernel_rfl
theorem q16:((Rows.wholeStaysRow.loops == (Tryz.f11.params.toList ++ Rows.wholeStaysSpec.plain.varTypes Tryz.prog).any (Tryz.prog.loopsFrom ·)))=true:=by kernel_rfl
theorem q17:((Rows.wholeStaysRow.wideKeys == (Tryz.f11.params.toList ++ Rows.wholeStaysSpec.plain.varTypes Tryz.prog ++ Tryz.f11.resultTypes.toList).any (Tryz.prog.wideKeysFrom ·)))=true:=by kernel_rfl
theorem q18:(Rows.wholeStaysSpec.vars.all (Tryz.prog.varReadable ·))=true:=by kernel_rfl
theorem q19:(Tryz.f11.resultTypes.all (fun t=>Tryz.prog.readableRec t && decide (t<Tryz.prog.types.size)))=true:=by kernel_rfl
theorem q20:((Rows.wholeStaysRow.ifacesOut == Tryz.f11.resultTypes.toList.any (Tryz.prog.ifacesRec ·)))=true:=by kernel_rfl
theorem q21:((Rows.wholeStaysRow.loopsOut == Tryz.f11.resultTypes.toList.any (Tryz.prog.loopsFrom ·)))=true:=by kernel_rfl
theorem q22:((Rows.wholeStaysRow.plainKeys == Tryz.prog.plainKeys))=true:=(show Rows.wholeStaysRow.plainKeys=Rows.wholeTilesRow.plainKeys from rfl) ▸ pq22
theorem q23:(Rows.wholeStaysRow.shortTexts.isNone)=true:=by kernel_rfl
theorem q26:((Rows.wholeStaysRow.lifted == Tryz.prog.liftsFinal))=true:=(show Rows.wholeStaysRow.lifted=Rows.wholeTilesRow.lifted from rfl) ▸ pq26
theorem q27:((Tryz.prog.make == some Rows.wholeStaysRow.make))=true:=(show Rows.wholeStaysRow.make=Rows.wholeTilesRow.make from rfl) ▸ pq27
theorem q28:kindsAre Tryz.prog Rows.wholeStaysRow Tryz.f11=true:=by kernel_rfl
theorem q29:((Rows.wholeStaysRow.pinned == Rows.wholeStaysRow.pinnedBy))=true:=by kernel_rfl
theorem q30:((Rows.wholeStaysRow.veiled == (Tryz.f11.params.toList ++ Rows.wholeStaysSpec.plain.varTypes Tryz.prog ++ Tryz.f11.resultTypes.toList).any (Tryz.prog.veiledRec ·)))=true:=by kernel_rfl
theorem q31:(Rows.wholeStaysRow.veiledFits Tryz.prog Tryz.f11.params.toList (Tryz.f11.params.toList ++ Rows.wholeStaysSpec.plain.varTypes Tryz.prog ++ Tryz.f11.resultTypes.toList))=true:=by kernel_rfl
theorem q_named:Tryz.prog.funcNamed Rows.wholeStaysRow.func=some 11:=by kernel_rfl
theorem q_inst:Tryz.f11.isInstance Tryz.prog Rows.wholeStaysRow.origin Rows.wholeStaysRow.targs:=of_decide_eq_true (by kernel_rfl)
theorem q_wrap:Tryz.f11.isWrapper Tryz.prog Rows.wholeStaysRow.wrapper Rows.wholeStaysRow.mainSum:=by unfold Func.isWrapper; first | (rw [if_pos (by decide +kernel)]; kernel_rfl) | (rw [if_neg (by decide +kernel)]; exact ⟨rfl,rfl⟩)
set_option maxRecDepth 100000 in
theorem q_all:joinedFacts Tryz.prog 11 Tryz.f11 Rows.wholeStaysSpec Rows.wholeStaysRow=true:=joined_of (P:=Tryz.prog) (f:=11) (fn:=Tryz.f11) (s:=Rows.wholeStaysSpec) (c:=Rows.wholeStaysRow) q0 pq1 pq2 q3 q4 q5 pq6 q7 pq8 q9 q10 q11 q12 q13 q14 q15 q16 q17 q18 q19 q20 q21 q22 q23 pq24 pq25 q26 q27 q28 q29 q30 q31
theorem over:Rows.WholeStaysSaid:=
 OpenClaim.holds_of_wide 11 Tryz.f11 rfl rfl rfl rfl rfl rfl rfl ⟨rfl,rfl,rfl,rfl,rfl⟩ rfl rfl rfl rfl rfl q_named Tryz.func11 q_all q_inst q_wrap
  (fun os started H enc _=>lifted os started H enc)
theorem c_wf:Rows.wholeStaysRow.wfByText (OpenSpec.ofChange Rows.wholeStaysSpec)=true:=by kernel_rfl
theorem c_looks:true=Tryz.prog.looks []:=by kernel_rfl
theorem c_stand:([23,25].all fun u=>!Tryz.prog.wantsStandIn u)=true:=by kernel_rfl
theorem c_goes:false=Rows.wholeStaysRow.goesBy Tryz.prog:=by kernel_rfl
end Go.Proofs.YtalichkdeekdcaaGreatDoor.wholeStays
namespace Go.Proofs.YtalichkdeekdcaaGreatDoor
theorem wholeStays_holds:Rows.WholeStaysCardSaid:=
 Claim7.holds_tied_plain_at (c:=Rows.wholeStaysRow) .later [] _ true _ true
  wholeStays.over (fun _ h=>by cases h) wholeStays.c_wf (fun _ h=>by cases h) wholeStays_row_tie rfl ⟨rfl,rfl⟩ main_is rfl
  (fun f fn hf hfn=>by
   obtain rfl:f=11:=Option.some.inj (wholeStays.q_named.symm.trans hf) |>.symm
   obtain rfl:fn=Tryz.f11:=(Option.some.inj (Tryz.func11.symm.trans hfn)).symm
   exact ⟨wholeStays.c_looks,fun j t ht=>by
    rw [Tryz.params11] at ht
    have hm:t∈[23,25]:=by simpa using Array.mem_of_getElem? ht
    exact (show Tryz.prog.wantsStandIn t=false by simpa using List.all_eq_true.1 wholeStays.c_stand t hm)⟩)
  wholeStays.c_goes
#print axioms wholeStays_holds
end Go.Proofs.YtalichkdeekdcaaGreatDoor
