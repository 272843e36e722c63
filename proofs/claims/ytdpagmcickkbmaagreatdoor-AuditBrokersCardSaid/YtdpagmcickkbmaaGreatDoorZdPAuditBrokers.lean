/- AuditBrokers: for every input the law answers true, and its arguments read as before. Conditions: none. -/
import Derived.Test.YtdpagmcickkbmaaGreatDoorZd47
import Derived.Test.YtdpagmcickkbmaaGreatDoorZd48
namespace Go.Proofs.YtdpagmcickkbmaaGreatDoor
set_option maxRecDepth 100000
open Go.Lib renaming hid → lj
namespace auditBrokers
open Go.ChangeShapes Go.WideShapes Go.ChangeAt Go.RowKit
open Fr Bk
set_option maxHeartbeats 2000000 in
theorem walk (ca0 cb0 cc0 cd0 ce0 cf0 cg0 ch0:Int) (a1:Option Addr) (len1 cap1:Nat) (K1 I1 R1:Nat→Int) (A1:Nat→Option Addr) (L1 C1:Nat→Nat) (T1:Nat→Bs) (a2:Int) (w:World)  (w1:Ievs w w.heap.size a1 len1 K1 I1 R1 A1 L1 C1 T1) (g1:len1≤cap1∧cap1≤maxLen) (w2:(Lit.int .i64 a2).wf=true) (ht:TI w) :
  Calls Tryz.prog 3 #[.agg (cv ca0 cb0 cc0 cd0 ce0 cf0 cg0 ch0),.slice a1 len1 cap1,.int .i64 a2] w fun e w'=>e = .returned (.bool true)∧Below w.heap.size w w':=by
 have HTI:=lj ht;have HEV:=lj w1
 have hln:len1≤9223372036854775807:=by have:=g1; unfold maxLen at this; omega
 have HW2:=lj w2;clear ht w1 g1;obtain ⟨p,hp4,hpe⟩:=rest_any a2 4 (by decide) (by decide)
 have hadd:wrap64 ((1:Int)+(p:Int))=((1+p:Nat):Int):=by rw [IntWalk.wrap64_in _ (by omega)]; omega
 by_cases hrt:rt ca0 cb0 cc0 cd0 ce0 cf0 cg0 ch0=true
 rotate_left
 ·have hrt:rt ca0 cb0 cc0 cd0 ce0 cf0 cg0 ch0=false:=by simpa using hrt
  unfold cv
  go_enter Tryz.func3,Tryz.ntmps3
  have hxm:=Bx.new w _ rfl #[.int .i64 ca0,.int .i64 cb0,.int .i64 cc0,.int .i64 cd0,.int .i64 ce0,.int .i64 cf0,.int .i64 cg0,.int .i64 ch0] 23;have hba:Below w.heap.size w (w.alloc (.cells #[.int .i64 ca0,.int .i64 cb0,.int .i64 cc0,.int .i64 cd0,.int .i64 ce0,.int .i64 cf0,.int .i64 cg0,.int .i64 ch0] 23)):=(Below.refl _ _).alloc (Nat.le_refl _) _
  have hsz:w.heap.size<(w.alloc (.cells #[.int .i64 ca0,.int .i64 cb0,.int .i64 cc0,.int .i64 cd0,.int .i64 ce0,.int .i64 cf0,.int .i64 cg0,.int .i64 ch0] 23)).heap.size:=by simp
  go_wp2_with fail
  generalize (w.alloc (.cells #[.int .i64 ca0,.int .i64 cb0,.int .i64 cc0,.int .i64 cd0,.int .i64 ce0,.int .i64 cf0,.int .i64 cg0,.int .i64 ch0] 23))=wa at *
  obtain ⟨gm,hgm⟩:∃ gm,w.heap.size=gm:=⟨_,rfl⟩
  rw [hgm] at hxm hba hsz;have HG:=lj hgm;have hTI:=HTI.out.below (hgm ▸ hba);have HE0:=lj (show Ievs w gm a1 len1 K1 I1 R1 A1 L1 C1 T1 from hgm ▸ HEV.out);rw [hgm];clear hgm HEV;refine (lhd_any wa).mono ?_;rintro e w1 ⟨rfl,hb1⟩;have HX1:=lj (hxm.go hb1 hsz);have HB1:=lj (Below.trans hba (hb1.mono (Nat.le_of_lt hsz)));have HT1:=lj (hTI.below hb1);have HS1:=lj (Nat.lt_of_lt_of_le hsz hb1.size)
  skip
  clear hxm hba hb1 hTI hsz;have HF:=lj (lfew_any (cap:=cap1) w1 (show Ievs w1 w1.heap.size a1 len1 K1 I1 R1 A1 L1 C1 T1 from (HE0.out.below HB1.out).more (Nat.le_of_lt HS1.out)) hln)
  go_wp2_with fail
  refine HF.out.mono ?_;rintro e w2 ⟨f,rfl,hfew,hb2⟩;have HX2:=lj (HX1.out.go hb2 HS1.out);have HB2:=lj (Below.trans HB1.out (hb2.mono (Nat.le_of_lt HS1.out)));have HT2:=lj (HT1.out.below hb2);have HS2:=lj (Nat.lt_of_lt_of_le HS1.out hb2.size)
  skip
  clear hb2 HX1 HB1 HT1 HS1 HF
  rcases f with _ | _
  ·go_wp2
   go_ret;exact ⟨rfl,by rw [HG.out]; exact HB2.out⟩
  have z0:=HX2.out.cell 0 (.int .i64 ca0) rfl;have z1:=HX2.out.cell 1 (.int .i64 cb0) rfl;have z2:=HX2.out.cell 2 (.int .i64 cc0) rfl;have z3:=HX2.out.cell 3 (.int .i64 cd0) rfl;have z4:=HX2.out.cell 4 (.int .i64 ce0) rfl;have z5:=HX2.out.cell 5 (.int .i64 cf0) rfl;have z6:=HX2.out.cell 6 (.int .i64 cg0) rfl;have z7:=HX2.out.cell 7 (.int .i64 ch0) rfl
  go_wp2_with fail
  refine (cright_any ca0 cb0 cc0 cd0 ce0 cf0 cg0 ch0 w2).mono ?_;rintro e w3 ⟨rfl,hb3⟩;rw [hrt];have HX3:=lj (HX2.out.go hb3 HS2.out);have HB3:=lj (Below.trans HB2.out (hb3.mono (Nat.le_of_lt HS2.out)));have HT3:=lj (HT2.out.below hb3);have HS3:=lj (Nat.lt_of_lt_of_le HS2.out hb3.size)
  skip
  clear hb3 HX2 HB2 HT2 HS2 z0 z1 z2 z3 z4 z5 z6 z7;go_wp2;go_ret;exact ⟨rfl,by rw [HG.out]; exact HB3.out⟩
 obtain ⟨cf,hcf,hev0,rfl,rfl,rfl,rfl,rfl,rfl,rfl,rfl⟩:=rt_cf hrt;have HC:=lj (And.intro hcf hev0);clear hcf hev0;unfold cv
 go_enter Tryz.func3,Tryz.ntmps3
 have hxm:=Bx.new w _ rfl #[.int .i64 cf.log,.int .i64 cf.data,.int .i64 cf.queue,.int .i64 cf.input,.int .i64 cf.strikes,.int .i64 cf.lease,.int .i64 cf.idle,.int .i64 cf.width] 23;have hba:Below w.heap.size w (w.alloc (.cells #[.int .i64 cf.log,.int .i64 cf.data,.int .i64 cf.queue,.int .i64 cf.input,.int .i64 cf.strikes,.int .i64 cf.lease,.int .i64 cf.idle,.int .i64 cf.width] 23)):=(Below.refl _ _).alloc (Nat.le_refl _) _
 have hsz:w.heap.size<(w.alloc (.cells #[.int .i64 cf.log,.int .i64 cf.data,.int .i64 cf.queue,.int .i64 cf.input,.int .i64 cf.strikes,.int .i64 cf.lease,.int .i64 cf.idle,.int .i64 cf.width] 23)).heap.size:=by simp
 go_wp2_with fail
 generalize (w.alloc (.cells #[.int .i64 cf.log,.int .i64 cf.data,.int .i64 cf.queue,.int .i64 cf.input,.int .i64 cf.strikes,.int .i64 cf.lease,.int .i64 cf.idle,.int .i64 cf.width] 23))=wa at *
 obtain ⟨gm,hgm⟩:∃ gm,w.heap.size=gm:=⟨_,rfl⟩
 rw [hgm] at hxm hba hsz;have HG:=lj hgm;have hTI:=HTI.out.below (hgm ▸ hba);have HE0:=lj (show Ievs w gm a1 len1 K1 I1 R1 A1 L1 C1 T1 from hgm ▸ HEV.out);rw [hgm];clear hgm HEV;refine (lhd_any wa).mono ?_;rintro e w1 ⟨rfl,hb1⟩;have HX1:=lj (hxm.go hb1 hsz);have HB1:=lj (Below.trans hba (hb1.mono (Nat.le_of_lt hsz)));have HT1:=lj (hTI.below hb1);have HS1:=lj (Nat.lt_of_lt_of_le hsz hb1.size)
 skip
 clear hxm hba hb1 hTI hsz;have HF:=lj (lfew_any (cap:=cap1) w1 (show Ievs w1 w1.heap.size a1 len1 K1 I1 R1 A1 L1 C1 T1 from (HE0.out.below HB1.out).more (Nat.le_of_lt HS1.out)) hln)
 go_wp2_with fail
 refine HF.out.mono ?_;rintro e w2 ⟨f,rfl,hfew,hb2⟩;have HX2:=lj (HX1.out.go hb2 HS1.out);have HB2:=lj (Below.trans HB1.out (hb2.mono (Nat.le_of_lt HS1.out)));have HT2:=lj (HT1.out.below hb2);have HS2:=lj (Nat.lt_of_lt_of_le HS1.out hb2.size)
 skip
 clear hb2 HX1 HB1 HT1 HS1 HF
 rcases f with _ | _
 ·go_wp2
  go_ret;exact ⟨rfl,by rw [HG.out]; exact HB2.out⟩
 have hfew:=hfew rfl;have hf1:=hfew.1;have HFW:=lj hfew.2;clear hfew;have z0:=HX2.out.cell 0 (.int .i64 cf.log) rfl;have z1:=HX2.out.cell 1 (.int .i64 cf.data) rfl;have z2:=HX2.out.cell 2 (.int .i64 cf.queue) rfl;have z3:=HX2.out.cell 3 (.int .i64 cf.input) rfl;have z4:=HX2.out.cell 4 (.int .i64 cf.strikes) rfl;have z5:=HX2.out.cell 5 (.int .i64 cf.lease) rfl;have z6:=HX2.out.cell 6 (.int .i64 cf.idle) rfl;have z7:=HX2.out.cell 7 (.int .i64 cf.width) rfl
 go_wp2_with fail
 refine (cright_any ((cf.log:Nat)) ((cf.data:Nat)) ((cf.queue:Nat)) ((cf.input:Nat)) ((cf.strikes:Nat)) ((cf.lease:Nat)) ((cf.idle:Nat)) ((cf.width:Nat)) w2).mono ?_;rintro e w3 ⟨rfl,hb3⟩;rw [hrt];have HX3:=lj (HX2.out.go hb3 HS2.out);have HB3:=lj (Below.trans HB2.out (hb3.mono (Nat.le_of_lt HS2.out)));have HT3:=lj (HT2.out.below hb3);have HS3:=lj (Nat.lt_of_lt_of_le HS2.out hb3.size)
 skip
 clear hb3 HX2 HB2 HT2 HS2 z0 z1 z2 z3 z4 z5 z6 z7;have HPl:=lj (plain_any (cap:=cap1) w3 (show Ievs w3 w3.heap.size a1 len1 K1 I1 R1 A1 L1 C1 T1 from (HE0.out.below HB3.out).more (Nat.le_of_lt HS3.out)) hln)
 go_wp2_with fail
 refine HPl.out.mono ?_;rintro e w4 ⟨f,rfl,hpl,hb4⟩;have HX4:=lj (HX3.out.go hb4 HS3.out);have HB4:=lj (Below.trans HB3.out (hb4.mono (Nat.le_of_lt HS3.out)));have HT4:=lj (HT3.out.below hb4);have HS4:=lj (Nat.lt_of_lt_of_le HS3.out hb4.size);clear hb4 HX3 HB3 HT3 HS3 HPl
 rcases f with _ | _
 ·go_wp2
  go_ret;exact ⟨rfl,by rw [HG.out]; exact HB4.out⟩
 have HPl:=lj (hpl rfl);clear hpl
 obtain ⟨i,hi⟩:∃ i,1+p=i:=⟨_,rfl⟩
 have hi1:1≤i:=by omega
 have hi2:i≤16:=by omega
 rw [hi] at hadd
 have HSe:=lj (show Calls Tryz.prog 10 #[.agg #[.int .i64 cf.log,.int .i64 cf.data,.int .i64 cf.queue,.int .i64 cf.input,.int .i64 cf.strikes,.int .i64 cf.lease,.int .i64 cf.idle,.int .i64 cf.width],.slice a1 len1 cap1,.int .i64 (i:Nat)] w4 (SentGives (SI i cf.strikes) i w4) from
  sent_any HC.out.1 HC.out.2 (SI i cf.strikes) i hi2 w4 HT4.out ((HE0.out.below HB4.out).more (Nat.le_of_lt HS4.out)) hf1 HFW.out (si_new HC.out.2.ok)
   (fun k q A G b hk hq hq7 hat hin=>si_step hq hq7 hat (HE0.out.inner k hk).2.1.1 (Nat.le_trans (sumL_mono (show k+1≤len1 by omega)) HFW.out) (HPl.out k hk) hin)
   (fun A G b h=>by have h2:=h.write (i:Nat) 1000; rwa [if_pos rfl] at h2))
 clear hi hp4 HE0 HT4 HPl HFW;have z0:=HX4.out.cell 0 (.int .i64 cf.log) rfl;have z1:=HX4.out.cell 1 (.int .i64 cf.data) rfl;have z2:=HX4.out.cell 2 (.int .i64 cf.queue) rfl;have z3:=HX4.out.cell 3 (.int .i64 cf.input) rfl;have z4:=HX4.out.cell 4 (.int .i64 cf.strikes) rfl;have z5:=HX4.out.cell 5 (.int .i64 cf.lease) rfl;have z6:=HX4.out.cell 6 (.int .i64 cf.idle) rfl;have z7:=HX4.out.cell 7 (.int .i64 cf.width) rfl
 go_wp2_with fail
 refine HSe.out.mono ?_;rintro e w5 ⟨AA,GG,b,R,rc,ms,rr,rfl,hinv,hw0,hla,hlg,hms,hrow,h5,hb5⟩;have HX5:=lj (HX4.out.go hb5 HS4.out);have HB5:=lj (Below.trans HB4.out (hb5.mono (Nat.le_of_lt HS4.out)));have HS5:=lj (Nat.lt_of_lt_of_le HS4.out hb5.size)
 skip
 obtain ⟨hr0,hsent⟩:=sent_list hinv hi1 hi2 hw0 hms;subst hr0;have HSent:=lj hsent;have hdr:(decide (([]:Bs)=[]))=true:=rfl;rw [hdr];have HMi:=lj (msin_am hrow.msin hms.ok);have hml:(ms.map am).length=ms.length:=List.length_map ..;have HRow:=lj hrow;have hcap:=hrow.cap;have HMs:=lj hms;clear hinv hw0 hms hrow hb5 HX4 HB4 HS4 HSe z0 z1 z2 z3 z4 z5 z6 z7 hsent hdr;have z0:=HX5.out.cell 0 (.int .i64 cf.log) rfl;have z1:=HX5.out.cell 1 (.int .i64 cf.data) rfl;have z2:=HX5.out.cell 2 (.int .i64 cf.queue) rfl;have z3:=HX5.out.cell 3 (.int .i64 cf.input) rfl;have z4:=HX5.out.cell 4 (.int .i64 cf.strikes) rfl;have z5:=HX5.out.cell 5 (.int .i64 cf.lease) rfl;have z6:=HX5.out.cell 6 (.int .i64 cf.idle) rfl;have z7:=HX5.out.cell 7 (.int .i64 cf.width) rfl;have HFi:=lj (first_any HMi.out rc (by rw [hml]; omega) AA (by omega) (cf.strikes:Nat));rw [hml] at HFi
 go_wp2_with fail
 refine HFi.out.mono ?_;rintro e w6 ⟨r,rfl,hfirst,hb6⟩
 obtain rfl:r = -1:=Au.isFirst_one hfirst HSent.out.first
 have HB6:=lj (Below.trans HB5.out (hb6.mono (Nat.le_of_lt HS5.out)));clear hfirst hb6 HFi;go_wp2;go_ret;exact ⟨rfl,by rw [HG.out]; exact HB6.out⟩
theorem w_in:Tryz.checked.prog.inits.idxOf? 3=none:=by kernel_rfl
theorem w_ok (os:Os):Input.okWideB Tryz.prog ((World.doorLaid Tryz.prog 400 os).forCall (fun _ _=>0) ⟨#[],#[.agg #[.int .i64 0,.int .i64 0,.int .i64 0,.int .i64 0,.int .i64 0,.int .i64 0,.int .i64 0,.int .i64 0],.slice none 0 0,.int .i64 0],[]⟩) 3 ⟨#[],#[.agg #[.int .i64 0,.int .i64 0,.int .i64 0,.int .i64 0,.int .i64 0,.int .i64 0,.int .i64 0,.int .i64 0],.slice none 0 0,.int .i64 0],[]⟩=true:=by kernel_rfl
theorem w_pre (os:Os) (H:Type) (enc:TypeId×Value→H):Rows.auditBrokersSpec.preB enc Tryz.prog Tryz.f3 [] false ((World.doorLaid Tryz.prog 400 os).forCall (fun _ _=>0) ⟨#[],#[.agg #[.int .i64 0,.int .i64 0,.int .i64 0,.int .i64 0,.int .i64 0,.int .i64 0,.int .i64 0,.int .i64 0],.slice none 0 0,.int .i64 0],[]⟩).memory #[.agg #[.int .i64 0,.int .i64 0,.int .i64 0,.int .i64 0,.int .i64 0,.int .i64 0,.int .i64 0,.int .i64 0],.slice none 0 0,.int .i64 0] 8=true:=by kernel_rfl
theorem w_sz (os:Os) (H:Type) (enc:TypeId×Value→H):Rows.auditBrokersSpec.sizedB enc Tryz.prog Tryz.f3 false ((World.doorLaid Tryz.prog 400 os).forCall (fun _ _=>0) ⟨#[],#[.agg #[.int .i64 0,.int .i64 0,.int .i64 0,.int .i64 0,.int .i64 0,.int .i64 0,.int .i64 0,.int .i64 0],.slice none 0 0,.int .i64 0],[]⟩).memory #[.agg #[.int .i64 0,.int .i64 0,.int .i64 0,.int .i64 0,.int .i64 0,.int .i64 0,.int .i64 0,.int .i64 0],.slice none 0 0,.int .i64 0] 8=true:=by kernel_rfl
theorem lifted (os:Os) (started:os.Started) (H:Type) (enc:TypeId×Value→H) :
  ReturnsInHanded {} Tryz.checked os 3 .any (fun w args=>(Rows.auditBrokersSpec.pre enc Tryz.prog Tryz.f3 [] false w args∧laidMetH Tryz.prog laidL w)∧sizedMet enc Tryz.prog Tryz.f3 (OpenSpec.ofChange Rows.auditBrokersSpec) false w args)
   (Rows.auditBrokersSpec.post enc Tryz.prog Tryz.f3 false true false false):=by
 refine returnsInHanded_of_change_and (C:=Tryz.checked) (X:=fun w _=>laidMetH Tryz.prog laidL w) (fun _ _ _ hh h=>h.of_heap hh) own started w_in Tryz.func3
  (ChangeSpec.witness_shaped (enc:=enc) (C:=Tryz.checked) (os:=os) (X:=fun w _=>laidMetH Tryz.prog laidL w) false (World.doorLaid Tryz.prog 400 os) #[.agg #[.int .i64 0,.int .i64 0,.int .i64 0,.int .i64 0,.int .i64 0,.int .i64 0,.int .i64 0,.int .i64 0],.slice none 0 0,.int .i64 0] 8 rfl (door_shaped os _) (w_ok os) (w_pre os H enc) (w_sz os H enc) (door_met os _)) ?_
 intro W base args ds gs before hval0 hW hcnd hsz0 hL _;have hti:=ti_of hL
 have hval:∀ (j:Nat) t v,Tryz.f3.params[j]?=some t→args[j]?=some v→Value.okWide Tryz.prog W .any base t v:=hval0
 have hW':=hW;obtain ⟨p,q,hA0,hV,rfl,hfz,hnd⟩:=hW;have hsz:(DataW.weightsEach Tryz.prog (Tryz.f3.params.toList ++ Rows.auditBrokersSpec.plain.varTypes Tryz.prog) (ds ++ gs)).all (·≤reachBytes)=true:=hsz0;have hA:DataW.TrodAll enc Tryz.prog W 0 (fun _=>true) true Tryz.f3.params.toList args.toList ds p:=hA0;rw [Tryz.params3] at hA hval hsz;obtain ⟨v0,vs0,d0,ds0,p0,q0,hargs,rfl,rfl,h0,r0⟩:=trodAll_cons hA;obtain ⟨v1,vs1,d1,ds1,p1,q1,rfl,rfl,rfl,h1,r1⟩:=trodAll_cons r0;obtain ⟨v2,vs2,d2,ds2,p2,q2,rfl,rfl,rfl,h2,r2⟩:=trodAll_cons r1;obtain ⟨rfl,rfl,rfl⟩:=trodAll_nil r2
 obtain rfl:args = #[v0,v1,v2]:=by cases args; simp_all
 obtain ⟨rfl,rfl⟩:=trodVars_none hV;have k0:=h0
 have lt0:∀ x∈p0,x.block<W.heap.size:=by obtain ⟨m,hm⟩:=k0; exact DataW.trod_lt m _ _ _ hm
 obtain ⟨ca0,cb0,cc0,cd0,ce0,cf0,cg0,ch0,rfl⟩:=open_conf (hval 0 23 v0 rfl rfl) h0;obtain ⟨a1,len1,cap1,rfl⟩:=okWide_slice Tryz.underlying24 (hval 1 24 v1 rfl rfl);have k1:=h1
 have lt1:∀ x∈p1,x.block<W.heap.size:=by obtain ⟨m,hm⟩:=k1; exact DataW.trod_lt m _ _ _ hm
 obtain ⟨K1,I1,R1,A1,L1,C1,T1,w1,g1⟩:∃ K I R A L C T,Ievs W W.heap.size a1 len1 K I R A L C T∧len1≤cap1∧cap1≤maxLen:=by
  obtain ⟨fuel,hf⟩:=h1;exact open_ievs hf (fits_of hsz (j:=1) rfl rfl)
 obtain ⟨a2,rfl,rfl,rfl,w2⟩:=open_int Tryz.underlying3 (hval 2 3 v2 rfl rfl) h2;clear hA0 hval0 hsz hsz0
 refine (walk ca0 cb0 cc0 cd0 ce0 cf0 cg0 ch0 a1 len1 cap1 K1 I1 R1 A1 L1 C1 T1 a2 W w1 g1 w2 hti).mono fun e W' ⟨he,bel⟩=>?_
 subst he;exact ⟨_,rfl,_,_,_,[],_,[],hW',trodAll_mk1 (shut_bool Tryz.underlying4 _),(trodAll_cons_mk (Below.trod laidOut (by kernel_rfl) (of_decide_eq_true (by kernel_rfl)) k0 bel lt0) (trodAll_cons_mk (Below.trod laidOut (by kernel_rfl) (of_decide_eq_true (by kernel_rfl)) k1 bel lt1) (trodAll_cons_mk (shut_int Tryz.underlying3 w2) trodAll_mk0))),rfl,bel.frame _,fun h=>by cases h⟩
theorem q0:(Rows.auditBrokersRow.wf (OpenSpec.ofChange Rows.auditBrokersSpec))=true:=by kernel_rfl
theorem q3:(Tryz.f3.params.all (Tryz.prog.readableRec ·))=true:=by kernel_rfl
theorem q4:(namedTie Tryz.prog Rows.auditBrokersRow.named Rows.auditBrokersSpec.vars)=true:=by kernel_rfl
theorem q5:((Rows.auditBrokersRow.stops == []))=true:=by kernel_rfl
theorem q7:((Rows.auditBrokersRow.knobs == []))=true:=by kernel_rfl
theorem q9:((Rows.auditBrokersRow.inPlace == Tryz.prog.inPlace 3))=true:=by kernel_rfl
theorem q10:((Rows.auditBrokersRow.unfollowed == Tryz.prog.unfollowed 3))=true:=by kernel_rfl
theorem q11:((Rows.auditBrokersRow.recurses == Tryz.prog.recurses 3))=true:=by kernel_rfl
theorem q12:((Rows.auditBrokersRow.named == Tryz.prog.varsNamed 3))=true:=by kernel_rfl
theorem q13:((Rows.auditBrokersRow.maps == (Tryz.f3.params.toList ++ Rows.auditBrokersSpec.plain.varTypes Tryz.prog).any (Tryz.prog.mapsRec ·)))=true:=by kernel_rfl
theorem q14:((Rows.auditBrokersRow.ifaces == (Tryz.f3.params.toList ++ Rows.auditBrokersSpec.plain.varTypes Tryz.prog).any (Tryz.prog.ifacesRec ·)))=true:=by kernel_rfl
theorem q15:((Rows.auditBrokersRow.mapsOut == Tryz.prog.mapsAmong Tryz.f3.resultTypes.toList))=true:=by kernel_rfl
theorem q16:((Rows.auditBrokersRow.loops == (Tryz.f3.params.toList ++ Rows.auditBrokersSpec.plain.varTypes Tryz.prog).any (Tryz.prog.loopsFrom ·)))=true:=by kernel_rfl
theorem q17:((Rows.auditBrokersRow.wideKeys == (Tryz.f3.params.toList ++ Rows.auditBrokersSpec.plain.varTypes Tryz.prog ++ Tryz.f3.resultTypes.toList).any (Tryz.prog.wideKeysFrom ·)))=true:=by kernel_rfl
theorem q18:(Rows.auditBrokersSpec.vars.all (Tryz.prog.varReadable ·))=true:=by kernel_rfl
theorem q19:(Tryz.f3.resultTypes.all (fun t=>Tryz.prog.readableRec t && decide (t<Tryz.prog.types.size)))=true:=by kernel_rfl
theorem q20:((Rows.auditBrokersRow.ifacesOut == Tryz.f3.resultTypes.toList.any (Tryz.prog.ifacesRec ·)))=true:=by kernel_rfl
theorem q21:((Rows.auditBrokersRow.loopsOut == Tryz.f3.resultTypes.toList.any (Tryz.prog.loopsFrom ·)))=true:=by kernel_rfl
theorem q22:((Rows.auditBrokersRow.plainKeys == Tryz.prog.plainKeys))=true:=(show Rows.auditBrokersRow.plainKeys=Rows.auditBrokersRow.plainKeys from rfl) ▸ pq22
theorem q23:(Rows.auditBrokersRow.shortTexts.isNone)=true:=by kernel_rfl
theorem q26:((Rows.auditBrokersRow.lifted == Tryz.prog.liftsFinal))=true:=(show Rows.auditBrokersRow.lifted=Rows.auditBrokersRow.lifted from rfl) ▸ pq26
theorem q27:((Tryz.prog.make == some Rows.auditBrokersRow.make))=true:=(show Rows.auditBrokersRow.make=Rows.auditBrokersRow.make from rfl) ▸ pq27
theorem q28:kindsAre Tryz.prog Rows.auditBrokersRow Tryz.f3=true:=by kernel_rfl
theorem q29:((Rows.auditBrokersRow.pinned == Rows.auditBrokersRow.pinnedBy))=true:=by kernel_rfl
theorem q30:((Rows.auditBrokersRow.veiled == (Tryz.f3.params.toList ++ Rows.auditBrokersSpec.plain.varTypes Tryz.prog ++ Tryz.f3.resultTypes.toList).any (Tryz.prog.veiledRec ·)))=true:=by kernel_rfl
theorem q31:(Rows.auditBrokersRow.veiledFits Tryz.prog Tryz.f3.params.toList (Tryz.f3.params.toList ++ Rows.auditBrokersSpec.plain.varTypes Tryz.prog ++ Tryz.f3.resultTypes.toList))=true:=by kernel_rfl
theorem q_named:Tryz.prog.funcNamed Rows.auditBrokersRow.func=some 3:=by kernel_rfl
theorem q_inst:Tryz.f3.isInstance Tryz.prog Rows.auditBrokersRow.origin Rows.auditBrokersRow.targs:=of_decide_eq_true (by kernel_rfl)
theorem q_wrap:Tryz.f3.isWrapper Tryz.prog Rows.auditBrokersRow.wrapper Rows.auditBrokersRow.mainSum:=by unfold Func.isWrapper; first | (rw [if_pos (by decide +kernel)]; kernel_rfl) | (rw [if_neg (by decide +kernel)]; exact ⟨rfl,rfl⟩)
theorem q_all:joinedFacts Tryz.prog 3 Tryz.f3 Rows.auditBrokersSpec Rows.auditBrokersRow=true:=joined_of (P:=Tryz.prog) (f:=3) (fn:=Tryz.f3) (s:=Rows.auditBrokersSpec) (c:=Rows.auditBrokersRow) q0 pq1 pq2 q3 q4 q5 pq6 q7 pq8 q9 q10 q11 q12 q13 q14 q15 q16 q17 q18 q19 q20 q21 q22 q23 pq24 pq25 q26 q27 q28 q29 q30 q31
theorem over:Rows.AuditBrokersSaid:=
 OpenClaim.holds_of_wide 3 Tryz.f3 rfl rfl rfl rfl rfl rfl rfl ⟨rfl,rfl,rfl,rfl,rfl⟩ rfl rfl rfl rfl rfl q_named Tryz.func3 q_all q_inst q_wrap
  (fun os started H enc _=>lifted os started H enc)
theorem c_wf:Rows.auditBrokersRow.wfByText (OpenSpec.ofChange Rows.auditBrokersSpec)=true:=by kernel_rfl
theorem c_looks:true=Tryz.prog.looks []:=by kernel_rfl
theorem c_stand:([23,24,3].all fun u=>!Tryz.prog.wantsStandIn u)=true:=by kernel_rfl
theorem c_goes:false=Rows.auditBrokersRow.goesBy Tryz.prog:=by kernel_rfl
end auditBrokers
theorem auditBrokers_holds:Rows.AuditBrokersCardSaid:=
 Claim7.holds_tied_plain_at (c:=Rows.auditBrokersRow) .later [] _ true _ true
  auditBrokers.over (fun _ h=>by cases h) auditBrokers.c_wf (fun _ h=>by cases h) auditBrokers_row_tie rfl ⟨rfl,rfl⟩ main_is rfl
  (fun f fn hf hfn=>by
   obtain rfl:f=3:=Option.some.inj (auditBrokers.q_named.symm.trans hf) |>.symm
   obtain rfl:fn=Tryz.f3:=(Option.some.inj (Tryz.func3.symm.trans hfn)).symm
   exact ⟨auditBrokers.c_looks,fun j t ht=>by
    rw [Tryz.params3] at ht
    have hm:t∈[23,24,3]:=by simpa using Array.mem_of_getElem? ht
    exact (show Tryz.prog.wantsStandIn t=false by simpa using List.all_eq_true.1 auditBrokers.c_stand t hm)⟩)
  auditBrokers.c_goes
#print axioms auditBrokers_holds
end Go.Proofs.YtdpagmcickkbmaaGreatDoor
