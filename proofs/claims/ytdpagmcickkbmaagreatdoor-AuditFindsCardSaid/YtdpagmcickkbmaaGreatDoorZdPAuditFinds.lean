/- AuditFinds: for every input the law answers true, and its arguments read as before. Conditions: none. -/
import Derived.Test.YtdpagmcickkbmaaGreatDoorZd47
import Derived.Test.YtdpagmcickkbmaaGreatDoorZd48
namespace Go.Proofs.YtdpagmcickkbmaaGreatDoor
set_option maxRecDepth 100000
open Go.Lib renaming hid → lj
namespace auditFinds
open Go.ChangeShapes Go.WideShapes Go.ChangeAt Go.RowKit
open Fr Bk
set_option maxHeartbeats 2000000 in
theorem walk (ca0 cb0 cc0 cd0 ce0 cf0 cg0 ch0:Int) (a1:Option Addr) (len1 cap1:Nat) (K1 I1 R1:Nat→Int) (A1:Nat→Option Addr) (L1 C1:Nat→Nat) (T1:Nat→Bs) (a2:Int) (sa3 sb3 sc3:Int) (w:World)  (w1:Ievs w w.heap.size a1 len1 K1 I1 R1 A1 L1 C1 T1) (g1:len1≤cap1∧cap1≤maxLen) (w2:(Lit.int .i64 a2).wf=true)  (ht:TI w) :
  Calls Tryz.prog 4 #[.agg (cv ca0 cb0 cc0 cd0 ce0 cf0 cg0 ch0),.slice a1 len1 cap1,.int .i64 a2,.agg #[.int .i64 sa3,.int .i64 sb3,.int .i64 sc3]] w fun e w'=>e = .returned (.bool true)∧Below w.heap.size w w':=by
 have HTI:=lj ht;have HEV:=lj w1
 have hln:len1≤9223372036854775807:=by have:=g1; unfold maxLen at this; omega
 have HW2:=lj w2;clear ht w1 g1;obtain ⟨p,hp4,hpe⟩:=rest_any a2 4 (by decide) (by decide)
 have hadd:wrap64 ((1:Int)+(p:Int))=((1+p:Nat):Int):=by rw [IntWalk.wrap64_in _ (by omega)]; omega
 by_cases hrt:rt ca0 cb0 cc0 cd0 ce0 cf0 cg0 ch0=true
 rotate_left
 ·have hrt:rt ca0 cb0 cc0 cd0 ce0 cf0 cg0 ch0=false:=by simpa using hrt
  unfold cv
  go_enter Tryz.func4,Tryz.ntmps4
  have hxm:=Bx.new w _ rfl #[.int .i64 ca0,.int .i64 cb0,.int .i64 cc0,.int .i64 cd0,.int .i64 ce0,.int .i64 cf0,.int .i64 cg0,.int .i64 ch0] 23;have hba:Below w.heap.size w (w.alloc (.cells #[.int .i64 ca0,.int .i64 cb0,.int .i64 cc0,.int .i64 cd0,.int .i64 ce0,.int .i64 cf0,.int .i64 cg0,.int .i64 ch0] 23)):=(Below.refl _ _).alloc (Nat.le_refl _) _
  have hsz:w.heap.size<(w.alloc (.cells #[.int .i64 ca0,.int .i64 cb0,.int .i64 cc0,.int .i64 cd0,.int .i64 ce0,.int .i64 cf0,.int .i64 cg0,.int .i64 ch0] 23)).heap.size:=by simp
  have hsp:=Bx.new (w.alloc (.cells #[.int .i64 ca0,.int .i64 cb0,.int .i64 cc0,.int .i64 cd0,.int .i64 ce0,.int .i64 cf0,.int .i64 cg0,.int .i64 ch0] 23)) _ rfl #[.int .i64 sa3,.int .i64 sb3,.int .i64 sc3] 34;have hbs:Below (w.alloc (.cells #[.int .i64 ca0,.int .i64 cb0,.int .i64 cc0,.int .i64 cd0,.int .i64 ce0,.int .i64 cf0,.int .i64 cg0,.int .i64 ch0] 23)).heap.size (w.alloc (.cells #[.int .i64 ca0,.int .i64 cb0,.int .i64 cc0,.int .i64 cd0,.int .i64 ce0,.int .i64 cf0,.int .i64 cg0,.int .i64 ch0] 23)) ((w.alloc (.cells #[.int .i64 ca0,.int .i64 cb0,.int .i64 cc0,.int .i64 cd0,.int .i64 ce0,.int .i64 cf0,.int .i64 cg0,.int .i64 ch0] 23)).alloc (.cells #[.int .i64 sa3,.int .i64 sb3,.int .i64 sc3] 34)):=(Below.refl _ _).alloc (Nat.le_refl _) _
  have hs1:(w.alloc (.cells #[.int .i64 ca0,.int .i64 cb0,.int .i64 cc0,.int .i64 cd0,.int .i64 ce0,.int .i64 cf0,.int .i64 cg0,.int .i64 ch0] 23)).heap.size=w.heap.size+1:=by simp
  rw [hs1] at hsp hbs;replace hxm:=hxm.go (by rw [hs1]; exact hbs) hsz;replace hba:=hba.trans (hbs.mono (Nat.le_succ _))
  replace hsz:w.heap.size<((w.alloc (.cells #[.int .i64 ca0,.int .i64 cb0,.int .i64 cc0,.int .i64 cd0,.int .i64 ce0,.int .i64 cf0,.int .i64 cg0,.int .i64 ch0] 23)).alloc (.cells #[.int .i64 sa3,.int .i64 sb3,.int .i64 sc3] 34)).heap.size:=by simp; omega
  have hsz2:w.heap.size+1<((w.alloc (.cells #[.int .i64 ca0,.int .i64 cb0,.int .i64 cc0,.int .i64 cd0,.int .i64 ce0,.int .i64 cf0,.int .i64 cg0,.int .i64 ch0] 23)).alloc (.cells #[.int .i64 sa3,.int .i64 sb3,.int .i64 sc3] 34)).heap.size:=by simp
  clear hs1 hbs
  go_wp2_with fail
  generalize ((w.alloc (.cells #[.int .i64 ca0,.int .i64 cb0,.int .i64 cc0,.int .i64 cd0,.int .i64 ce0,.int .i64 cf0,.int .i64 cg0,.int .i64 ch0] 23)).alloc (.cells #[.int .i64 sa3,.int .i64 sb3,.int .i64 sc3] 34))=wa at *
  obtain ⟨gm,hgm⟩:∃ gm,w.heap.size=gm:=⟨_,rfl⟩
  rw [hgm] at hxm hba hsz hsp hsz2;have HG:=lj hgm;have hTI:=HTI.out.below (hgm ▸ hba);have HE0:=lj (show Ievs w gm a1 len1 K1 I1 R1 A1 L1 C1 T1 from hgm ▸ HEV.out);rw [hgm];clear hgm HEV;refine (lhd_any wa).mono ?_;rintro e w1 ⟨rfl,hb1⟩;have HX1:=lj (hxm.go hb1 hsz);have HB1:=lj (Below.trans hba (hb1.mono (Nat.le_of_lt hsz)));have HT1:=lj (hTI.below hb1);have HS1:=lj (Nat.lt_of_lt_of_le hsz hb1.size);have HP1:=lj (And.intro (hsp.go hb1 hsz2) (Nat.lt_of_lt_of_le hsz2 hb1.size));clear hxm hba hb1 hTI hsz hsp hsz2;have HF:=lj (lfew_any (cap:=cap1) w1 (show Ievs w1 w1.heap.size a1 len1 K1 I1 R1 A1 L1 C1 T1 from (HE0.out.below HB1.out).more (Nat.le_of_lt HS1.out)) hln)
  go_wp2_with fail
  refine HF.out.mono ?_;rintro e w2 ⟨f,rfl,hfew,hb2⟩;have HX2:=lj (HX1.out.go hb2 HS1.out);have HB2:=lj (Below.trans HB1.out (hb2.mono (Nat.le_of_lt HS1.out)));have HT2:=lj (HT1.out.below hb2);have HS2:=lj (Nat.lt_of_lt_of_le HS1.out hb2.size);have HP2:=lj (And.intro (HP1.out.1.go hb2 HP1.out.2) (Nat.lt_of_lt_of_le HP1.out.2 hb2.size));clear hb2 HX1 HB1 HT1 HS1 HF HP1
  rcases f with _ | _
  ·go_wp2
   go_ret;exact ⟨rfl,by rw [HG.out]; exact HB2.out⟩
  have z0:=HX2.out.cell 0 (.int .i64 ca0) rfl;have z1:=HX2.out.cell 1 (.int .i64 cb0) rfl;have z2:=HX2.out.cell 2 (.int .i64 cc0) rfl;have z3:=HX2.out.cell 3 (.int .i64 cd0) rfl;have z4:=HX2.out.cell 4 (.int .i64 ce0) rfl;have z5:=HX2.out.cell 5 (.int .i64 cf0) rfl;have z6:=HX2.out.cell 6 (.int .i64 cg0) rfl;have z7:=HX2.out.cell 7 (.int .i64 ch0) rfl
  go_wp2_with fail
  refine (cright_any ca0 cb0 cc0 cd0 ce0 cf0 cg0 ch0 w2).mono ?_;rintro e w3 ⟨rfl,hb3⟩;rw [hrt];have HX3:=lj (HX2.out.go hb3 HS2.out);have HB3:=lj (Below.trans HB2.out (hb3.mono (Nat.le_of_lt HS2.out)));have HT3:=lj (HT2.out.below hb3);have HS3:=lj (Nat.lt_of_lt_of_le HS2.out hb3.size);have HP3:=lj (And.intro (HP2.out.1.go hb3 HP2.out.2) (Nat.lt_of_lt_of_le HP2.out.2 hb3.size));clear hb3 HX2 HB2 HT2 HS2 z0 z1 z2 z3 z4 z5 z6 z7 HP2;go_wp2;go_ret;exact ⟨rfl,by rw [HG.out]; exact HB3.out⟩
 obtain ⟨cf,hcf,hev0,rfl,rfl,rfl,rfl,rfl,rfl,rfl,rfl⟩:=rt_cf hrt;have HC:=lj (And.intro hcf hev0);clear hcf hev0;unfold cv
 go_enter Tryz.func4,Tryz.ntmps4
 have hxm:=Bx.new w _ rfl #[.int .i64 cf.log,.int .i64 cf.data,.int .i64 cf.queue,.int .i64 cf.input,.int .i64 cf.strikes,.int .i64 cf.lease,.int .i64 cf.idle,.int .i64 cf.width] 23;have hba:Below w.heap.size w (w.alloc (.cells #[.int .i64 cf.log,.int .i64 cf.data,.int .i64 cf.queue,.int .i64 cf.input,.int .i64 cf.strikes,.int .i64 cf.lease,.int .i64 cf.idle,.int .i64 cf.width] 23)):=(Below.refl _ _).alloc (Nat.le_refl _) _
 have hsz:w.heap.size<(w.alloc (.cells #[.int .i64 cf.log,.int .i64 cf.data,.int .i64 cf.queue,.int .i64 cf.input,.int .i64 cf.strikes,.int .i64 cf.lease,.int .i64 cf.idle,.int .i64 cf.width] 23)).heap.size:=by simp
 have hsp:=Bx.new (w.alloc (.cells #[.int .i64 cf.log,.int .i64 cf.data,.int .i64 cf.queue,.int .i64 cf.input,.int .i64 cf.strikes,.int .i64 cf.lease,.int .i64 cf.idle,.int .i64 cf.width] 23)) _ rfl #[.int .i64 sa3,.int .i64 sb3,.int .i64 sc3] 34;have hbs:Below (w.alloc (.cells #[.int .i64 cf.log,.int .i64 cf.data,.int .i64 cf.queue,.int .i64 cf.input,.int .i64 cf.strikes,.int .i64 cf.lease,.int .i64 cf.idle,.int .i64 cf.width] 23)).heap.size (w.alloc (.cells #[.int .i64 cf.log,.int .i64 cf.data,.int .i64 cf.queue,.int .i64 cf.input,.int .i64 cf.strikes,.int .i64 cf.lease,.int .i64 cf.idle,.int .i64 cf.width] 23)) ((w.alloc (.cells #[.int .i64 cf.log,.int .i64 cf.data,.int .i64 cf.queue,.int .i64 cf.input,.int .i64 cf.strikes,.int .i64 cf.lease,.int .i64 cf.idle,.int .i64 cf.width] 23)).alloc (.cells #[.int .i64 sa3,.int .i64 sb3,.int .i64 sc3] 34)):=(Below.refl _ _).alloc (Nat.le_refl _) _
 have hs1:(w.alloc (.cells #[.int .i64 cf.log,.int .i64 cf.data,.int .i64 cf.queue,.int .i64 cf.input,.int .i64 cf.strikes,.int .i64 cf.lease,.int .i64 cf.idle,.int .i64 cf.width] 23)).heap.size=w.heap.size+1:=by simp
 rw [hs1] at hsp hbs;replace hxm:=hxm.go (by rw [hs1]; exact hbs) hsz;replace hba:=hba.trans (hbs.mono (Nat.le_succ _))
 replace hsz:w.heap.size<((w.alloc (.cells #[.int .i64 cf.log,.int .i64 cf.data,.int .i64 cf.queue,.int .i64 cf.input,.int .i64 cf.strikes,.int .i64 cf.lease,.int .i64 cf.idle,.int .i64 cf.width] 23)).alloc (.cells #[.int .i64 sa3,.int .i64 sb3,.int .i64 sc3] 34)).heap.size:=by simp; omega
 have hsz2:w.heap.size+1<((w.alloc (.cells #[.int .i64 cf.log,.int .i64 cf.data,.int .i64 cf.queue,.int .i64 cf.input,.int .i64 cf.strikes,.int .i64 cf.lease,.int .i64 cf.idle,.int .i64 cf.width] 23)).alloc (.cells #[.int .i64 sa3,.int .i64 sb3,.int .i64 sc3] 34)).heap.size:=by simp
 clear hs1 hbs
 go_wp2_with fail
 generalize ((w.alloc (.cells #[.int .i64 cf.log,.int .i64 cf.data,.int .i64 cf.queue,.int .i64 cf.input,.int .i64 cf.strikes,.int .i64 cf.lease,.int .i64 cf.idle,.int .i64 cf.width] 23)).alloc (.cells #[.int .i64 sa3,.int .i64 sb3,.int .i64 sc3] 34))=wa at *
 obtain ⟨gm,hgm⟩:∃ gm,w.heap.size=gm:=⟨_,rfl⟩
 rw [hgm] at hxm hba hsz hsp hsz2;have HG:=lj hgm;have hTI:=HTI.out.below (hgm ▸ hba);have HE0:=lj (show Ievs w gm a1 len1 K1 I1 R1 A1 L1 C1 T1 from hgm ▸ HEV.out);rw [hgm];clear hgm HEV;refine (lhd_any wa).mono ?_;rintro e w1 ⟨rfl,hb1⟩;have HX1:=lj (hxm.go hb1 hsz);have HB1:=lj (Below.trans hba (hb1.mono (Nat.le_of_lt hsz)));have HT1:=lj (hTI.below hb1);have HS1:=lj (Nat.lt_of_lt_of_le hsz hb1.size);have HP1:=lj (And.intro (hsp.go hb1 hsz2) (Nat.lt_of_lt_of_le hsz2 hb1.size));clear hxm hba hb1 hTI hsz hsp hsz2;have HF:=lj (lfew_any (cap:=cap1) w1 (show Ievs w1 w1.heap.size a1 len1 K1 I1 R1 A1 L1 C1 T1 from (HE0.out.below HB1.out).more (Nat.le_of_lt HS1.out)) hln)
 go_wp2_with fail
 refine HF.out.mono ?_;rintro e w2 ⟨f,rfl,hfew,hb2⟩;have HX2:=lj (HX1.out.go hb2 HS1.out);have HB2:=lj (Below.trans HB1.out (hb2.mono (Nat.le_of_lt HS1.out)));have HT2:=lj (HT1.out.below hb2);have HS2:=lj (Nat.lt_of_lt_of_le HS1.out hb2.size);have HP2:=lj (And.intro (HP1.out.1.go hb2 HP1.out.2) (Nat.lt_of_lt_of_le HP1.out.2 hb2.size));clear hb2 HX1 HB1 HT1 HS1 HF HP1
 rcases f with _ | _
 ·go_wp2
  go_ret;exact ⟨rfl,by rw [HG.out]; exact HB2.out⟩
 have hfew:=hfew rfl;have hf1:=hfew.1;have HFW:=lj hfew.2;clear hfew;have z0:=HX2.out.cell 0 (.int .i64 cf.log) rfl;have z1:=HX2.out.cell 1 (.int .i64 cf.data) rfl;have z2:=HX2.out.cell 2 (.int .i64 cf.queue) rfl;have z3:=HX2.out.cell 3 (.int .i64 cf.input) rfl;have z4:=HX2.out.cell 4 (.int .i64 cf.strikes) rfl;have z5:=HX2.out.cell 5 (.int .i64 cf.lease) rfl;have z6:=HX2.out.cell 6 (.int .i64 cf.idle) rfl;have z7:=HX2.out.cell 7 (.int .i64 cf.width) rfl
 go_wp2_with fail
 refine (cright_any ((cf.log:Nat)) ((cf.data:Nat)) ((cf.queue:Nat)) ((cf.input:Nat)) ((cf.strikes:Nat)) ((cf.lease:Nat)) ((cf.idle:Nat)) ((cf.width:Nat)) w2).mono ?_;rintro e w3 ⟨rfl,hb3⟩;rw [hrt];have HX3:=lj (HX2.out.go hb3 HS2.out);have HB3:=lj (Below.trans HB2.out (hb3.mono (Nat.le_of_lt HS2.out)));have HT3:=lj (HT2.out.below hb3);have HS3:=lj (Nat.lt_of_lt_of_le HS2.out hb3.size);have HP3:=lj (And.intro (HP2.out.1.go hb3 HP2.out.2) (Nat.lt_of_lt_of_le HP2.out.2 hb3.size));clear hb3 HX2 HB2 HT2 HS2 z0 z1 z2 z3 z4 z5 z6 z7 HP2
 obtain ⟨i,hi⟩:∃ i,1+p=i:=⟨_,rfl⟩
 have hi1:1≤i:=by omega
 have hi2:i≤16:=by omega
 rw [hi] at hadd
 have HSe:=lj (show Calls Tryz.prog 10 #[.agg #[.int .i64 cf.log,.int .i64 cf.data,.int .i64 cf.queue,.int .i64 cf.input,.int .i64 cf.strikes,.int .i64 cf.lease,.int .i64 cf.idle,.int .i64 cf.width],.slice a1 len1 cap1,.int .i64 (i:Nat)] w3 (SentGives (fun _ _ _=>True) i w3) from
  sent_any HC.out.1 HC.out.2 (fun _ _ _=>True) i hi2 w3 HT3.out ((HE0.out.below HB3.out).more (Nat.le_of_lt HS3.out)) hf1 HFW.out trivial
   (fun _ _ _ _ _ _ _ _ _ _=>trivial)
   (fun _ _ _ _=>trivial))
 clear hi hp4 HE0 HT3 HFW;have z0:=HX3.out.cell 0 (.int .i64 cf.log) rfl;have z1:=HX3.out.cell 1 (.int .i64 cf.data) rfl;have z2:=HX3.out.cell 2 (.int .i64 cf.queue) rfl;have z3:=HX3.out.cell 3 (.int .i64 cf.input) rfl;have z4:=HX3.out.cell 4 (.int .i64 cf.strikes) rfl;have z5:=HX3.out.cell 5 (.int .i64 cf.lease) rfl;have z6:=HX3.out.cell 6 (.int .i64 cf.idle) rfl;have z7:=HX3.out.cell 7 (.int .i64 cf.width) rfl
 go_wp2_with fail
 refine HSe.out.mono ?_;rintro e w5 ⟨AA,GG,b,R,rc,ms,rr,rfl,hinv,hw0,hla,hlg,hms,hrow,h5,hb5⟩;have HX5:=lj (HX3.out.go hb5 HS3.out);have HB5:=lj (Below.trans HB3.out (hb5.mono (Nat.le_of_lt HS3.out)));have HS5:=lj (Nat.lt_of_lt_of_le HS3.out hb5.size);have HP5:=lj (And.intro (HP3.out.1.go hb5 HP3.out.2) (Nat.lt_of_lt_of_le HP3.out.2 hb5.size));clear hadd hpe;have HMi:=lj (msin_am hrow.msin hms.ok);have hml:(ms.map am).length=ms.length:=List.length_map ..;have HRow:=lj hrow;have hcap:=hrow.cap;have HMs:=lj hms;clear hinv hw0 hms hrow hb5 HX3 HB3 HS3 HSe z0 z1 z2 z3 z4 z5 z6 z7
 obtain ⟨ml,hm0⟩:∃ ml,ms.length=ml:=⟨_,rfl⟩
 rw [hm0];have HM0:=lj hm0
 have h5m:ml≤2000000:=by omega
 rw [hm0] at HRow hcap;clear hm0 hml h5
 obtain ⟨g5,hg5⟩:∃ g5,w5.heap.size=g5:=⟨_,rfl⟩
 have HG5:=lj hg5;rw [hg5] at HMi HS5 HP5;clear hg5
 obtain ⟨n,hn⟩:∃ n,min ml 60=n:=⟨_,rfl⟩
 have hn60:n≤60:=by omega
 have hnm:n≤ml:=by omega
 have hnr:n≤rc:=by omega
 have HMn:=lj (HMi.out.take n)
 have hLl:((ms.map Bk.am).take n).length=n:=by rw [List.length_take,List.length_map,HM0.out]; omega
 have HLl:=lj hLl
 have HIn:=lj (show ∀ m∈(ms.map Bk.am).take n,m.t.length≤4000 from fun m hm=>by
  obtain ⟨x,hx,rfl⟩:=List.mem_map.1 (List.mem_of_mem_take hm);have h1:=Ms.rt_n (HMs.out.ok x hx);have h2:=Ms.tx_le x.k
  show x.t.length≤4000
  omega)
 obtain ⟨L,hL⟩:∃ L,(ms.map Bk.am).take n=L:=⟨_,rfl⟩
 rw [hL] at HMn hLl HLl HIn;clear HMi hL hLl;have HCut:=lj (fun (x:Option Addr) (h:60<ml)=>(show n=60 by omega));have HEq:=lj (fun (h:¬ 60<ml)=>(show n=ml by omega));have HFree:=lj (fun (g off:Nat) (h:R=some ⟨g,off,none⟩)=>(h ▸ HRow.out:MsgRow w3.heap.size w5 (some ⟨g,off,none⟩) ml rc ms).free);clear HRow HMs hn
 have hmix:Tryz.prog.follows .mixedOrders=true:=by kernel_rfl
 go_upto_if 38 with fail
 go_cut [9] (fun s9 wx=>s9 = .slice R n rc∧wx=w5)
 case first =>
  by_cases h60:60<ml
  ·have hn6:=HCut.out none h60
   subst hn6
   have d60:decide ((ml:Int) > 60)=true:=by simp; omega
   have d60':decide ((60:Int)<(ml:Int))=true:=by simp; omega
   go_wp2
   go_meet
   exact ⟨rfl,rfl⟩
  ·have hn6:=HEq.out h60
   subst hn6
   have d60:decide ((n:Int) > 60)=false:=by simp; omega
   have d60':decide ((60:Int)<(n:Int))=false:=by simp; omega
   go_wp2
   go_meet
   exact ⟨rfl,rfl⟩
 case rest =>
  obtain ⟨rfl,rfl⟩:=hcut;clear HCut HEq hnm
  by_cases hn0:n=0
  ·subst hn0
   have hL0:L=[]:=List.eq_nil_of_length_eq_zero HLl.out;subst hL0
   obtain ⟨wf,hwf⟩:∃ wf,wc=wf:=⟨_,rfl⟩
   have HGf:=lj (show g5≤wf.heap.size from by rw [← hwf,HG5.out]; exact Nat.le_refl _);rw [hwf] at HX5 HB5 HMn;have HXf:=HX5;have HBf:=HB5;have HMf:=HMn;have HLf:=HLl;rw [hwf];clear hwf;have HE4:=lj (fun W (h:Below g5 wf W)=>(HXf.out.go h HS5.out).cell 4 (.int .i64 cf.strikes) rfl);have HgW:=lj (fun W (h:Below g5 wf W)=>Nat.le_trans HGf.out (show wf.heap.size≤W.heap.size from h.size))
   have HCa:Hid (∀ W,Below g5 wf W→Calls Tryz.prog 11 #[.slice R 0 rc,.string (str AA),.int .i64 cf.strikes] W (FGives AA (cf.strikes:Nat) ([]:List Au.M) W)):=lj (fun W h=>by
    have h2:=first_any ((HMf.out.below h).more (HgW.out W h)) rc (by have:=HLf.out; omega) AA (by omega) (cf.strikes:Nat);have e:(([]:List Au.M)).length=0:=HLf.out
    rwa [e] at h2)
   have HCb:Hid (∀ W,Below g5 wf W→Calls Tryz.prog 12 #[.slice R 0 rc,.string (str AA),.int .i64 cf.strikes] W (FGives AA (cf.strikes:Nat) ([]:List Au.M) W)):=lj (fun W h=>by
    have h2:=lfirst_any ((HMf.out.below h).more (HgW.out W h)) rc (by have:=HLf.out; omega) (by have:=HLf.out; omega) AA (by omega) (cf.strikes:Nat);have e:(([]:List Au.M)).length=0:=HLf.out
    rwa [e] at h2)
   go_upto_region 19 with fail
   refine wp_region_held (S:=fun W=>Below g5 wf W) hmix ?_
   change wpAnyH _ _ _ _ _ _ _ _ (World.drew _)
   have hS0:Below g5 wf wf.drew:=(Below.refl _ _).drew;refine wpAnyH_take (i:=0) (v:=.slice R 0 rc) rfl (by kernel_rfl) (by kernel_rfl) (by kernel_rfl) (fun _ _ _ h=>h) (.inl ⟨by kernel_rfl,fun W hW=>?_⟩) hS0 ?_
   ·go_simp
   refine wpAnyH_take (i:=1) (v:=.string (str AA)) rfl (by kernel_rfl) (by kernel_rfl) (by kernel_rfl) (fun _ _ _ h=>h) (.inl ⟨by kernel_rfl,fun W hW=>?_⟩) hS0 ?_
   ·go_simp
   refine wpAnyH_take (i:=2) (v:=.pointer (some ⟨gm,4,none⟩)) rfl (by kernel_rfl) (by kernel_rfl) (by kernel_rfl) (fun _ _ _ h=>h) (.inl ⟨by kernel_rfl,fun W hW=>?_⟩) hS0 ?_
   ·go_simp
   refine wpAnyH_take (i:=3) (v:=.int .i64 cf.strikes) rfl (by kernel_rfl) (by kernel_rfl) (by kernel_rfl) (fun _ _ _ h=>h) (.inl ⟨by kernel_rfl,fun W hW=>?_⟩) hS0 ?_
   ·have e4:=HE4.out W hW; go_simp
   refine wpAnyH_take (i:=5) (v:=.slice R 0 rc) rfl (by kernel_rfl) (by kernel_rfl) (by kernel_rfl) (fun _ _ _ h=>h) (.inl ⟨by kernel_rfl,fun W hW=>?_⟩) hS0 ?_
   ·go_simp
   refine wpAnyH_take (i:=6) (v:=.string (str AA)) rfl (by kernel_rfl) (by kernel_rfl) (by kernel_rfl) (fun _ _ _ h=>h) (.inl ⟨by kernel_rfl,fun W hW=>?_⟩) hS0 ?_
   ·go_simp
   refine wpAnyH_take (i:=7) (v:=.pointer (some ⟨gm,4,none⟩)) rfl (by kernel_rfl) (by kernel_rfl) (by kernel_rfl) (fun _ _ _ h=>h) (.inl ⟨by kernel_rfl,fun W hW=>?_⟩) hS0 ?_
   ·go_simp
   refine wpAnyH_take (i:=8) (v:=.int .i64 cf.strikes) rfl (by kernel_rfl) (by kernel_rfl) (by kernel_rfl) (fun _ _ _ h=>h) (.inl ⟨by kernel_rfl,fun W hW=>?_⟩) hS0 ?_
   ·have e4:=HE4.out W hW; go_simp
   refine wpAnyH_all (rs:=[4]) (by kernel_rfl) (by simp) ?_;intro z hz;rw [List.mem_singleton.1 hz];clear hz;unfold wpOp
   go_simp
   refine .inl ?_;refine (HCa.out wf.drew hS0).mono ?_;rintro e wd ⟨r,rfl,hfi,hbd⟩;have hS1:Below g5 wf wd:=hS0.trans (hbd.mono HGf.out);refine ⟨hS1,?_⟩;refine wpAnyH_all (rs:=[9]) (by kernel_rfl) (by simp) ?_;intro z hz;rw [List.mem_singleton.1 hz];clear hz;unfold wpOp
   go_simp
   refine .inl ?_;refine (HCb.out wd hS1).mono ?_;rintro e we ⟨r2,rfl,hfi2,hbe⟩;obtain rfl:=Au.isFirst_one hfi hfi2;have hS2:Below g5 wf we:=hS1.trans (hbe.mono (HgW.out wd hS1));refine ⟨hS2,?_⟩;clear hfi hfi2;have HB8:=lj (HBf.out.trans (hS2.mono (Nat.le_of_lt HS5.out)));refine wpAnyH_take (i:=10) (v:=.bool true) rfl (by kernel_rfl) (by kernel_rfl) (by kernel_rfl) (fun _ _ _ h=>h) (.inl ⟨by kernel_rfl,fun W hW=>?_⟩) hS2 ?_
   ·go_simp
   refine wpAnyH_all (rs:=[11]) (by kernel_rfl) (by simp) ?_;intro z hz;rw [List.mem_singleton.1 hz];clear hz;unfold wpOp
   go_simp
   refine .inl ?_;refine wpAnyH_done (by kernel_rfl) ?_ _
   go_simp
   go_wp2;go_ret;exact ⟨rfl,by rw [HG.out]; exact HB8.out⟩
  have hn1:1≤n:=by omega
  obtain ⟨g,off,rfl,hgl,hc⟩:=HMn.out.outer (by rw [HLl.out]; omega);obtain ⟨rfl,hg3,hfr⟩:=HFree.out g off rfl
  have d0:decide ((n:Int) > 0)=true:=by simp; omega
  have d0':decide ((0:Int)<(n:Int))=true:=by simp; omega
  have hu:IntKind.u64.wrap ((n:Nat):Int)=(n:Nat):=by rw [IntKind.wrap_u64]; omega
  have hz:(((n:Nat):Int) == 0)=false:=by simp; omega
  obtain ⟨idx,hidx,hie⟩:=rest_big sa3 ((n:Nat):Int) (by omega) (by omega)
  have hix:idx<n:=by omega
  have hdi:decide ((idx:Int)<(n:Int))=true:=by simp; omega
  obtain ⟨q,hq3,hq⟩:=bits_any sb3 3 (by omega);replace hq:bits .and .i64 sb3 3=(q:Int):=hq;obtain ⟨r7,hr7,hr⟩:=bits_any sc3 7 (by omega);replace hr:bits .and .i64 sc3 7=(r7:Int):=hr
  obtain ⟨m,hm⟩:∃ m,L[idx]?=some m:=⟨_,List.getElem?_eq_getElem (by rw [HLl.out]; exact hix)⟩
  obtain ⟨c0,c1,c2,c3⟩:=hc idx m hm;rw [Nat.zero_add] at c0 c1 c2 c3;have hmt:=HIn.out m (List.mem_of_getElem? hm);have s0:=HP5.out.1.cell 0 (.int .i64 sa3) rfl;have s1:=HP5.out.1.cell 1 (.int .i64 sb3) rfl;have s2:=HP5.out.1.cell 2 (.int .i64 sc3) rfl;have HM1:=lj hm;have HFr:=lj hfr;have hgm:gm+1<g:=Nat.lt_of_lt_of_le HP3.out.2 hg3;clear hc hm hfr hidx
  rcases (by omega:q=0∨q=1∨q=2∨q=3) with rfl | rfl | rfl | rfl
  ·have hq0:bits .and .i64 sb3 3=0:=hq
   clear hq hq3;have f1:=HFr.out (idx * 4+1)
   skip
   have hset:MsIn (wc.setCell ⟨g,idx * 4+1,none⟩ (.int .i64 (wrap64 (m.a+((r7:Int) - 3))))) g5 (some ⟨g,0,none⟩) (L.set idx { m with a:=wrap64 (m.a+((r7:Int) - 3)) }):=by
    have h:=msin_set HMn.out HM1.out (m':={ m with a:=wrap64 (m.a+((r7:Int) - 3)) }) (j:=1) (by omega) (v:=(.int .i64 (wrap64 (m.a+((r7:Int) - 3))))) rfl (fun i hi hne=>by
     rcases (by omega:i=0∨i=1∨i=2∨i=3) with rfl | rfl | rfl | rfl <;> first | rfl | exact absurd rfl hne) (by show m.t.length≤maxLen; unfold maxLen; omega)
    rw [Nat.zero_add] at h;exact h
   have HMf:=lj hset;have HXf:=lj (HX5.out.other (p:=⟨g,idx * 4+1,none⟩) (by show ¬ g=gm; omega) (.int .i64 (wrap64 (m.a+((r7:Int) - 3)))));have HBf:=lj (HB5.out.trans ((((Only.refl (fun b=>b=g) wc).setCell (p:=⟨g,idx * 4+1,none⟩) rfl (.int .i64 (wrap64 (m.a+((r7:Int) - 3)))))).below (B:=gm) (by rw [HG5.out]; exact Nat.le_of_lt HS5.out) (fun k hk e=>by omega)));have HGf:=lj (show g5≤(wc.setCell ⟨g,idx * 4+1,none⟩ (.int .i64 (wrap64 (m.a+((r7:Int) - 3))))).heap.size from by simp [HG5.out]);have HLf:Hid ((L.set idx { m with a:=wrap64 (m.a+((r7:Int) - 3)) }).length=n):=lj (by rw [List.length_set]; exact HLl.out);have hix:=hix;clear hset
   go_upto_region 19 with fail
   generalize wc.setCell ⟨g,idx * 4+1,none⟩ (.int .i64 (wrap64 (m.a+((r7:Int) - 3))))=wf at *
   obtain ⟨L2,hL2⟩:∃ L2,L.set idx { m with a:=wrap64 (m.a+((r7:Int) - 3)) }=L2:=⟨_,rfl⟩
   rw [hL2] at HMf HLf;clear hL2 hq0 f1 hie hr hu hz hdi d0 d0' c0 c1 c2 c3 s0 s1 s2 HX5 HB5 HMn;have HE4:=lj (fun W (h:Below g5 wf W)=>(HXf.out.go h HS5.out).cell 4 (.int .i64 cf.strikes) rfl);have HgW:=lj (fun W (h:Below g5 wf W)=>Nat.le_trans HGf.out (show wf.heap.size≤W.heap.size from h.size))
   have HCa:Hid (∀ W,Below g5 wf W→Calls Tryz.prog 11 #[.slice (some ⟨g,0,none⟩) n rc,.string (str AA),.int .i64 cf.strikes] W (FGives AA (cf.strikes:Nat) L2 W)):=lj (fun W h=>by
    have h2:=first_any ((HMf.out.below h).more (HgW.out W h)) rc (by have:=HLf.out; omega) AA (by omega) (cf.strikes:Nat);have e:(L2).length=n:=HLf.out
    rwa [e] at h2)
   have HCb:Hid (∀ W,Below g5 wf W→Calls Tryz.prog 12 #[.slice (some ⟨g,0,none⟩) n rc,.string (str AA),.int .i64 cf.strikes] W (FGives AA (cf.strikes:Nat) L2 W)):=lj (fun W h=>by
    have h2:=lfirst_any ((HMf.out.below h).more (HgW.out W h)) rc (by have:=HLf.out; omega) (by have:=HLf.out; omega) AA (by omega) (cf.strikes:Nat);have e:(L2).length=n:=HLf.out
    rwa [e] at h2)
   refine wp_region_held (S:=fun W=>Below g5 wf W) hmix ?_
   change wpAnyH _ _ _ _ _ _ _ _ (World.drew _)
   have hS0:Below g5 wf wf.drew:=(Below.refl _ _).drew;refine wpAnyH_take (i:=0) (v:=.slice (some ⟨g,0,none⟩) n rc) rfl (by kernel_rfl) (by kernel_rfl) (by kernel_rfl) (fun _ _ _ h=>h) (.inl ⟨by kernel_rfl,fun W hW=>?_⟩) hS0 ?_
   ·go_simp
   refine wpAnyH_take (i:=1) (v:=.string (str AA)) rfl (by kernel_rfl) (by kernel_rfl) (by kernel_rfl) (fun _ _ _ h=>h) (.inl ⟨by kernel_rfl,fun W hW=>?_⟩) hS0 ?_
   ·go_simp
   refine wpAnyH_take (i:=2) (v:=.pointer (some ⟨gm,4,none⟩)) rfl (by kernel_rfl) (by kernel_rfl) (by kernel_rfl) (fun _ _ _ h=>h) (.inl ⟨by kernel_rfl,fun W hW=>?_⟩) hS0 ?_
   ·go_simp
   refine wpAnyH_take (i:=3) (v:=.int .i64 cf.strikes) rfl (by kernel_rfl) (by kernel_rfl) (by kernel_rfl) (fun _ _ _ h=>h) (.inl ⟨by kernel_rfl,fun W hW=>?_⟩) hS0 ?_
   ·have e4:=HE4.out W hW; go_simp
   refine wpAnyH_take (i:=5) (v:=.slice (some ⟨g,0,none⟩) n rc) rfl (by kernel_rfl) (by kernel_rfl) (by kernel_rfl) (fun _ _ _ h=>h) (.inl ⟨by kernel_rfl,fun W hW=>?_⟩) hS0 ?_
   ·go_simp
   refine wpAnyH_take (i:=6) (v:=.string (str AA)) rfl (by kernel_rfl) (by kernel_rfl) (by kernel_rfl) (fun _ _ _ h=>h) (.inl ⟨by kernel_rfl,fun W hW=>?_⟩) hS0 ?_
   ·go_simp
   refine wpAnyH_take (i:=7) (v:=.pointer (some ⟨gm,4,none⟩)) rfl (by kernel_rfl) (by kernel_rfl) (by kernel_rfl) (fun _ _ _ h=>h) (.inl ⟨by kernel_rfl,fun W hW=>?_⟩) hS0 ?_
   ·go_simp
   refine wpAnyH_take (i:=8) (v:=.int .i64 cf.strikes) rfl (by kernel_rfl) (by kernel_rfl) (by kernel_rfl) (fun _ _ _ h=>h) (.inl ⟨by kernel_rfl,fun W hW=>?_⟩) hS0 ?_
   ·have e4:=HE4.out W hW; go_simp
   refine wpAnyH_all (rs:=[4]) (by kernel_rfl) (by simp) ?_;intro z hz;rw [List.mem_singleton.1 hz];clear hz;unfold wpOp
   go_simp
   refine .inl ?_;refine (HCa.out wf.drew hS0).mono ?_;rintro e wd ⟨r,rfl,hfi,hbd⟩;have hS1:Below g5 wf wd:=hS0.trans (hbd.mono HGf.out);refine ⟨hS1,?_⟩;refine wpAnyH_all (rs:=[9]) (by kernel_rfl) (by simp) ?_;intro z hz;rw [List.mem_singleton.1 hz];clear hz;unfold wpOp
   go_simp
   refine .inl ?_;refine (HCb.out wd hS1).mono ?_;rintro e we ⟨r2,rfl,hfi2,hbe⟩;obtain rfl:=Au.isFirst_one hfi hfi2;have hS2:Below g5 wf we:=hS1.trans (hbe.mono (HgW.out wd hS1));refine ⟨hS2,?_⟩;clear hfi hfi2;have HB8:=lj (HBf.out.trans (hS2.mono (Nat.le_of_lt HS5.out)));refine wpAnyH_take (i:=10) (v:=.bool true) rfl (by kernel_rfl) (by kernel_rfl) (by kernel_rfl) (fun _ _ _ h=>h) (.inl ⟨by kernel_rfl,fun W hW=>?_⟩) hS2 ?_
   ·go_simp
   refine wpAnyH_all (rs:=[11]) (by kernel_rfl) (by simp) ?_;intro z hz;rw [List.mem_singleton.1 hz];clear hz;unfold wpOp
   go_simp
   refine .inl ?_;refine wpAnyH_done (by kernel_rfl) ?_ _
   go_simp
   go_wp2;go_ret;exact ⟨rfl,by rw [HG.out]; exact HB8.out⟩
  ·have hq0:bits .and .i64 sb3 3=1:=hq
   clear hq hq3;have f2:=HFr.out (idx * 4+2)
   skip
   have hset:MsIn (wc.setCell ⟨g,idx * 4+2,none⟩ (.int .i64 (wrap64 (m.b+((r7:Int) - 3))))) g5 (some ⟨g,0,none⟩) (L.set idx { m with b:=wrap64 (m.b+((r7:Int) - 3)) }):=by
    have h:=msin_set HMn.out HM1.out (m':={ m with b:=wrap64 (m.b+((r7:Int) - 3)) }) (j:=2) (by omega) (v:=(.int .i64 (wrap64 (m.b+((r7:Int) - 3))))) rfl (fun i hi hne=>by
     rcases (by omega:i=0∨i=1∨i=2∨i=3) with rfl | rfl | rfl | rfl <;> first | rfl | exact absurd rfl hne) (by show m.t.length≤maxLen; unfold maxLen; omega)
    rw [Nat.zero_add] at h;exact h
   have HMf:=lj hset;have HXf:=lj (HX5.out.other (p:=⟨g,idx * 4+2,none⟩) (by show ¬ g=gm; omega) (.int .i64 (wrap64 (m.b+((r7:Int) - 3)))));have HBf:=lj (HB5.out.trans ((((Only.refl (fun b=>b=g) wc).setCell (p:=⟨g,idx * 4+2,none⟩) rfl (.int .i64 (wrap64 (m.b+((r7:Int) - 3)))))).below (B:=gm) (by rw [HG5.out]; exact Nat.le_of_lt HS5.out) (fun k hk e=>by omega)));have HGf:=lj (show g5≤(wc.setCell ⟨g,idx * 4+2,none⟩ (.int .i64 (wrap64 (m.b+((r7:Int) - 3))))).heap.size from by simp [HG5.out]);have HLf:Hid ((L.set idx { m with b:=wrap64 (m.b+((r7:Int) - 3)) }).length=n):=lj (by rw [List.length_set]; exact HLl.out);have hix:=hix;clear hset
   go_upto_region 19 with fail
   generalize wc.setCell ⟨g,idx * 4+2,none⟩ (.int .i64 (wrap64 (m.b+((r7:Int) - 3))))=wf at *
   obtain ⟨L2,hL2⟩:∃ L2,L.set idx { m with b:=wrap64 (m.b+((r7:Int) - 3)) }=L2:=⟨_,rfl⟩
   rw [hL2] at HMf HLf;clear hL2 hq0 f2 hie hr hu hz hdi d0 d0' c0 c1 c2 c3 s0 s1 s2 HX5 HB5 HMn;have HE4:=lj (fun W (h:Below g5 wf W)=>(HXf.out.go h HS5.out).cell 4 (.int .i64 cf.strikes) rfl);have HgW:=lj (fun W (h:Below g5 wf W)=>Nat.le_trans HGf.out (show wf.heap.size≤W.heap.size from h.size))
   have HCa:Hid (∀ W,Below g5 wf W→Calls Tryz.prog 11 #[.slice (some ⟨g,0,none⟩) n rc,.string (str AA),.int .i64 cf.strikes] W (FGives AA (cf.strikes:Nat) L2 W)):=lj (fun W h=>by
    have h2:=first_any ((HMf.out.below h).more (HgW.out W h)) rc (by have:=HLf.out; omega) AA (by omega) (cf.strikes:Nat);have e:(L2).length=n:=HLf.out
    rwa [e] at h2)
   have HCb:Hid (∀ W,Below g5 wf W→Calls Tryz.prog 12 #[.slice (some ⟨g,0,none⟩) n rc,.string (str AA),.int .i64 cf.strikes] W (FGives AA (cf.strikes:Nat) L2 W)):=lj (fun W h=>by
    have h2:=lfirst_any ((HMf.out.below h).more (HgW.out W h)) rc (by have:=HLf.out; omega) (by have:=HLf.out; omega) AA (by omega) (cf.strikes:Nat);have e:(L2).length=n:=HLf.out
    rwa [e] at h2)
   refine wp_region_held (S:=fun W=>Below g5 wf W) hmix ?_
   change wpAnyH _ _ _ _ _ _ _ _ (World.drew _)
   have hS0:Below g5 wf wf.drew:=(Below.refl _ _).drew;refine wpAnyH_take (i:=0) (v:=.slice (some ⟨g,0,none⟩) n rc) rfl (by kernel_rfl) (by kernel_rfl) (by kernel_rfl) (fun _ _ _ h=>h) (.inl ⟨by kernel_rfl,fun W hW=>?_⟩) hS0 ?_
   ·go_simp
   refine wpAnyH_take (i:=1) (v:=.string (str AA)) rfl (by kernel_rfl) (by kernel_rfl) (by kernel_rfl) (fun _ _ _ h=>h) (.inl ⟨by kernel_rfl,fun W hW=>?_⟩) hS0 ?_
   ·go_simp
   refine wpAnyH_take (i:=2) (v:=.pointer (some ⟨gm,4,none⟩)) rfl (by kernel_rfl) (by kernel_rfl) (by kernel_rfl) (fun _ _ _ h=>h) (.inl ⟨by kernel_rfl,fun W hW=>?_⟩) hS0 ?_
   ·go_simp
   refine wpAnyH_take (i:=3) (v:=.int .i64 cf.strikes) rfl (by kernel_rfl) (by kernel_rfl) (by kernel_rfl) (fun _ _ _ h=>h) (.inl ⟨by kernel_rfl,fun W hW=>?_⟩) hS0 ?_
   ·have e4:=HE4.out W hW; go_simp
   refine wpAnyH_take (i:=5) (v:=.slice (some ⟨g,0,none⟩) n rc) rfl (by kernel_rfl) (by kernel_rfl) (by kernel_rfl) (fun _ _ _ h=>h) (.inl ⟨by kernel_rfl,fun W hW=>?_⟩) hS0 ?_
   ·go_simp
   refine wpAnyH_take (i:=6) (v:=.string (str AA)) rfl (by kernel_rfl) (by kernel_rfl) (by kernel_rfl) (fun _ _ _ h=>h) (.inl ⟨by kernel_rfl,fun W hW=>?_⟩) hS0 ?_
   ·go_simp
   refine wpAnyH_take (i:=7) (v:=.pointer (some ⟨gm,4,none⟩)) rfl (by kernel_rfl) (by kernel_rfl) (by kernel_rfl) (fun _ _ _ h=>h) (.inl ⟨by kernel_rfl,fun W hW=>?_⟩) hS0 ?_
   ·go_simp
   refine wpAnyH_take (i:=8) (v:=.int .i64 cf.strikes) rfl (by kernel_rfl) (by kernel_rfl) (by kernel_rfl) (fun _ _ _ h=>h) (.inl ⟨by kernel_rfl,fun W hW=>?_⟩) hS0 ?_
   ·have e4:=HE4.out W hW; go_simp
   refine wpAnyH_all (rs:=[4]) (by kernel_rfl) (by simp) ?_;intro z hz;rw [List.mem_singleton.1 hz];clear hz;unfold wpOp
   go_simp
   refine .inl ?_;refine (HCa.out wf.drew hS0).mono ?_;rintro e wd ⟨r,rfl,hfi,hbd⟩;have hS1:Below g5 wf wd:=hS0.trans (hbd.mono HGf.out);refine ⟨hS1,?_⟩;refine wpAnyH_all (rs:=[9]) (by kernel_rfl) (by simp) ?_;intro z hz;rw [List.mem_singleton.1 hz];clear hz;unfold wpOp
   go_simp
   refine .inl ?_;refine (HCb.out wd hS1).mono ?_;rintro e we ⟨r2,rfl,hfi2,hbe⟩;obtain rfl:=Au.isFirst_one hfi hfi2;have hS2:Below g5 wf we:=hS1.trans (hbe.mono (HgW.out wd hS1));refine ⟨hS2,?_⟩;clear hfi hfi2;have HB8:=lj (HBf.out.trans (hS2.mono (Nat.le_of_lt HS5.out)));refine wpAnyH_take (i:=10) (v:=.bool true) rfl (by kernel_rfl) (by kernel_rfl) (by kernel_rfl) (fun _ _ _ h=>h) (.inl ⟨by kernel_rfl,fun W hW=>?_⟩) hS2 ?_
   ·go_simp
   refine wpAnyH_all (rs:=[11]) (by kernel_rfl) (by simp) ?_;intro z hz;rw [List.mem_singleton.1 hz];clear hz;unfold wpOp
   go_simp
   refine .inl ?_;refine wpAnyH_done (by kernel_rfl) ?_ _
   go_simp
   go_wp2;go_ret;exact ⟨rfl,by rw [HG.out]; exact HB8.out⟩
  ·have hq0:bits .and .i64 sb3 3=2:=hq
   clear hq hq3;have f0:=HFr.out (idx * 4)
   skip
   have hset:MsIn (wc.setCell ⟨g,idx * 4,none⟩ (.int .i64 (bits .and .i64 sc3 15))) g5 (some ⟨g,0,none⟩) (L.set idx { m with k:=bits .and .i64 sc3 15 }):=by
    have h:=msin_set HMn.out HM1.out (m':={ m with k:=bits .and .i64 sc3 15 }) (j:=0) (by omega) (v:=(.int .i64 (bits .and .i64 sc3 15))) rfl (fun i hi hne=>by
     rcases (by omega:i=0∨i=1∨i=2∨i=3) with rfl | rfl | rfl | rfl <;> first | rfl | exact absurd rfl hne) (by show m.t.length≤maxLen; unfold maxLen; omega)
    rw [Nat.zero_add] at h;exact h
   have HMf:=lj hset;have HXf:=lj (HX5.out.other (p:=⟨g,idx * 4,none⟩) (by show ¬ g=gm; omega) (.int .i64 (bits .and .i64 sc3 15)));have HBf:=lj (HB5.out.trans ((((Only.refl (fun b=>b=g) wc).setCell (p:=⟨g,idx * 4,none⟩) rfl (.int .i64 (bits .and .i64 sc3 15)))).below (B:=gm) (by rw [HG5.out]; exact Nat.le_of_lt HS5.out) (fun k hk e=>by omega)));have HGf:=lj (show g5≤(wc.setCell ⟨g,idx * 4,none⟩ (.int .i64 (bits .and .i64 sc3 15))).heap.size from by simp [HG5.out]);have HLf:Hid ((L.set idx { m with k:=bits .and .i64 sc3 15 }).length=n):=lj (by rw [List.length_set]; exact HLl.out);have hix:=hix;clear hset
   go_upto_region 19 with fail
   generalize wc.setCell ⟨g,idx * 4,none⟩ (.int .i64 (bits .and .i64 sc3 15))=wf at *
   obtain ⟨L2,hL2⟩:∃ L2,L.set idx { m with k:=bits .and .i64 sc3 15 }=L2:=⟨_,rfl⟩
   rw [hL2] at HMf HLf;clear hL2 hq0 f0 hie hr hu hz hdi d0 d0' c0 c1 c2 c3 s0 s1 s2 HX5 HB5 HMn;have HE4:=lj (fun W (h:Below g5 wf W)=>(HXf.out.go h HS5.out).cell 4 (.int .i64 cf.strikes) rfl);have HgW:=lj (fun W (h:Below g5 wf W)=>Nat.le_trans HGf.out (show wf.heap.size≤W.heap.size from h.size))
   have HCa:Hid (∀ W,Below g5 wf W→Calls Tryz.prog 11 #[.slice (some ⟨g,0,none⟩) n rc,.string (str AA),.int .i64 cf.strikes] W (FGives AA (cf.strikes:Nat) L2 W)):=lj (fun W h=>by
    have h2:=first_any ((HMf.out.below h).more (HgW.out W h)) rc (by have:=HLf.out; omega) AA (by omega) (cf.strikes:Nat);have e:(L2).length=n:=HLf.out
    rwa [e] at h2)
   have HCb:Hid (∀ W,Below g5 wf W→Calls Tryz.prog 12 #[.slice (some ⟨g,0,none⟩) n rc,.string (str AA),.int .i64 cf.strikes] W (FGives AA (cf.strikes:Nat) L2 W)):=lj (fun W h=>by
    have h2:=lfirst_any ((HMf.out.below h).more (HgW.out W h)) rc (by have:=HLf.out; omega) (by have:=HLf.out; omega) AA (by omega) (cf.strikes:Nat);have e:(L2).length=n:=HLf.out
    rwa [e] at h2)
   refine wp_region_held (S:=fun W=>Below g5 wf W) hmix ?_
   change wpAnyH _ _ _ _ _ _ _ _ (World.drew _)
   have hS0:Below g5 wf wf.drew:=(Below.refl _ _).drew;refine wpAnyH_take (i:=0) (v:=.slice (some ⟨g,0,none⟩) n rc) rfl (by kernel_rfl) (by kernel_rfl) (by kernel_rfl) (fun _ _ _ h=>h) (.inl ⟨by kernel_rfl,fun W hW=>?_⟩) hS0 ?_
   ·go_simp
   refine wpAnyH_take (i:=1) (v:=.string (str AA)) rfl (by kernel_rfl) (by kernel_rfl) (by kernel_rfl) (fun _ _ _ h=>h) (.inl ⟨by kernel_rfl,fun W hW=>?_⟩) hS0 ?_
   ·go_simp
   refine wpAnyH_take (i:=2) (v:=.pointer (some ⟨gm,4,none⟩)) rfl (by kernel_rfl) (by kernel_rfl) (by kernel_rfl) (fun _ _ _ h=>h) (.inl ⟨by kernel_rfl,fun W hW=>?_⟩) hS0 ?_
   ·go_simp
   refine wpAnyH_take (i:=3) (v:=.int .i64 cf.strikes) rfl (by kernel_rfl) (by kernel_rfl) (by kernel_rfl) (fun _ _ _ h=>h) (.inl ⟨by kernel_rfl,fun W hW=>?_⟩) hS0 ?_
   ·have e4:=HE4.out W hW; go_simp
   refine wpAnyH_take (i:=5) (v:=.slice (some ⟨g,0,none⟩) n rc) rfl (by kernel_rfl) (by kernel_rfl) (by kernel_rfl) (fun _ _ _ h=>h) (.inl ⟨by kernel_rfl,fun W hW=>?_⟩) hS0 ?_
   ·go_simp
   refine wpAnyH_take (i:=6) (v:=.string (str AA)) rfl (by kernel_rfl) (by kernel_rfl) (by kernel_rfl) (fun _ _ _ h=>h) (.inl ⟨by kernel_rfl,fun W hW=>?_⟩) hS0 ?_
   ·go_simp
   refine wpAnyH_take (i:=7) (v:=.pointer (some ⟨gm,4,none⟩)) rfl (by kernel_rfl) (by kernel_rfl) (by kernel_rfl) (fun _ _ _ h=>h) (.inl ⟨by kernel_rfl,fun W hW=>?_⟩) hS0 ?_
   ·go_simp
   refine wpAnyH_take (i:=8) (v:=.int .i64 cf.strikes) rfl (by kernel_rfl) (by kernel_rfl) (by kernel_rfl) (fun _ _ _ h=>h) (.inl ⟨by kernel_rfl,fun W hW=>?_⟩) hS0 ?_
   ·have e4:=HE4.out W hW; go_simp
   refine wpAnyH_all (rs:=[4]) (by kernel_rfl) (by simp) ?_;intro z hz;rw [List.mem_singleton.1 hz];clear hz;unfold wpOp
   go_simp
   refine .inl ?_;refine (HCa.out wf.drew hS0).mono ?_;rintro e wd ⟨r,rfl,hfi,hbd⟩;have hS1:Below g5 wf wd:=hS0.trans (hbd.mono HGf.out);refine ⟨hS1,?_⟩;refine wpAnyH_all (rs:=[9]) (by kernel_rfl) (by simp) ?_;intro z hz;rw [List.mem_singleton.1 hz];clear hz;unfold wpOp
   go_simp
   refine .inl ?_;refine (HCb.out wd hS1).mono ?_;rintro e we ⟨r2,rfl,hfi2,hbe⟩;obtain rfl:=Au.isFirst_one hfi hfi2;have hS2:Below g5 wf we:=hS1.trans (hbe.mono (HgW.out wd hS1));refine ⟨hS2,?_⟩;clear hfi hfi2;have HB8:=lj (HBf.out.trans (hS2.mono (Nat.le_of_lt HS5.out)));refine wpAnyH_take (i:=10) (v:=.bool true) rfl (by kernel_rfl) (by kernel_rfl) (by kernel_rfl) (fun _ _ _ h=>h) (.inl ⟨by kernel_rfl,fun W hW=>?_⟩) hS2 ?_
   ·go_simp
   refine wpAnyH_all (rs:=[11]) (by kernel_rfl) (by simp) ?_;intro z hz;rw [List.mem_singleton.1 hz];clear hz;unfold wpOp
   go_simp
   refine .inl ?_;refine wpAnyH_done (by kernel_rfl) ?_ _
   go_simp
   go_wp2;go_ret;exact ⟨rfl,by rw [HG.out]; exact HB8.out⟩
  ·have hq0:bits .and .i64 sb3 3=3:=hq
   clear hq hq3;have f3:=HFr.out (idx * 4+3);have hsz:=str_size m.t
   have hroom:¬ 9223372036854775807<(str m.t).size+(⟨#[120]⟩:ByteArray).size:=by rw [hsz]; show ¬ _<m.t.length+1; omega
   have hset:MsIn (wc.setCell ⟨g,idx * 4+3,none⟩ (.string (str m.t ++ ⟨#[120]⟩))) g5 (some ⟨g,0,none⟩) (L.set idx { m with t:=m.t ++ [120#8] }):=by
    have h:=msin_set HMn.out HM1.out (m':={ m with t:=m.t ++ [120#8] }) (j:=3) (by omega) (v:=(.string (str m.t ++ ⟨#[120]⟩))) (by show Value.string (str (m.t ++ [120#8]))=_; rw [str_app]; rfl) (fun i hi hne=>by
     rcases (by omega:i=0∨i=1∨i=2∨i=3) with rfl | rfl | rfl | rfl <;> first | rfl | exact absurd rfl hne) (by show (m.t ++ [120#8]).length≤maxLen; rw [List.length_append]; unfold maxLen; simp only [List.length_cons,List.length_nil]; omega)
    rw [Nat.zero_add] at h;exact h
   have HMf:=lj hset;have HXf:=lj (HX5.out.other (p:=⟨g,idx * 4+3,none⟩) (by show ¬ g=gm; omega) (.string (str m.t ++ ⟨#[120]⟩)));have HBf:=lj (HB5.out.trans ((((Only.refl (fun b=>b=g) wc).setCell (p:=⟨g,idx * 4+3,none⟩) rfl (.string (str m.t ++ ⟨#[120]⟩)))).below (B:=gm) (by rw [HG5.out]; exact Nat.le_of_lt HS5.out) (fun k hk e=>by omega)));have HGf:=lj (show g5≤(wc.setCell ⟨g,idx * 4+3,none⟩ (.string (str m.t ++ ⟨#[120]⟩))).heap.size from by simp [HG5.out]);have HLf:Hid ((L.set idx { m with t:=m.t ++ [120#8] }).length=n):=lj (by rw [List.length_set]; exact HLl.out);have hix:=hix;clear hset
   go_upto_region 19 with fail
   generalize wc.setCell ⟨g,idx * 4+3,none⟩ (.string (str m.t ++ ⟨#[120]⟩))=wf at *
   obtain ⟨L2,hL2⟩:∃ L2,L.set idx { m with t:=m.t ++ [120#8] }=L2:=⟨_,rfl⟩
   rw [hL2] at HMf HLf;clear hL2 hq0 f3 hie hr hu hz hdi d0 d0' c0 c1 c2 c3 s0 s1 s2 HX5 HB5 HMn hsz hroom;have HE4:=lj (fun W (h:Below g5 wf W)=>(HXf.out.go h HS5.out).cell 4 (.int .i64 cf.strikes) rfl);have HgW:=lj (fun W (h:Below g5 wf W)=>Nat.le_trans HGf.out (show wf.heap.size≤W.heap.size from h.size))
   have HCa:Hid (∀ W,Below g5 wf W→Calls Tryz.prog 11 #[.slice (some ⟨g,0,none⟩) n rc,.string (str AA),.int .i64 cf.strikes] W (FGives AA (cf.strikes:Nat) L2 W)):=lj (fun W h=>by
    have h2:=first_any ((HMf.out.below h).more (HgW.out W h)) rc (by have:=HLf.out; omega) AA (by omega) (cf.strikes:Nat);have e:(L2).length=n:=HLf.out
    rwa [e] at h2)
   have HCb:Hid (∀ W,Below g5 wf W→Calls Tryz.prog 12 #[.slice (some ⟨g,0,none⟩) n rc,.string (str AA),.int .i64 cf.strikes] W (FGives AA (cf.strikes:Nat) L2 W)):=lj (fun W h=>by
    have h2:=lfirst_any ((HMf.out.below h).more (HgW.out W h)) rc (by have:=HLf.out; omega) (by have:=HLf.out; omega) AA (by omega) (cf.strikes:Nat);have e:(L2).length=n:=HLf.out
    rwa [e] at h2)
   refine wp_region_held (S:=fun W=>Below g5 wf W) hmix ?_
   change wpAnyH _ _ _ _ _ _ _ _ (World.drew _)
   have hS0:Below g5 wf wf.drew:=(Below.refl _ _).drew;refine wpAnyH_take (i:=0) (v:=.slice (some ⟨g,0,none⟩) n rc) rfl (by kernel_rfl) (by kernel_rfl) (by kernel_rfl) (fun _ _ _ h=>h) (.inl ⟨by kernel_rfl,fun W hW=>?_⟩) hS0 ?_
   ·go_simp
   refine wpAnyH_take (i:=1) (v:=.string (str AA)) rfl (by kernel_rfl) (by kernel_rfl) (by kernel_rfl) (fun _ _ _ h=>h) (.inl ⟨by kernel_rfl,fun W hW=>?_⟩) hS0 ?_
   ·go_simp
   refine wpAnyH_take (i:=2) (v:=.pointer (some ⟨gm,4,none⟩)) rfl (by kernel_rfl) (by kernel_rfl) (by kernel_rfl) (fun _ _ _ h=>h) (.inl ⟨by kernel_rfl,fun W hW=>?_⟩) hS0 ?_
   ·go_simp
   refine wpAnyH_take (i:=3) (v:=.int .i64 cf.strikes) rfl (by kernel_rfl) (by kernel_rfl) (by kernel_rfl) (fun _ _ _ h=>h) (.inl ⟨by kernel_rfl,fun W hW=>?_⟩) hS0 ?_
   ·have e4:=HE4.out W hW; go_simp
   refine wpAnyH_take (i:=5) (v:=.slice (some ⟨g,0,none⟩) n rc) rfl (by kernel_rfl) (by kernel_rfl) (by kernel_rfl) (fun _ _ _ h=>h) (.inl ⟨by kernel_rfl,fun W hW=>?_⟩) hS0 ?_
   ·go_simp
   refine wpAnyH_take (i:=6) (v:=.string (str AA)) rfl (by kernel_rfl) (by kernel_rfl) (by kernel_rfl) (fun _ _ _ h=>h) (.inl ⟨by kernel_rfl,fun W hW=>?_⟩) hS0 ?_
   ·go_simp
   refine wpAnyH_take (i:=7) (v:=.pointer (some ⟨gm,4,none⟩)) rfl (by kernel_rfl) (by kernel_rfl) (by kernel_rfl) (fun _ _ _ h=>h) (.inl ⟨by kernel_rfl,fun W hW=>?_⟩) hS0 ?_
   ·go_simp
   refine wpAnyH_take (i:=8) (v:=.int .i64 cf.strikes) rfl (by kernel_rfl) (by kernel_rfl) (by kernel_rfl) (fun _ _ _ h=>h) (.inl ⟨by kernel_rfl,fun W hW=>?_⟩) hS0 ?_
   ·have e4:=HE4.out W hW; go_simp
   refine wpAnyH_all (rs:=[4]) (by kernel_rfl) (by simp) ?_;intro z hz;rw [List.mem_singleton.1 hz];clear hz;unfold wpOp
   go_simp
   refine .inl ?_;refine (HCa.out wf.drew hS0).mono ?_;rintro e wd ⟨r,rfl,hfi,hbd⟩;have hS1:Below g5 wf wd:=hS0.trans (hbd.mono HGf.out);refine ⟨hS1,?_⟩;refine wpAnyH_all (rs:=[9]) (by kernel_rfl) (by simp) ?_;intro z hz;rw [List.mem_singleton.1 hz];clear hz;unfold wpOp
   go_simp
   refine .inl ?_;refine (HCb.out wd hS1).mono ?_;rintro e we ⟨r2,rfl,hfi2,hbe⟩;obtain rfl:=Au.isFirst_one hfi hfi2;have hS2:Below g5 wf we:=hS1.trans (hbe.mono (HgW.out wd hS1));refine ⟨hS2,?_⟩;clear hfi hfi2;have HB8:=lj (HBf.out.trans (hS2.mono (Nat.le_of_lt HS5.out)));refine wpAnyH_take (i:=10) (v:=.bool true) rfl (by kernel_rfl) (by kernel_rfl) (by kernel_rfl) (fun _ _ _ h=>h) (.inl ⟨by kernel_rfl,fun W hW=>?_⟩) hS2 ?_
   ·go_simp
   refine wpAnyH_all (rs:=[11]) (by kernel_rfl) (by simp) ?_;intro z hz;rw [List.mem_singleton.1 hz];clear hz;unfold wpOp
   go_simp
   refine .inl ?_;refine wpAnyH_done (by kernel_rfl) ?_ _
   go_simp
   go_wp2;go_ret;exact ⟨rfl,by rw [HG.out]; exact HB8.out⟩
theorem w_in:Tryz.checked.prog.inits.idxOf? 4=none:=by kernel_rfl
theorem w_ok (os:Os):Input.okWideB Tryz.prog ((World.doorLaid Tryz.prog 400 os).forCall (fun _ _=>0) ⟨#[],#[.agg #[.int .i64 0,.int .i64 0,.int .i64 0,.int .i64 0,.int .i64 0,.int .i64 0,.int .i64 0,.int .i64 0],.slice none 0 0,.int .i64 0,.agg #[.int .i64 0,.int .i64 0,.int .i64 0]],[]⟩) 4 ⟨#[],#[.agg #[.int .i64 0,.int .i64 0,.int .i64 0,.int .i64 0,.int .i64 0,.int .i64 0,.int .i64 0,.int .i64 0],.slice none 0 0,.int .i64 0,.agg #[.int .i64 0,.int .i64 0,.int .i64 0]],[]⟩=true:=by kernel_rfl
theorem w_pre (os:Os) (H:Type) (enc:TypeId×Value→H):Rows.auditFindsSpec.preB enc Tryz.prog Tryz.f4 [] false ((World.doorLaid Tryz.prog 400 os).forCall (fun _ _=>0) ⟨#[],#[.agg #[.int .i64 0,.int .i64 0,.int .i64 0,.int .i64 0,.int .i64 0,.int .i64 0,.int .i64 0,.int .i64 0],.slice none 0 0,.int .i64 0,.agg #[.int .i64 0,.int .i64 0,.int .i64 0]],[]⟩).memory #[.agg #[.int .i64 0,.int .i64 0,.int .i64 0,.int .i64 0,.int .i64 0,.int .i64 0,.int .i64 0,.int .i64 0],.slice none 0 0,.int .i64 0,.agg #[.int .i64 0,.int .i64 0,.int .i64 0]] 8=true:=by kernel_rfl
theorem w_sz (os:Os) (H:Type) (enc:TypeId×Value→H):Rows.auditFindsSpec.sizedB enc Tryz.prog Tryz.f4 false ((World.doorLaid Tryz.prog 400 os).forCall (fun _ _=>0) ⟨#[],#[.agg #[.int .i64 0,.int .i64 0,.int .i64 0,.int .i64 0,.int .i64 0,.int .i64 0,.int .i64 0,.int .i64 0],.slice none 0 0,.int .i64 0,.agg #[.int .i64 0,.int .i64 0,.int .i64 0]],[]⟩).memory #[.agg #[.int .i64 0,.int .i64 0,.int .i64 0,.int .i64 0,.int .i64 0,.int .i64 0,.int .i64 0,.int .i64 0],.slice none 0 0,.int .i64 0,.agg #[.int .i64 0,.int .i64 0,.int .i64 0]] 8=true:=by kernel_rfl
theorem lifted (os:Os) (started:os.Started) (H:Type) (enc:TypeId×Value→H) :
  ReturnsInHanded {} Tryz.checked os 4 .any (fun w args=>(Rows.auditFindsSpec.pre enc Tryz.prog Tryz.f4 [] false w args∧laidMetH Tryz.prog laidL w)∧sizedMet enc Tryz.prog Tryz.f4 (OpenSpec.ofChange Rows.auditFindsSpec) false w args)
   (Rows.auditFindsSpec.post enc Tryz.prog Tryz.f4 false true false false):=by
 refine returnsInHanded_of_change_and (C:=Tryz.checked) (X:=fun w _=>laidMetH Tryz.prog laidL w) (fun _ _ _ hh h=>h.of_heap hh) own started w_in Tryz.func4
  (ChangeSpec.witness_shaped (enc:=enc) (C:=Tryz.checked) (os:=os) (X:=fun w _=>laidMetH Tryz.prog laidL w) false (World.doorLaid Tryz.prog 400 os) #[.agg #[.int .i64 0,.int .i64 0,.int .i64 0,.int .i64 0,.int .i64 0,.int .i64 0,.int .i64 0,.int .i64 0],.slice none 0 0,.int .i64 0,.agg #[.int .i64 0,.int .i64 0,.int .i64 0]] 8 rfl (door_shaped os _) (w_ok os) (w_pre os H enc) (w_sz os H enc) (door_met os _)) ?_
 intro W base args ds gs before hval0 hW hcnd hsz0 hL _;have hti:=ti_of hL
 have hval:∀ (j:Nat) t v,Tryz.f4.params[j]?=some t→args[j]?=some v→Value.okWide Tryz.prog W .any base t v:=hval0
 have hW':=hW;obtain ⟨p,q,hA0,hV,rfl,hfz,hnd⟩:=hW;have hsz:(DataW.weightsEach Tryz.prog (Tryz.f4.params.toList ++ Rows.auditFindsSpec.plain.varTypes Tryz.prog) (ds ++ gs)).all (·≤reachBytes)=true:=hsz0;have hA:DataW.TrodAll enc Tryz.prog W 0 (fun _=>true) true Tryz.f4.params.toList args.toList ds p:=hA0;rw [Tryz.params4] at hA hval hsz;obtain ⟨v0,vs0,d0,ds0,p0,q0,hargs,rfl,rfl,h0,r0⟩:=trodAll_cons hA;obtain ⟨v1,vs1,d1,ds1,p1,q1,rfl,rfl,rfl,h1,r1⟩:=trodAll_cons r0;obtain ⟨v2,vs2,d2,ds2,p2,q2,rfl,rfl,rfl,h2,r2⟩:=trodAll_cons r1;obtain ⟨v3,vs3,d3,ds3,p3,q3,rfl,rfl,rfl,h3,r3⟩:=trodAll_cons r2;obtain ⟨rfl,rfl,rfl⟩:=trodAll_nil r3
 obtain rfl:args = #[v0,v1,v2,v3]:=by cases args; simp_all
 obtain ⟨rfl,rfl⟩:=trodVars_none hV;have k0:=h0
 have lt0:∀ x∈p0,x.block<W.heap.size:=by obtain ⟨m,hm⟩:=k0; exact DataW.trod_lt m _ _ _ hm
 obtain ⟨ca0,cb0,cc0,cd0,ce0,cf0,cg0,ch0,rfl⟩:=open_conf (hval 0 23 v0 rfl rfl) h0;obtain ⟨a1,len1,cap1,rfl⟩:=okWide_slice Tryz.underlying24 (hval 1 24 v1 rfl rfl);have k1:=h1
 have lt1:∀ x∈p1,x.block<W.heap.size:=by obtain ⟨m,hm⟩:=k1; exact DataW.trod_lt m _ _ _ hm
 obtain ⟨K1,I1,R1,A1,L1,C1,T1,w1,g1⟩:∃ K I R A L C T,Ievs W W.heap.size a1 len1 K I R A L C T∧len1≤cap1∧cap1≤maxLen:=by
  obtain ⟨fuel,hf⟩:=h1;exact open_ievs hf (fits_of hsz (j:=1) rfl rfl)
 obtain ⟨a2,rfl,rfl,rfl,w2⟩:=open_int Tryz.underlying3 (hval 2 3 v2 rfl rfl) h2;have k3:=h3
 have lt3:∀ x∈p3,x.block<W.heap.size:=by obtain ⟨m,hm⟩:=k3; exact DataW.trod_lt m _ _ _ hm
 obtain ⟨sa3,sb3,sc3,rfl⟩:=open_spoil (hval 3 34 v3 rfl rfl) h3;clear hA0 hval0 hsz hsz0
 refine (walk ca0 cb0 cc0 cd0 ce0 cf0 cg0 ch0 a1 len1 cap1 K1 I1 R1 A1 L1 C1 T1 a2 sa3 sb3 sc3 W w1 g1 w2 hti).mono fun e W' ⟨he,bel⟩=>?_
 subst he;exact ⟨_,rfl,_,_,_,[],_,[],hW',trodAll_mk1 (shut_bool Tryz.underlying4 _),(trodAll_cons_mk (Below.trod laidOut (by kernel_rfl) (of_decide_eq_true (by kernel_rfl)) k0 bel lt0) (trodAll_cons_mk (Below.trod laidOut (by kernel_rfl) (of_decide_eq_true (by kernel_rfl)) k1 bel lt1) (trodAll_cons_mk (shut_int Tryz.underlying3 w2) (trodAll_cons_mk (Below.trod laidOut (by kernel_rfl) (of_decide_eq_true (by kernel_rfl)) k3 bel lt3) trodAll_mk0)))),rfl,bel.frame _,fun h=>by cases h⟩
theorem q0:(Rows.auditFindsRow.wf (OpenSpec.ofChange Rows.auditFindsSpec))=true:=by kernel_rfl
theorem q3:(Tryz.f4.params.all (Tryz.prog.readableRec ·))=true:=by kernel_rfl
theorem q4:(namedTie Tryz.prog Rows.auditFindsRow.named Rows.auditFindsSpec.vars)=true:=by kernel_rfl
theorem q5:((Rows.auditFindsRow.stops == []))=true:=by kernel_rfl
theorem q7:((Rows.auditFindsRow.knobs == []))=true:=by kernel_rfl
theorem q9:((Rows.auditFindsRow.inPlace == Tryz.prog.inPlace 4))=true:=by kernel_rfl
theorem q10:((Rows.auditFindsRow.unfollowed == Tryz.prog.unfollowed 4))=true:=by kernel_rfl
theorem q11:((Rows.auditFindsRow.recurses == Tryz.prog.recurses 4))=true:=by kernel_rfl
theorem q12:((Rows.auditFindsRow.named == Tryz.prog.varsNamed 4))=true:=by kernel_rfl
theorem q13:((Rows.auditFindsRow.maps == (Tryz.f4.params.toList ++ Rows.auditFindsSpec.plain.varTypes Tryz.prog).any (Tryz.prog.mapsRec ·)))=true:=by kernel_rfl
theorem q14:((Rows.auditFindsRow.ifaces == (Tryz.f4.params.toList ++ Rows.auditFindsSpec.plain.varTypes Tryz.prog).any (Tryz.prog.ifacesRec ·)))=true:=by kernel_rfl
theorem q15:((Rows.auditFindsRow.mapsOut == Tryz.prog.mapsAmong Tryz.f4.resultTypes.toList))=true:=by kernel_rfl
theorem q16:((Rows.auditFindsRow.loops == (Tryz.f4.params.toList ++ Rows.auditFindsSpec.plain.varTypes Tryz.prog).any (Tryz.prog.loopsFrom ·)))=true:=by kernel_rfl
theorem q17:((Rows.auditFindsRow.wideKeys == (Tryz.f4.params.toList ++ Rows.auditFindsSpec.plain.varTypes Tryz.prog ++ Tryz.f4.resultTypes.toList).any (Tryz.prog.wideKeysFrom ·)))=true:=by kernel_rfl
theorem q18:(Rows.auditFindsSpec.vars.all (Tryz.prog.varReadable ·))=true:=by kernel_rfl
theorem q19:(Tryz.f4.resultTypes.all (fun t=>Tryz.prog.readableRec t && decide (t<Tryz.prog.types.size)))=true:=by kernel_rfl
theorem q20:((Rows.auditFindsRow.ifacesOut == Tryz.f4.resultTypes.toList.any (Tryz.prog.ifacesRec ·)))=true:=by kernel_rfl
theorem q21:((Rows.auditFindsRow.loopsOut == Tryz.f4.resultTypes.toList.any (Tryz.prog.loopsFrom ·)))=true:=by kernel_rfl
theorem q22:((Rows.auditFindsRow.plainKeys == Tryz.prog.plainKeys))=true:=(show Rows.auditFindsRow.plainKeys=Rows.auditBrokersRow.plainKeys from rfl) ▸ pq22
theorem q23:(Rows.auditFindsRow.shortTexts.isNone)=true:=by kernel_rfl
theorem q26:((Rows.auditFindsRow.lifted == Tryz.prog.liftsFinal))=true:=(show Rows.auditFindsRow.lifted=Rows.auditBrokersRow.lifted from rfl) ▸ pq26
theorem q27:((Tryz.prog.make == some Rows.auditFindsRow.make))=true:=(show Rows.auditFindsRow.make=Rows.auditBrokersRow.make from rfl) ▸ pq27
theorem q28:kindsAre Tryz.prog Rows.auditFindsRow Tryz.f4=true:=by kernel_rfl
theorem q29:((Rows.auditFindsRow.pinned == Rows.auditFindsRow.pinnedBy))=true:=by kernel_rfl
theorem q30:((Rows.auditFindsRow.veiled == (Tryz.f4.params.toList ++ Rows.auditFindsSpec.plain.varTypes Tryz.prog ++ Tryz.f4.resultTypes.toList).any (Tryz.prog.veiledRec ·)))=true:=by kernel_rfl
theorem q31:(Rows.auditFindsRow.veiledFits Tryz.prog Tryz.f4.params.toList (Tryz.f4.params.toList ++ Rows.auditFindsSpec.plain.varTypes Tryz.prog ++ Tryz.f4.resultTypes.toList))=true:=by kernel_rfl
theorem q_named:Tryz.prog.funcNamed Rows.auditFindsRow.func=some 4:=by kernel_rfl
theorem q_inst:Tryz.f4.isInstance Tryz.prog Rows.auditFindsRow.origin Rows.auditFindsRow.targs:=of_decide_eq_true (by kernel_rfl)
theorem q_wrap:Tryz.f4.isWrapper Tryz.prog Rows.auditFindsRow.wrapper Rows.auditFindsRow.mainSum:=by unfold Func.isWrapper; first | (rw [if_pos (by decide +kernel)]; kernel_rfl) | (rw [if_neg (by decide +kernel)]; exact ⟨rfl,rfl⟩)
theorem q_all:joinedFacts Tryz.prog 4 Tryz.f4 Rows.auditFindsSpec Rows.auditFindsRow=true:=joined_of (P:=Tryz.prog) (f:=4) (fn:=Tryz.f4) (s:=Rows.auditFindsSpec) (c:=Rows.auditFindsRow) q0 pq1 pq2 q3 q4 q5 pq6 q7 pq8 q9 q10 q11 q12 q13 q14 q15 q16 q17 q18 q19 q20 q21 q22 q23 pq24 pq25 q26 q27 q28 q29 q30 q31
theorem over:Rows.AuditFindsSaid:=
 OpenClaim.holds_of_wide 4 Tryz.f4 rfl rfl rfl rfl rfl rfl rfl ⟨rfl,rfl,rfl,rfl,rfl⟩ rfl rfl rfl rfl rfl q_named Tryz.func4 q_all q_inst q_wrap
  (fun os started H enc _=>lifted os started H enc)
theorem c_wf:Rows.auditFindsRow.wfByText (OpenSpec.ofChange Rows.auditFindsSpec)=true:=by kernel_rfl
theorem c_looks:true=Tryz.prog.looks []:=by kernel_rfl
theorem c_stand:([23,24,3,34].all fun u=>!Tryz.prog.wantsStandIn u)=true:=by kernel_rfl
theorem c_goes:false=Rows.auditFindsRow.goesBy Tryz.prog:=by kernel_rfl
end auditFinds
theorem auditFinds_holds:Rows.AuditFindsCardSaid:=
 Claim7.holds_tied_plain_at (c:=Rows.auditFindsRow) .later [] _ true _ true
  auditFinds.over (fun _ h=>by cases h) auditFinds.c_wf (fun _ h=>by cases h) auditFinds_row_tie rfl ⟨rfl,rfl⟩ main_is rfl
  (fun f fn hf hfn=>by
   obtain rfl:f=4:=Option.some.inj (auditFinds.q_named.symm.trans hf) |>.symm
   obtain rfl:fn=Tryz.f4:=(Option.some.inj (Tryz.func4.symm.trans hfn)).symm
   exact ⟨auditFinds.c_looks,fun j t ht=>by
    rw [Tryz.params4] at ht
    have hm:t∈[23,24,3,34]:=by simpa using Array.mem_of_getElem? ht
    exact (show Tryz.prog.wantsStandIn t=false by simpa using List.all_eq_true.1 auditFinds.c_stand t hm)⟩)
  auditFinds.c_goes
#print axioms auditFinds_holds
end Go.Proofs.YtdpagmcickkbmaaGreatDoor
