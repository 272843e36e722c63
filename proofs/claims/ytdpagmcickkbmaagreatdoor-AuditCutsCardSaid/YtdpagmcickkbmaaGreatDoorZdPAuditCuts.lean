/- AuditCuts: for every input the law answers true, and its arguments read as before. Conditions: none. -/
import Derived.Test.YtdpagmcickkbmaaGreatDoorZd47
import Derived.Test.YtdpagmcickkbmaaGreatDoorZd48
namespace Go.Proofs.YtdpagmcickkbmaaGreatDoor
set_option maxRecDepth 100000
open Go.Lib renaming hid → lj
namespace auditCuts
open Go.ChangeShapes Go.WideShapes Go.ChangeAt Go.RowKit
open Fr Bk
set_option maxHeartbeats 2000000 in
theorem walk (ca0 cb0 cc0 cd0 ce0 cf0 cg0 ch0:Int) (a1:Option Addr) (len1 cap1:Nat) (K1 I1 R1:Nat→Int) (A1:Nat→Option Addr) (L1 C1:Nat→Nat) (T1:Nat→Bs) (a2:Int) (a3:Int) (w:World)  (w1:Ievs w w.heap.size a1 len1 K1 I1 R1 A1 L1 C1 T1) (g1:len1≤cap1∧cap1≤maxLen) (w2:(Lit.int .i64 a2).wf=true) (w3:(Lit.int .i64 a3).wf=true) (ht:TI w) :
  Calls Tryz.prog 5 #[.agg (cv ca0 cb0 cc0 cd0 ce0 cf0 cg0 ch0),.slice a1 len1 cap1,.int .i64 a2,.int .i64 a3] w fun e w'=>e = .returned (.bool true)∧Below w.heap.size w w':=by
 have HTI:=lj ht;have HEV:=lj w1
 have hln:len1≤9223372036854775807:=by have:=g1; unfold maxLen at this; omega
 have HW2:=lj w2;have HW3:=lj w3;clear ht w1 g1;obtain ⟨p,hp4,hpe⟩:=rest_any a2 4 (by decide) (by decide)
 have hadd:wrap64 ((1:Int)+(p:Int))=((1+p:Nat):Int):=by rw [IntWalk.wrap64_in _ (by omega)]; omega
 by_cases hrt:rt ca0 cb0 cc0 cd0 ce0 cf0 cg0 ch0=true
 rotate_left
 ·have hrt:rt ca0 cb0 cc0 cd0 ce0 cf0 cg0 ch0=false:=by simpa using hrt
  unfold cv
  go_enter Tryz.func5,Tryz.ntmps5
  have hxm:=Bx.new w _ rfl #[.int .i64 ca0,.int .i64 cb0,.int .i64 cc0,.int .i64 cd0,.int .i64 ce0,.int .i64 cf0,.int .i64 cg0,.int .i64 ch0] 23;have hba:Below w.heap.size w (w.alloc (.cells #[.int .i64 ca0,.int .i64 cb0,.int .i64 cc0,.int .i64 cd0,.int .i64 ce0,.int .i64 cf0,.int .i64 cg0,.int .i64 ch0] 23)):=(Below.refl _ _).alloc (Nat.le_refl _) _
  have hsz:w.heap.size<(w.alloc (.cells #[.int .i64 ca0,.int .i64 cb0,.int .i64 cc0,.int .i64 cd0,.int .i64 ce0,.int .i64 cf0,.int .i64 cg0,.int .i64 ch0] 23)).heap.size:=by simp
  go_wp2_with fail
  generalize (w.alloc (.cells #[.int .i64 ca0,.int .i64 cb0,.int .i64 cc0,.int .i64 cd0,.int .i64 ce0,.int .i64 cf0,.int .i64 cg0,.int .i64 ch0] 23))=wa at *
  obtain ⟨gm,hgm⟩:∃ gm,w.heap.size=gm:=⟨_,rfl⟩
  rw [hgm] at hxm hba hsz;have HG:=lj hgm;have hTI:=HTI.out.below (hgm ▸ hba);have HE0:=lj (show Ievs w gm a1 len1 K1 I1 R1 A1 L1 C1 T1 from hgm ▸ HEV.out);rw [hgm];clear hgm HEV;refine (lhd_any wa).mono ?_;rintro e w1 ⟨rfl,hb1⟩;have HX1:=lj (hxm.go hb1 hsz);have HB1:=lj (Below.trans hba (hb1.mono (Nat.le_of_lt hsz)));have HT1:=lj (hTI.below hb1);have HS1:=lj (Nat.lt_of_lt_of_le hsz hb1.size)
  skip
  clear hxm hba hb1 hTI hsz;have HF:=lj (lfew_any (cap:=cap1) w1 (show Ievs w1 w1.heap.size a1 len1 K1 I1 R1 A1 L1 C1 T1 from (HE0.out.below HB1.out).more (Nat.le_of_lt HS1.out)) hln)
  go_wp2_with fail
  refine HF.out.mono ?_;rintro e w2 ⟨f,rfl,hfew,hb2⟩;have HX2:=lj (HX1.out.go hb2 HS1.out);have HB2:=lj (Below.trans HB1.out (hb2.mono (Nat.le_of_lt HS1.out)));have HT2:=lj (HT1.out.below hb2);have HS2:=lj (Nat.lt_of_lt_of_le HS1.out hb2.size)
  skip
  clear hb2 HX1 HB1 HT1 HS1 HF
  rcases f with _ | _
  ·go_wp2
   go_ret;exact ⟨rfl,by rw [HG.out]; exact HB2.out⟩
  have z0:=HX2.out.cell 0 (.int .i64 ca0) rfl;have z1:=HX2.out.cell 1 (.int .i64 cb0) rfl;have z2:=HX2.out.cell 2 (.int .i64 cc0) rfl;have z3:=HX2.out.cell 3 (.int .i64 cd0) rfl;have z4:=HX2.out.cell 4 (.int .i64 ce0) rfl;have z5:=HX2.out.cell 5 (.int .i64 cf0) rfl;have z6:=HX2.out.cell 6 (.int .i64 cg0) rfl;have z7:=HX2.out.cell 7 (.int .i64 ch0) rfl
  go_wp2_with fail
  refine (cright_any ca0 cb0 cc0 cd0 ce0 cf0 cg0 ch0 w2).mono ?_;rintro e w3 ⟨rfl,hb3⟩;rw [hrt];have HX3:=lj (HX2.out.go hb3 HS2.out);have HB3:=lj (Below.trans HB2.out (hb3.mono (Nat.le_of_lt HS2.out)));have HT3:=lj (HT2.out.below hb3);have HS3:=lj (Nat.lt_of_lt_of_le HS2.out hb3.size)
  skip
  clear hb3 HX2 HB2 HT2 HS2 z0 z1 z2 z3 z4 z5 z6 z7;go_wp2;go_ret;exact ⟨rfl,by rw [HG.out]; exact HB3.out⟩
 obtain ⟨cf,hcf,hev0,rfl,rfl,rfl,rfl,rfl,rfl,rfl,rfl⟩:=rt_cf hrt;have HC:=lj (And.intro hcf hev0);clear hcf hev0;unfold cv
 go_enter Tryz.func5,Tryz.ntmps5
 have hxm:=Bx.new w _ rfl #[.int .i64 cf.log,.int .i64 cf.data,.int .i64 cf.queue,.int .i64 cf.input,.int .i64 cf.strikes,.int .i64 cf.lease,.int .i64 cf.idle,.int .i64 cf.width] 23;have hba:Below w.heap.size w (w.alloc (.cells #[.int .i64 cf.log,.int .i64 cf.data,.int .i64 cf.queue,.int .i64 cf.input,.int .i64 cf.strikes,.int .i64 cf.lease,.int .i64 cf.idle,.int .i64 cf.width] 23)):=(Below.refl _ _).alloc (Nat.le_refl _) _
 have hsz:w.heap.size<(w.alloc (.cells #[.int .i64 cf.log,.int .i64 cf.data,.int .i64 cf.queue,.int .i64 cf.input,.int .i64 cf.strikes,.int .i64 cf.lease,.int .i64 cf.idle,.int .i64 cf.width] 23)).heap.size:=by simp
 go_wp2_with fail
 generalize (w.alloc (.cells #[.int .i64 cf.log,.int .i64 cf.data,.int .i64 cf.queue,.int .i64 cf.input,.int .i64 cf.strikes,.int .i64 cf.lease,.int .i64 cf.idle,.int .i64 cf.width] 23))=wa at *
 obtain ⟨gm,hgm⟩:∃ gm,w.heap.size=gm:=⟨_,rfl⟩
 rw [hgm] at hxm hba hsz;have HG:=lj hgm;have hTI:=HTI.out.below (hgm ▸ hba);have HE0:=lj (show Ievs w gm a1 len1 K1 I1 R1 A1 L1 C1 T1 from hgm ▸ HEV.out);rw [hgm];clear hgm HEV;refine (lhd_any wa).mono ?_;rintro e w1 ⟨rfl,hb1⟩;have HX1:=lj (hxm.go hb1 hsz);have HB1:=lj (Below.trans hba (hb1.mono (Nat.le_of_lt hsz)));have HT1:=lj (hTI.below hb1);have HS1:=lj (Nat.lt_of_lt_of_le hsz hb1.size)
 skip
 clear hxm hba hb1 hTI hsz;have HF:=lj (lfew_any (cap:=cap1) w1 (show Ievs w1 w1.heap.size a1 len1 K1 I1 R1 A1 L1 C1 T1 from (HE0.out.below HB1.out).more (Nat.le_of_lt HS1.out)) hln)
 go_wp2_with fail
 refine HF.out.mono ?_;rintro e w2 ⟨f,rfl,hfew,hb2⟩;have HX2:=lj (HX1.out.go hb2 HS1.out);have HB2:=lj (Below.trans HB1.out (hb2.mono (Nat.le_of_lt HS1.out)));have HT2:=lj (HT1.out.below hb2);have HS2:=lj (Nat.lt_of_lt_of_le HS1.out hb2.size)
 skip
 clear hb2 HX1 HB1 HT1 HS1 HF
 rcases f with _ | _
 ·go_wp2
  go_ret;exact ⟨rfl,by rw [HG.out]; exact HB2.out⟩
 have hfew:=hfew rfl;have hf1:=hfew.1;have HFW:=lj hfew.2;clear hfew;have z0:=HX2.out.cell 0 (.int .i64 cf.log) rfl;have z1:=HX2.out.cell 1 (.int .i64 cf.data) rfl;have z2:=HX2.out.cell 2 (.int .i64 cf.queue) rfl;have z3:=HX2.out.cell 3 (.int .i64 cf.input) rfl;have z4:=HX2.out.cell 4 (.int .i64 cf.strikes) rfl;have z5:=HX2.out.cell 5 (.int .i64 cf.lease) rfl;have z6:=HX2.out.cell 6 (.int .i64 cf.idle) rfl;have z7:=HX2.out.cell 7 (.int .i64 cf.width) rfl
 go_wp2_with fail
 refine (cright_any ((cf.log:Nat)) ((cf.data:Nat)) ((cf.queue:Nat)) ((cf.input:Nat)) ((cf.strikes:Nat)) ((cf.lease:Nat)) ((cf.idle:Nat)) ((cf.width:Nat)) w2).mono ?_;rintro e w3 ⟨rfl,hb3⟩;rw [hrt];have HX3:=lj (HX2.out.go hb3 HS2.out);have HB3:=lj (Below.trans HB2.out (hb3.mono (Nat.le_of_lt HS2.out)));have HT3:=lj (HT2.out.below hb3);have HS3:=lj (Nat.lt_of_lt_of_le HS2.out hb3.size)
 skip
 clear hb3 HX2 HB2 HT2 HS2 z0 z1 z2 z3 z4 z5 z6 z7;have HPl:=lj (plain_any (cap:=cap1) w3 (show Ievs w3 w3.heap.size a1 len1 K1 I1 R1 A1 L1 C1 T1 from (HE0.out.below HB3.out).more (Nat.le_of_lt HS3.out)) hln)
 go_wp2_with fail
 refine HPl.out.mono ?_;rintro e w4 ⟨f,rfl,hpl,hb4⟩;have HX4:=lj (HX3.out.go hb4 HS3.out);have HB4:=lj (Below.trans HB3.out (hb4.mono (Nat.le_of_lt HS3.out)));have HT4:=lj (HT3.out.below hb4);have HS4:=lj (Nat.lt_of_lt_of_le HS3.out hb4.size);clear hb4 HX3 HB3 HT3 HS3 HPl
 rcases f with _ | _
 ·go_wp2
  go_ret;exact ⟨rfl,by rw [HG.out]; exact HB4.out⟩
 have HPl:=lj (hpl rfl);clear hpl
 obtain ⟨i,hi⟩:∃ i,1+p=i:=⟨_,rfl⟩
 have hi1:1≤i:=by omega
 have hi2:i≤16:=by omega
 rw [hi] at hadd
 have HSe:=lj (show Calls Tryz.prog 10 #[.agg #[.int .i64 cf.log,.int .i64 cf.data,.int .i64 cf.queue,.int .i64 cf.input,.int .i64 cf.strikes,.int .i64 cf.lease,.int .i64 cf.idle,.int .i64 cf.width],.slice a1 len1 cap1,.int .i64 (i:Nat)] w4 (SentGives (SI i cf.strikes) i w4) from
  sent_any HC.out.1 HC.out.2 (SI i cf.strikes) i hi2 w4 HT4.out ((HE0.out.below HB4.out).more (Nat.le_of_lt HS4.out)) hf1 HFW.out (si_new HC.out.2.ok)
   (fun k q A G b hk hq hq7 hat hin=>si_step hq hq7 hat (HE0.out.inner k hk).2.1.1 (Nat.le_trans (sumL_mono (show k+1≤len1 by omega)) HFW.out) (HPl.out k hk) hin)
   (fun A G b h=>by have h2:=h.write (i:Nat) 1000; rwa [if_pos rfl] at h2))
 clear hi hp4 HE0 HT4 HPl HFW;have z0:=HX4.out.cell 0 (.int .i64 cf.log) rfl;have z1:=HX4.out.cell 1 (.int .i64 cf.data) rfl;have z2:=HX4.out.cell 2 (.int .i64 cf.queue) rfl;have z3:=HX4.out.cell 3 (.int .i64 cf.input) rfl;have z4:=HX4.out.cell 4 (.int .i64 cf.strikes) rfl;have z5:=HX4.out.cell 5 (.int .i64 cf.lease) rfl;have z6:=HX4.out.cell 6 (.int .i64 cf.idle) rfl;have z7:=HX4.out.cell 7 (.int .i64 cf.width) rfl
 go_wp2_with fail
 refine HSe.out.mono ?_;rintro e w5 ⟨AA,GG,b,R,rc,ms,rr,rfl,hinv,hw0,hla,hlg,hms,hrow,h5,hb5⟩;have HX5:=lj (HX4.out.go hb5 HS4.out);have HB5:=lj (Below.trans HB4.out (hb5.mono (Nat.le_of_lt HS4.out)));have HS5:=lj (Nat.lt_of_lt_of_le HS4.out hb5.size)
 skip
 obtain ⟨hr0,hsent⟩:=sent_list hinv hi1 hi2 hw0 hms;subst hr0;have HSent:=lj hsent;have hdr:(decide (([]:Bs)=[]))=true:=rfl;rw [hdr];clear hadd hpe;have HMi:=lj (msin_am hrow.msin hms.ok);have hml:(ms.map am).length=ms.length:=List.length_map ..;have HRow:=lj hrow;have hcap:=hrow.cap;have HMs:=lj hms;clear hinv hw0 hms hrow hb5 HX4 HB4 HS4 HSe z0 z1 z2 z3 z4 z5 z6 z7 hsent hdr
 obtain ⟨ml,hm0⟩:∃ ml,ms.length=ml:=⟨_,rfl⟩
 rw [hm0];have HM0:=lj hm0
 have h5m:ml≤2000000:=by omega
 rw [hm0] at HRow hcap
 obtain ⟨N,hN⟩:∃ N,ml+1=N:=⟨_,rfl⟩
 have hN1:wrap64 ((ml:Int)+1)=(N:Nat):=by rw [IntWalk.wrap64_in _ (by omega)]; omega
 have HN1:=lj hN1;clear hN1
 have hu:IntKind.u64.wrap ((N:Nat):Int)=(N:Nat):=by rw [IntKind.wrap_u64]; omega
 have HU:=lj hu;clear hu
 have hz:(((N:Nat):Int) == 0)=false:=by simp; omega
 have HZ:=lj hz;clear hz;obtain ⟨k,hk,hke⟩:=rest_big a3 ((N:Nat):Int) (by omega) (by omega);have HKe:=lj hke;clear hke
 have hkl:k≤ml:=by omega
 have hN1':(ml:Int)+1=(N:Nat):=by omega
 have HN:=lj hN;clear hm0 hN hml h5 hk;have hke:=HKe.out;have hN1:=HN1.out;have hu:=HU.out;have hz:=HZ.out;clear HKe HN1 HU HZ
 go_upto_region 9 with fail
 rw [hke];clear hke hN1 hu hz;have hx6:=Bx.new w5 _ rfl #[.int .i64 5,.int .i64 1,.int .i64 0,.string ⟨#[111,119,110,101,114]⟩] 38;have hb6:Below w5.heap.size w5 (w5.alloc (.cells #[.int .i64 5,.int .i64 1,.int .i64 0,.string ⟨#[111,119,110,101,114]⟩] 38)):=(Below.refl _ _).alloc (Nat.le_refl _) _
 go_upto_region 10 with fail
 generalize w5.alloc (.cells #[.int .i64 5,.int .i64 1,.int .i64 0,.string ⟨#[111,119,110,101,114]⟩] 38)=w6 at *;have HB6:=lj (HB5.out.trans (hb6.mono (Nat.le_of_lt HS5.out)));have HX6:=lj (HX5.out.go hb6 HS5.out);have HS6:=lj (Nat.lt_of_lt_of_le HS5.out hb6.size);have HMk:=lj (fun W (h:Below w6.heap.size w6 W)=>(((HRow.out.msin.take k).below hb6).below (h.mono hb6.size)));have HLt:=lj hx6;have hg6:=hx6.room;have HMi6:=lj (fun W (h:Below w6.heap.size w6 W)=>((HMi.out.below hb6).below (h.mono hb6.size)));generalize w5.heap.size=g5 at *
 obtain ⟨g6,hg6e⟩:∃ g6,w6.heap.size=g6:=⟨_,rfl⟩
 rw [hg6e] at hg6
 have HS:Hid (∀ W,Below g6 w6 W→W.cell? ⟨g5,0,none⟩=some (.int .i64 5)∧W.cell? ⟨g5,1,none⟩=some (.int .i64 1)∧W.cell? ⟨g5,2,none⟩=some (.int .i64 0)∧W.cell? ⟨g5,3,none⟩=some (.string ⟨#[111,119,110,101,114]⟩)):=lj (fun W h=>by
  have hy:=HLt.out.go h hg6
  exact ⟨hy.cell 0 _ rfl,hy.cell 1 _ rfl,hy.cell 2 _ rfl,hy.cell 3 _ rfl⟩)
 have hkr:k≤rc:=by omega
 have hmt:(ms.take k).length=k:=by rw [List.length_take,HM0.out]; omega
 have HMt:=lj hmt;have HX5s:=lj (show ([111#8,119#8,110#8,101#8,114#8]:Bs).length≤maxLen from by unfold maxLen; decide);rw [hg6e] at HMk HMi6
 have hk1:wrap64 ((k:Int)+1)=((k+1:Nat):Int):=by rw [IntWalk.wrap64_in _ (by omega)]; omega
 clear hx6 hb6 HB5 HX5 HS5 hmt hk1
 have hmix:Tryz.prog.follows .mixedOrders=true:=by kernel_rfl
 go_cut [14] (fun s14 wx=>∃ A7 c7,s14 = .slice A7 (k+1) c7∧Hid (MsgRow g6 wx A7 (k+1) c7 (ms.take k ++ [(⟨5,1,0,[111#8,119#8,110#8,101#8,114#8]⟩:M)]))∧Hid (Below g6 w6 wx))
 case first =>
  go_wp2_with fail
  refine wp_region_held (S:=fun W=>Below g6 w6 W) hmix ?_
  change wpAnyH _ _ _ _ _ _ _ _ (World.drew _)
  have hS0:Below g6 w6 w6.drew:=(Below.refl _ _).drew;refine wpAnyH_take (i:=1) (v:=.slice R ml rc) rfl (by kernel_rfl) (by kernel_rfl) (by kernel_rfl) (fun _ _ _ h=>h) (.inl ⟨by kernel_rfl,fun W hW=>?_⟩) hS0 ?_
  ·go_simp
  refine wpAnyH_take (i:=2) (v:=.int .i64 (k:Nat)) rfl (by kernel_rfl) (by kernel_rfl) (by kernel_rfl) (fun _ _ _ h=>h) (.inl ⟨by kernel_rfl,fun W hW=>?_⟩) hS0 ?_
  ·go_simp
  refine wpAnyH_take (i:=3) (v:=.slice R k rc) rfl (by kernel_rfl) (by kernel_rfl) (by kernel_rfl) (fun _ _ _ h=>h) (.inl ⟨by kernel_rfl,fun W hW=>?_⟩) hS0 ?_
  ·go_simp
  refine wpAnyH_take (i:=5) (v:=.agg #[.int .i64 5,.int .i64 1,.int .i64 0,.string ⟨#[111,119,110,101,114]⟩]) rfl (by kernel_rfl) (by kernel_rfl) (by kernel_rfl) (fun _ _ _ h=>h) (.inl ⟨by kernel_rfl,fun W hW=>?_⟩) hS0 ?_
  ·obtain ⟨e0,e1,e2,e3⟩:=HS.out W hW; go_simp
  have hSw0:Below g6 w6 w6.drew:=hS0
  obtain ⟨w0,hw0⟩:∃ w0,w6.drew=w0:=⟨_,rfl⟩
  rw [hw0] at hSw0 hS0;rw [hw0]
  have hz0:w0.heap.size=g6:=by rw [← hw0]; exact hg6e
  clear hw0;refine wpAnyH_all (rs:=[0,6]) (by kernel_rfl) (by simp) ?_;intro z hz;simp only [List.mem_cons,List.not_mem_nil,or_false] at hz
  rcases hz with rfl | rfl
  ·skip
   unfold wpOp
   go_simp
   have hSw1:Below g6 w6 (w0.alloc (.cells #[] 38)):=hSw0.alloc (by have:=hSw0.size; rw [hg6e] at this; exact this) _;have hrw1:MsgRow g6 (w0.alloc (.cells #[] 38)) (some ⟨w0.heap.size,0,none⟩) 0 0 []:=MsgRow.empty w0 (by have:=hSw0.size; rw [hg6e] at this; exact this);refine .inl ⟨hSw1,?_⟩
   have hz1:(w0.alloc (.cells #[] 38)).heap.size=g6+1:=by simp [hz0]
   rw [hz0] at hrw1;have HZ1:=lj hz1;clear hz1;generalize w0.alloc (.cells #[] 38)=w1 at *;refine wpAnyH_all (rs:=[4,6]) (by kernel_rfl) (by simp) ?_;intro z hz;simp only [List.mem_cons,List.not_mem_nil,or_false] at hz
   rcases hz with rfl | rfl
   ·skip
    obtain ⟨A8,c8,w8,hrun8,hr8,hb8⟩:=run_mapp 28 hrw1 (c2:=rc) (HMk.out _ hSw1) HMt.out (by omega) (by have:=hSw1.size; rw [hg6e] at this; exact this);rw [Nat.zero_add] at hrun8 hr8;rw [List.nil_append] at hr8;have hSw8:Below g6 w6 w8:=hSw1.trans hb8;refine wpOpv rfl rfl (exec_append (s:=.tmp 54) (x:=.tmp 57) (st:=28) rfl rfl rfl hrun8) ⟨hSw8,?_⟩;clear hrun8;refine wpAnyH_all (rs:=[6]) (by kernel_rfl) (by simp) ?_;intro z hz;rw [List.mem_singleton.1 hz];clear hz;unfold wpOp
    go_simp
    have hSw2:Below g6 w6 (w8.alloc (.cells #[.int .i64 5,.int .i64 1,.int .i64 0,.string ⟨#[111,119,110,101,114]⟩] 38)):=hSw8.alloc (by have:=hSw8.size; rw [hg6e] at this; exact this) _;have hlw2:Bx w8.heap.size (w8.alloc (.cells #[.int .i64 5,.int .i64 1,.int .i64 0,.string ⟨#[111,119,110,101,114]⟩] 38)) #[.int .i64 5,.int .i64 1,.int .i64 0,.string ⟨#[111,119,110,101,114]⟩]:=Bx.new w8 _ rfl #[.int .i64 5,.int .i64 1,.int .i64 0,.string ⟨#[111,119,110,101,114]⟩] 38;refine .inl ⟨hSw2,?_⟩;have hr2:=hr8.below (below_lit w8 (.cells #[.int .i64 5,.int .i64 1,.int .i64 0,.string ⟨#[111,119,110,101,114]⟩] 38));generalize w8.alloc (.cells #[.int .i64 5,.int .i64 1,.int .i64 0,.string ⟨#[111,119,110,101,114]⟩] 38)=w2 at *;obtain ⟨A9,c9,w9,hrun9,hr9,hb9⟩:=run_mapp 28 hr2 (c2:=1) (m:=1) (msg_of_bx (e:=(⟨5,1,0,[111#8,119#8,110#8,101#8,114#8]⟩:M)) hlw2 HX5s.out) rfl (by omega) (by have:=hSw2.size; rw [hg6e] at this; exact this);have hS9:Below g6 w6 w9:=hSw2.trans hb9;refine wpAnyH_all (rs:=[7]) (by kernel_rfl) (by simp) ?_;intro z hz;rw [List.mem_singleton.1 hz];clear hz;refine wpOpv rfl rfl (exec_append (s:=.tmp 58) (x:=.tmp 60) (st:=28) rfl rfl rfl hrun9) ⟨hS9,?_⟩;clear hrun9;refine wpAnyH_all (rs:=[8]) (by kernel_rfl) (by simp) ?_;intro z hz;rw [List.mem_singleton.1 hz];clear hz;unfold wpOp
    go_simp
    refine .inl ?_;refine wpAnyH_done (by kernel_rfl) ?_ _
    go_simp
    go_wp2_with fail
    go_meet
    exact ⟨A9,c9,rfl,lj hr9,lj hS9⟩
   ·skip
    unfold wpOp
    go_simp
    have hSw2:Below g6 w6 (w1.alloc (.cells #[.int .i64 5,.int .i64 1,.int .i64 0,.string ⟨#[111,119,110,101,114]⟩] 38)):=hSw1.alloc (by have:=hSw1.size; rw [hg6e] at this; exact this) _;have hlw2:Bx w1.heap.size (w1.alloc (.cells #[.int .i64 5,.int .i64 1,.int .i64 0,.string ⟨#[111,119,110,101,114]⟩] 38)) #[.int .i64 5,.int .i64 1,.int .i64 0,.string ⟨#[111,119,110,101,114]⟩]:=Bx.new w1 _ rfl #[.int .i64 5,.int .i64 1,.int .i64 0,.string ⟨#[111,119,110,101,114]⟩] 38;refine .inl ⟨hSw2,?_⟩;have hr2:=hrw1.below (below_lit w1 (.cells #[.int .i64 5,.int .i64 1,.int .i64 0,.string ⟨#[111,119,110,101,114]⟩] 38));have hz1:=HZ1.out;have htw:TwJ g6 w6 (w1.alloc (.cells #[.int .i64 5,.int .i64 1,.int .i64 0,.string ⟨#[111,119,110,101,114]⟩] 38)) (some ⟨g6,0,none⟩) 0 0 [] w1.heap.size (⟨5,1,0,[111#8,119#8,110#8,101#8,114#8]⟩:M):=⟨hr2,hlw2,fun ⟨p,hp,hpe⟩=>(by injection hp with hp; subst hp; simp at hpe; omega),hSw2,by simp; omega⟩;clear hz1;generalize w1.alloc (.cells #[.int .i64 5,.int .i64 1,.int .i64 0,.string ⟨#[111,119,110,101,114]⟩] 38)=w2 at *;refine wpAnyH_all (rs:=[4]) (by kernel_rfl) (by simp) ?_;intro z hz;rw [List.mem_singleton.1 hz];clear hz;obtain ⟨A8,c8,w8,hrun8,ht8⟩:=htw.app (c2:=rc) (HMk.out _ htw.b) HMt.out (by omega) 28;rw [Nat.zero_add] at hrun8 ht8;rw [List.nil_append] at ht8;have hSw8:Below g6 w6 w8:=ht8.b;refine wpOpv rfl rfl (exec_append (s:=.tmp 54) (x:=.tmp 57) (st:=28) rfl rfl rfl hrun8) ⟨hSw8,?_⟩;clear hrun8;obtain ⟨A9,c9,w9,hrun9,hr9,hb9⟩:=run_mapp 28 ht8.row (c2:=1) (m:=1) (msg_of_bx (e:=(⟨5,1,0,[111#8,119#8,110#8,101#8,114#8]⟩:M)) ht8.lit HX5s.out) rfl (by omega) (by have:=hSw8.size; rw [hg6e] at this; exact this);have hS9:Below g6 w6 w9:=hSw8.trans hb9;refine wpAnyH_all (rs:=[7]) (by kernel_rfl) (by simp) ?_;intro z hz;rw [List.mem_singleton.1 hz];clear hz;refine wpOpv rfl rfl (exec_append (s:=.tmp 58) (x:=.tmp 60) (st:=28) rfl rfl rfl hrun9) ⟨hS9,?_⟩;clear hrun9;refine wpAnyH_all (rs:=[8]) (by kernel_rfl) (by simp) ?_;intro z hz;rw [List.mem_singleton.1 hz];clear hz;unfold wpOp
    go_simp
    refine .inl ?_;refine wpAnyH_done (by kernel_rfl) ?_ _
    go_simp
    go_wp2_with fail
    go_meet
    exact ⟨A9,c9,rfl,lj hr9,lj hS9⟩
  ·skip
   unfold wpOp
   go_simp
   have hSw1:Below g6 w6 (w0.alloc (.cells #[.int .i64 5,.int .i64 1,.int .i64 0,.string ⟨#[111,119,110,101,114]⟩] 38)):=hSw0.alloc (by have:=hSw0.size; rw [hg6e] at this; exact this) _;have hlw1:Bx w0.heap.size (w0.alloc (.cells #[.int .i64 5,.int .i64 1,.int .i64 0,.string ⟨#[111,119,110,101,114]⟩] 38)) #[.int .i64 5,.int .i64 1,.int .i64 0,.string ⟨#[111,119,110,101,114]⟩]:=Bx.new w0 _ rfl #[.int .i64 5,.int .i64 1,.int .i64 0,.string ⟨#[111,119,110,101,114]⟩] 38;refine .inl ⟨hSw1,?_⟩
   have hz1:(w0.alloc (.cells #[.int .i64 5,.int .i64 1,.int .i64 0,.string ⟨#[111,119,110,101,114]⟩] 38)).heap.size=g6+1:=by simp [hz0]
   rw [hz0] at hlw1;have HZ1:=lj hz1;clear hz1;generalize w0.alloc (.cells #[.int .i64 5,.int .i64 1,.int .i64 0,.string ⟨#[111,119,110,101,114]⟩] 38)=w1 at *;refine wpAnyH_all (rs:=[0]) (by kernel_rfl) (by simp) ?_;intro z hz;rw [List.mem_singleton.1 hz];clear hz;unfold wpOp
   go_simp
   have hSw2:Below g6 w6 (w1.alloc (.cells #[] 38)):=hSw1.alloc (by have:=hSw1.size; rw [hg6e] at this; exact this) _;have hrw2:MsgRow g6 (w1.alloc (.cells #[] 38)) (some ⟨w1.heap.size,0,none⟩) 0 0 []:=MsgRow.empty w1 (by have:=hSw1.size; rw [hg6e] at this; exact this);refine .inl ⟨hSw2,?_⟩;have hl2:=hlw1.go (below_lit w1 (.cells #[] 38)) hlw1.room;have hz1:=HZ1.out;have htw:TwJ g6 w6 (w1.alloc (.cells #[] 38)) (some ⟨w1.heap.size,0,none⟩) 0 0 [] g6 (⟨5,1,0,[111#8,119#8,110#8,101#8,114#8]⟩:M):=⟨hrw2,hl2,fun ⟨p,hp,hpe⟩=>(by injection hp with hp; subst hp; simp at hpe; omega),hSw2,by simp; omega⟩;clear hz1;generalize w1.alloc (.cells #[] 38)=w2 at *;refine wpAnyH_all (rs:=[4]) (by kernel_rfl) (by simp) ?_;intro z hz;rw [List.mem_singleton.1 hz];clear hz;obtain ⟨A8,c8,w8,hrun8,ht8⟩:=htw.app (c2:=rc) (HMk.out _ htw.b) HMt.out (by omega) 28;rw [Nat.zero_add] at hrun8 ht8;rw [List.nil_append] at ht8;have hSw8:Below g6 w6 w8:=ht8.b;refine wpOpv rfl rfl (exec_append (s:=.tmp 54) (x:=.tmp 57) (st:=28) rfl rfl rfl hrun8) ⟨hSw8,?_⟩;clear hrun8;obtain ⟨A9,c9,w9,hrun9,hr9,hb9⟩:=run_mapp 28 ht8.row (c2:=1) (m:=1) (msg_of_bx (e:=(⟨5,1,0,[111#8,119#8,110#8,101#8,114#8]⟩:M)) ht8.lit HX5s.out) rfl (by omega) (by have:=hSw8.size; rw [hg6e] at this; exact this);have hS9:Below g6 w6 w9:=hSw8.trans hb9;refine wpAnyH_all (rs:=[7]) (by kernel_rfl) (by simp) ?_;intro z hz;rw [List.mem_singleton.1 hz];clear hz;refine wpOpv rfl rfl (exec_append (s:=.tmp 58) (x:=.tmp 60) (st:=28) rfl rfl rfl hrun9) ⟨hS9,?_⟩;clear hrun9;refine wpAnyH_all (rs:=[8]) (by kernel_rfl) (by simp) ?_;intro z hz;rw [List.mem_singleton.1 hz];clear hz;unfold wpOp
   go_simp
   refine .inl ?_;refine wpAnyH_done (by kernel_rfl) ?_ _
   go_simp
   go_wp2_with fail
   go_meet
   exact ⟨A9,c9,rfl,lj hr9,lj hS9⟩
 case rest =>
  obtain ⟨A7,c7,rfl,hr7,hb7⟩:=hcut;have HX7:=lj (HX6.out.go hb7.out (by rw [← hg6e]; exact HS6.out));have HB7:=lj (HB6.out.trans (hb7.out.mono (by rw [← hg6e]; exact Nat.le_of_lt HS6.out)));have HS7:=lj (Nat.lt_of_lt_of_le (by rw [← hg6e]; exact HS6.out:gm<g6) (by rw [← hg6e]; exact (hg6e ▸ hb7.out:Below w6.heap.size w6 wc).size))
  have HMa:=lj (show MsIn wc g5 R ((ms.take k).map Bk.am) from by
   have h:=(HMi6.out wc hb7.out).take k
   rwa [← List.map_take] at h)
  have HMb:=lj (show MsIn wc wc.heap.size A7 ((ms.take k).map Bk.am ++ [⟨5,1,0,[111#8,119#8,110#8,101#8,114#8]⟩]) from by
   have h:=msin_am hr7.out.msin (fun m hm=>by
    rcases List.mem_append.1 hm with h | h
    ·exact HMs.out.ok m (List.mem_of_mem_take h)
    ·rw [List.mem_singleton.1 h]; decide)
   rw [List.map_append] at h
   exact h)
  have hc7:=hr7.out.cap;have HF1:=lj (HSent.out.take k);have HF2:=lj (HSent.out.twice (k:=k) (by rw [HM0.out]; omega))
  have hla1:((ms.take k).map Bk.am).length=k:=by rw [List.length_map]; exact HMt.out
  have hg5l:g5≤wc.heap.size:=by have:=(hg6e ▸ hb7.out:Below w6.heap.size w6 wc).size; omega
  obtain ⟨Lk,hLk⟩:∃ Lk,(ms.take k).map Bk.am=Lk:=⟨_,rfl⟩
  rw [hLk] at HMa HMb HF1 HF2 hla1;have HLa:=lj hla1;clear hr7 hb7 hLk hla1 HMk HMi6 HX6 HB6 HS6 HLt HS HMi HRow HMs HMt
  obtain ⟨g7,hg7⟩:∃ g7,wc.heap.size=g7:=⟨_,rfl⟩
  rw [hg7] at HMb HS7 hg5l;have HG7:=lj hg7;clear hg7;have HE4:=lj (fun W (h:Below g7 wc W)=>(HX7.out.go h HS7.out).cell 4 (.int .i64 cf.strikes) rfl);have HgW:=lj (fun W (h:Below g7 wc W)=>(show g7≤W.heap.size from by have:=h.size; rw [HG7.out] at this; exact this))
  have hk1:wrap64 ((k:Int)+1)=((k+1:Nat):Int):=by rw [IntWalk.wrap64_in _ (by omega)]; omega
  clear hk1
  by_cases hk0:k=0
  ·subst hk0
   rw [if_pos rfl] at HF2
   have HCa:Hid (∀ W,Below g7 wc W→Calls Tryz.prog 11 #[.slice R 0 rc,.string (str AA),.int .i64 cf.strikes] W (FGives AA (cf.strikes:Nat) Lk W)):=lj (fun W h=>by
    have h2:=first_any ((HMa.out.below (h.mono hg5l)).more (Nat.le_trans hg5l (HgW.out W h))) rc (by have:=HLa.out; omega) AA (by omega) (cf.strikes:Nat);have e:Lk.length=0:=HLa.out
    rwa [e] at h2)
   have HCb:Hid (∀ W,Below g7 wc W→Calls Tryz.prog 11 #[.slice A7 1 c7,.string (str AA),.int .i64 cf.strikes] W (FGives AA (cf.strikes:Nat) (Lk ++ [(⟨5,1,0,[111#8,119#8,110#8,101#8,114#8]⟩:Au.M)]) W)):=lj (fun W h=>by
    have e:(Lk ++ [(⟨5,1,0,[111#8,119#8,110#8,101#8,114#8]⟩:Au.M)]).length=1:=by rw [List.length_append,HLa.out]; rfl
    have h2:=first_any ((HMb.out.below h).more (HgW.out W h)) c7 (by rw [e]; omega) AA (by omega) (cf.strikes:Nat)
    rwa [e] at h2)
   go_upto_region 14 with fail
   refine wp_region_held (S:=fun W=>Below g7 wc W) hmix ?_
   change wpAnyH _ _ _ _ _ _ _ _ (World.drew _)
   have hS0:Below g7 wc wc.drew:=(Below.refl _ _).drew;have hS0s:g7≤wc.drew.heap.size:=Nat.le_of_eq HG7.out.symm;refine wpAnyH_take (i:=0) (v:=.slice R ml rc) rfl (by kernel_rfl) (by kernel_rfl) (by kernel_rfl) (fun _ _ _ h=>h) (.inl ⟨by kernel_rfl,fun W hW=>?_⟩) hS0 ?_
   ·go_simp
   refine wpAnyH_take (i:=1) (v:=.int .i64 0) rfl (by kernel_rfl) (by kernel_rfl) (by kernel_rfl) (fun _ _ _ h=>h) (.inl ⟨by kernel_rfl,fun W hW=>?_⟩) hS0 ?_
   ·go_simp
   refine wpAnyH_take (i:=2) (v:=.slice R 0 rc) rfl (by kernel_rfl) (by kernel_rfl) (by kernel_rfl) (fun _ _ _ h=>h) (.inl ⟨by kernel_rfl,fun W hW=>?_⟩) hS0 ?_
   ·go_simp
   refine wpAnyH_take (i:=3) (v:=.string (str AA)) rfl (by kernel_rfl) (by kernel_rfl) (by kernel_rfl) (fun _ _ _ h=>h) (.inl ⟨by kernel_rfl,fun W hW=>?_⟩) hS0 ?_
   ·go_simp
   refine wpAnyH_take (i:=4) (v:=.pointer (some ⟨gm,4,none⟩)) rfl (by kernel_rfl) (by kernel_rfl) (by kernel_rfl) (fun _ _ _ h=>h) (.inl ⟨by kernel_rfl,fun W hW=>?_⟩) hS0 ?_
   ·go_simp
   refine wpAnyH_take (i:=5) (v:=.int .i64 cf.strikes) rfl (by kernel_rfl) (by kernel_rfl) (by kernel_rfl) (fun _ _ _ h=>h) (.inl ⟨by kernel_rfl,fun W hW=>?_⟩) hS0 ?_
   ·have e4:=HE4.out W hW; go_simp
   refine wpAnyH_all (rs:=[6]) (by kernel_rfl) (by simp) ?_;intro z hz;rw [List.mem_singleton.1 hz];clear hz;unfold wpOp
   go_simp
   refine .inl ?_;refine (HCa.out wc.drew hS0).mono ?_;rintro e wd ⟨r,rfl,hfi,hbd⟩;obtain rfl:r = -1:=Au.isFirst_one hfi HF1.out;have hS1:Below g7 wc wd:=hS0.trans (hbd.mono hS0s);have hS1s:g7≤wd.heap.size:=Nat.le_trans hS0s hbd.size;refine ⟨hS1,?_⟩;clear hfi;refine wpAnyH_take (i:=7) (v:=.bool true) rfl (by kernel_rfl) (by kernel_rfl) (by kernel_rfl) (fun _ _ _ h=>h) (.inl ⟨by kernel_rfl,fun W hW=>?_⟩) hS1 ?_
   ·go_simp
   refine wpAnyH_take (i:=8) (v:=.bool true) rfl (by kernel_rfl) (by kernel_rfl) (by kernel_rfl) (fun _ _ _ h=>h) (.inl ⟨by kernel_rfl,fun W hW=>?_⟩) hS1 ?_
   ·go_simp
   refine wpAnyH_take (i:=9) (v:=.slice A7 1 c7) rfl (by kernel_rfl) (by kernel_rfl) (by kernel_rfl) (fun _ _ _ h=>h) (.inl ⟨by kernel_rfl,fun W hW=>?_⟩) hS1 ?_
   ·go_simp
   refine wpAnyH_take (i:=10) (v:=.string (str AA)) rfl (by kernel_rfl) (by kernel_rfl) (by kernel_rfl) (fun _ _ _ h=>h) (.inl ⟨by kernel_rfl,fun W hW=>?_⟩) hS1 ?_
   ·go_simp
   refine wpAnyH_take (i:=11) (v:=.pointer (some ⟨gm,4,none⟩)) rfl (by kernel_rfl) (by kernel_rfl) (by kernel_rfl) (fun _ _ _ h=>h) (.inl ⟨by kernel_rfl,fun W hW=>?_⟩) hS1 ?_
   ·go_simp
   refine wpAnyH_take (i:=12) (v:=.int .i64 cf.strikes) rfl (by kernel_rfl) (by kernel_rfl) (by kernel_rfl) (fun _ _ _ h=>h) (.inl ⟨by kernel_rfl,fun W hW=>?_⟩) hS1 ?_
   ·have e4:=HE4.out W hW; go_simp
   refine wpAnyH_take (i:=14) (v:=.int .i64 (-1)) rfl (by kernel_rfl) (by kernel_rfl) (by kernel_rfl) (fun _ _ _ h=>h) (.inl ⟨by kernel_rfl,fun W hW=>?_⟩) hS1 ?_
   ·go_simp
   refine wpAnyH_all (rs:=[13]) (by kernel_rfl) (by simp) ?_;intro z hz;rw [List.mem_singleton.1 hz];clear hz;unfold wpOp
   go_simp
   refine .inl ?_;refine (HCb.out wd hS1).mono ?_;rintro e we ⟨r,rfl,hfi,hbe⟩;obtain rfl:=Au.isFirst_one hfi HF2.out;have hS2:Below g7 wc we:=hS1.trans (hbe.mono hS1s);refine ⟨hS2,?_⟩;clear hfi;have HB8:=lj (HB7.out.trans (hS2.mono (Nat.le_of_lt HS7.out)));refine wpAnyH_take (i:=15) (v:=.bool true) rfl (by kernel_rfl) (by kernel_rfl) (by kernel_rfl) (fun _ _ _ h=>h) (.inl ⟨by kernel_rfl,fun W hW=>?_⟩) hS2 ?_
   ·go_simp
   refine wpAnyH_take (i:=16) (v:=.bool true) rfl (by kernel_rfl) (by kernel_rfl) (by kernel_rfl) (fun _ _ _ h=>h) (.inl ⟨by kernel_rfl,fun W hW=>?_⟩) hS2 ?_
   ·go_simp
   refine wpAnyH_all (rs:=[17]) (by kernel_rfl) (by simp) ?_;intro z hz;rw [List.mem_singleton.1 hz];clear hz;unfold wpOp
   go_simp
   refine .inl ?_;refine wpAnyH_done (by kernel_rfl) ?_ _
   go_simp
   go_wp2;go_ret;exact ⟨rfl,by rw [HG.out]; exact HB8.out⟩
  ·rw [if_neg hk0] at HF2
   have hdk:decide ((k:Int)=0)=false:=by simp; omega
   have hdk2:((k:Int) == 0)=false:=by simp; omega
   have HCa:Hid (∀ W,Below g7 wc W→Calls Tryz.prog 11 #[.slice R k rc,.string (str AA),.int .i64 cf.strikes] W (FGives AA (cf.strikes:Nat) Lk W)):=lj (fun W h=>by
    have h2:=first_any ((HMa.out.below (h.mono hg5l)).more (Nat.le_trans hg5l (HgW.out W h))) rc (by have:=HLa.out; omega) AA (by omega) (cf.strikes:Nat);have e:Lk.length=k:=HLa.out
    rwa [e] at h2)
   have HCb:Hid (∀ W,Below g7 wc W→Calls Tryz.prog 11 #[.slice A7 (k+1) c7,.string (str AA),.int .i64 cf.strikes] W (FGives AA (cf.strikes:Nat) (Lk ++ [(⟨5,1,0,[111#8,119#8,110#8,101#8,114#8]⟩:Au.M)]) W)):=lj (fun W h=>by
    have e:(Lk ++ [(⟨5,1,0,[111#8,119#8,110#8,101#8,114#8]⟩:Au.M)]).length=(k+1):=by rw [List.length_append,HLa.out]; rfl
    have h2:=first_any ((HMb.out.below h).more (HgW.out W h)) c7 (by rw [e]; omega) AA (by omega) (cf.strikes:Nat)
    rwa [e] at h2)
   go_upto_region 14 with fail
   refine wp_region_held (S:=fun W=>Below g7 wc W) hmix ?_
   change wpAnyH _ _ _ _ _ _ _ _ (World.drew _)
   have hS0:Below g7 wc wc.drew:=(Below.refl _ _).drew;have hS0s:g7≤wc.drew.heap.size:=Nat.le_of_eq HG7.out.symm;refine wpAnyH_take (i:=0) (v:=.slice R ml rc) rfl (by kernel_rfl) (by kernel_rfl) (by kernel_rfl) (fun _ _ _ h=>h) (.inl ⟨by kernel_rfl,fun W hW=>?_⟩) hS0 ?_
   ·go_simp
   refine wpAnyH_take (i:=1) (v:=.int .i64 (k:Nat)) rfl (by kernel_rfl) (by kernel_rfl) (by kernel_rfl) (fun _ _ _ h=>h) (.inl ⟨by kernel_rfl,fun W hW=>?_⟩) hS0 ?_
   ·go_simp
   refine wpAnyH_take (i:=2) (v:=.slice R k rc) rfl (by kernel_rfl) (by kernel_rfl) (by kernel_rfl) (fun _ _ _ h=>h) (.inl ⟨by kernel_rfl,fun W hW=>?_⟩) hS0 ?_
   ·go_simp
   refine wpAnyH_take (i:=3) (v:=.string (str AA)) rfl (by kernel_rfl) (by kernel_rfl) (by kernel_rfl) (fun _ _ _ h=>h) (.inl ⟨by kernel_rfl,fun W hW=>?_⟩) hS0 ?_
   ·go_simp
   refine wpAnyH_take (i:=4) (v:=.pointer (some ⟨gm,4,none⟩)) rfl (by kernel_rfl) (by kernel_rfl) (by kernel_rfl) (fun _ _ _ h=>h) (.inl ⟨by kernel_rfl,fun W hW=>?_⟩) hS0 ?_
   ·go_simp
   refine wpAnyH_take (i:=5) (v:=.int .i64 cf.strikes) rfl (by kernel_rfl) (by kernel_rfl) (by kernel_rfl) (fun _ _ _ h=>h) (.inl ⟨by kernel_rfl,fun W hW=>?_⟩) hS0 ?_
   ·have e4:=HE4.out W hW; go_simp
   refine wpAnyH_all (rs:=[6]) (by kernel_rfl) (by simp) ?_;intro z hz;rw [List.mem_singleton.1 hz];clear hz;unfold wpOp
   go_simp
   refine .inl ?_;refine (HCa.out wc.drew hS0).mono ?_;rintro e wd ⟨r,rfl,hfi,hbd⟩;obtain rfl:r = -1:=Au.isFirst_one hfi HF1.out;have hS1:Below g7 wc wd:=hS0.trans (hbd.mono hS0s);have hS1s:g7≤wd.heap.size:=Nat.le_trans hS0s hbd.size;refine ⟨hS1,?_⟩;clear hfi;refine wpAnyH_take (i:=7) (v:=.bool true) rfl (by kernel_rfl) (by kernel_rfl) (by kernel_rfl) (fun _ _ _ h=>h) (.inl ⟨by kernel_rfl,fun W hW=>?_⟩) hS1 ?_
   ·go_simp
   refine wpAnyH_take (i:=8) (v:=.bool true) rfl (by kernel_rfl) (by kernel_rfl) (by kernel_rfl) (fun _ _ _ h=>h) (.inl ⟨by kernel_rfl,fun W hW=>?_⟩) hS1 ?_
   ·go_simp
   refine wpAnyH_take (i:=9) (v:=.slice A7 (k+1) c7) rfl (by kernel_rfl) (by kernel_rfl) (by kernel_rfl) (fun _ _ _ h=>h) (.inl ⟨by kernel_rfl,fun W hW=>?_⟩) hS1 ?_
   ·go_simp
   refine wpAnyH_take (i:=10) (v:=.string (str AA)) rfl (by kernel_rfl) (by kernel_rfl) (by kernel_rfl) (fun _ _ _ h=>h) (.inl ⟨by kernel_rfl,fun W hW=>?_⟩) hS1 ?_
   ·go_simp
   refine wpAnyH_take (i:=11) (v:=.pointer (some ⟨gm,4,none⟩)) rfl (by kernel_rfl) (by kernel_rfl) (by kernel_rfl) (fun _ _ _ h=>h) (.inl ⟨by kernel_rfl,fun W hW=>?_⟩) hS1 ?_
   ·go_simp
   refine wpAnyH_take (i:=12) (v:=.int .i64 cf.strikes) rfl (by kernel_rfl) (by kernel_rfl) (by kernel_rfl) (fun _ _ _ h=>h) (.inl ⟨by kernel_rfl,fun W hW=>?_⟩) hS1 ?_
   ·have e4:=HE4.out W hW; go_simp
   refine wpAnyH_take (i:=14) (v:=.int .i64 (k:Nat)) rfl (by kernel_rfl) (by kernel_rfl) (by kernel_rfl) (fun _ _ _ h=>h) (.inl ⟨by kernel_rfl,fun W hW=>?_⟩) hS1 ?_
   ·go_simp
   refine wpAnyH_all (rs:=[13]) (by kernel_rfl) (by simp) ?_;intro z hz;rw [List.mem_singleton.1 hz];clear hz;unfold wpOp
   go_simp
   refine .inl ?_;refine (HCb.out wd hS1).mono ?_;rintro e we ⟨r,rfl,hfi,hbe⟩;obtain rfl:=Au.isFirst_one hfi HF2.out;have hS2:Below g7 wc we:=hS1.trans (hbe.mono hS1s);refine ⟨hS2,?_⟩;clear hfi;have HB8:=lj (HB7.out.trans (hS2.mono (Nat.le_of_lt HS7.out)));refine wpAnyH_take (i:=15) (v:=.bool true) rfl (by kernel_rfl) (by kernel_rfl) (by kernel_rfl) (fun _ _ _ h=>h) (.inl ⟨by kernel_rfl,fun W hW=>?_⟩) hS2 ?_
   ·go_simp
   refine wpAnyH_take (i:=16) (v:=.bool true) rfl (by kernel_rfl) (by kernel_rfl) (by kernel_rfl) (fun _ _ _ h=>h) (.inl ⟨by kernel_rfl,fun W hW=>?_⟩) hS2 ?_
   ·go_simp
   refine wpAnyH_all (rs:=[17]) (by kernel_rfl) (by simp) ?_;intro z hz;rw [List.mem_singleton.1 hz];clear hz;unfold wpOp
   go_simp
   refine .inl ?_;refine wpAnyH_done (by kernel_rfl) ?_ _
   go_simp
   go_wp2;go_ret;exact ⟨rfl,by rw [HG.out]; exact HB8.out⟩
theorem w_in:Tryz.checked.prog.inits.idxOf? 5=none:=by kernel_rfl
theorem w_ok (os:Os):Input.okWideB Tryz.prog ((World.doorLaid Tryz.prog 400 os).forCall (fun _ _=>0) ⟨#[],#[.agg #[.int .i64 0,.int .i64 0,.int .i64 0,.int .i64 0,.int .i64 0,.int .i64 0,.int .i64 0,.int .i64 0],.slice none 0 0,.int .i64 0,.int .i64 0],[]⟩) 5 ⟨#[],#[.agg #[.int .i64 0,.int .i64 0,.int .i64 0,.int .i64 0,.int .i64 0,.int .i64 0,.int .i64 0,.int .i64 0],.slice none 0 0,.int .i64 0,.int .i64 0],[]⟩=true:=by kernel_rfl
theorem w_pre (os:Os) (H:Type) (enc:TypeId×Value→H):Rows.auditCutsSpec.preB enc Tryz.prog Tryz.f5 [] false ((World.doorLaid Tryz.prog 400 os).forCall (fun _ _=>0) ⟨#[],#[.agg #[.int .i64 0,.int .i64 0,.int .i64 0,.int .i64 0,.int .i64 0,.int .i64 0,.int .i64 0,.int .i64 0],.slice none 0 0,.int .i64 0,.int .i64 0],[]⟩).memory #[.agg #[.int .i64 0,.int .i64 0,.int .i64 0,.int .i64 0,.int .i64 0,.int .i64 0,.int .i64 0,.int .i64 0],.slice none 0 0,.int .i64 0,.int .i64 0] 8=true:=by kernel_rfl
theorem w_sz (os:Os) (H:Type) (enc:TypeId×Value→H):Rows.auditCutsSpec.sizedB enc Tryz.prog Tryz.f5 false ((World.doorLaid Tryz.prog 400 os).forCall (fun _ _=>0) ⟨#[],#[.agg #[.int .i64 0,.int .i64 0,.int .i64 0,.int .i64 0,.int .i64 0,.int .i64 0,.int .i64 0,.int .i64 0],.slice none 0 0,.int .i64 0,.int .i64 0],[]⟩).memory #[.agg #[.int .i64 0,.int .i64 0,.int .i64 0,.int .i64 0,.int .i64 0,.int .i64 0,.int .i64 0,.int .i64 0],.slice none 0 0,.int .i64 0,.int .i64 0] 8=true:=by kernel_rfl
theorem lifted (os:Os) (started:os.Started) (H:Type) (enc:TypeId×Value→H) :
  ReturnsInHanded {} Tryz.checked os 5 .any (fun w args=>(Rows.auditCutsSpec.pre enc Tryz.prog Tryz.f5 [] false w args∧laidMetH Tryz.prog laidL w)∧sizedMet enc Tryz.prog Tryz.f5 (OpenSpec.ofChange Rows.auditCutsSpec) false w args)
   (Rows.auditCutsSpec.post enc Tryz.prog Tryz.f5 false true false false):=by
 refine returnsInHanded_of_change_and (C:=Tryz.checked) (X:=fun w _=>laidMetH Tryz.prog laidL w) (fun _ _ _ hh h=>h.of_heap hh) own started w_in Tryz.func5
  (ChangeSpec.witness_shaped (enc:=enc) (C:=Tryz.checked) (os:=os) (X:=fun w _=>laidMetH Tryz.prog laidL w) false (World.doorLaid Tryz.prog 400 os) #[.agg #[.int .i64 0,.int .i64 0,.int .i64 0,.int .i64 0,.int .i64 0,.int .i64 0,.int .i64 0,.int .i64 0],.slice none 0 0,.int .i64 0,.int .i64 0] 8 rfl (door_shaped os _) (w_ok os) (w_pre os H enc) (w_sz os H enc) (door_met os _)) ?_
 intro W base args ds gs before hval0 hW hcnd hsz0 hL _;have hti:=ti_of hL
 have hval:∀ (j:Nat) t v,Tryz.f5.params[j]?=some t→args[j]?=some v→Value.okWide Tryz.prog W .any base t v:=hval0
 have hW':=hW;obtain ⟨p,q,hA0,hV,rfl,hfz,hnd⟩:=hW;have hsz:(DataW.weightsEach Tryz.prog (Tryz.f5.params.toList ++ Rows.auditCutsSpec.plain.varTypes Tryz.prog) (ds ++ gs)).all (·≤reachBytes)=true:=hsz0;have hA:DataW.TrodAll enc Tryz.prog W 0 (fun _=>true) true Tryz.f5.params.toList args.toList ds p:=hA0;rw [Tryz.params5] at hA hval hsz;obtain ⟨v0,vs0,d0,ds0,p0,q0,hargs,rfl,rfl,h0,r0⟩:=trodAll_cons hA;obtain ⟨v1,vs1,d1,ds1,p1,q1,rfl,rfl,rfl,h1,r1⟩:=trodAll_cons r0;obtain ⟨v2,vs2,d2,ds2,p2,q2,rfl,rfl,rfl,h2,r2⟩:=trodAll_cons r1;obtain ⟨v3,vs3,d3,ds3,p3,q3,rfl,rfl,rfl,h3,r3⟩:=trodAll_cons r2;obtain ⟨rfl,rfl,rfl⟩:=trodAll_nil r3
 obtain rfl:args = #[v0,v1,v2,v3]:=by cases args; simp_all
 obtain ⟨rfl,rfl⟩:=trodVars_none hV;have k0:=h0
 have lt0:∀ x∈p0,x.block<W.heap.size:=by obtain ⟨m,hm⟩:=k0; exact DataW.trod_lt m _ _ _ hm
 obtain ⟨ca0,cb0,cc0,cd0,ce0,cf0,cg0,ch0,rfl⟩:=open_conf (hval 0 23 v0 rfl rfl) h0;obtain ⟨a1,len1,cap1,rfl⟩:=okWide_slice Tryz.underlying24 (hval 1 24 v1 rfl rfl);have k1:=h1
 have lt1:∀ x∈p1,x.block<W.heap.size:=by obtain ⟨m,hm⟩:=k1; exact DataW.trod_lt m _ _ _ hm
 obtain ⟨K1,I1,R1,A1,L1,C1,T1,w1,g1⟩:∃ K I R A L C T,Ievs W W.heap.size a1 len1 K I R A L C T∧len1≤cap1∧cap1≤maxLen:=by
  obtain ⟨fuel,hf⟩:=h1;exact open_ievs hf (fits_of hsz (j:=1) rfl rfl)
 obtain ⟨a2,rfl,rfl,rfl,w2⟩:=open_int Tryz.underlying3 (hval 2 3 v2 rfl rfl) h2;obtain ⟨a3,rfl,rfl,rfl,w3⟩:=open_int Tryz.underlying3 (hval 3 3 v3 rfl rfl) h3;clear hA0 hval0 hsz hsz0
 refine (walk ca0 cb0 cc0 cd0 ce0 cf0 cg0 ch0 a1 len1 cap1 K1 I1 R1 A1 L1 C1 T1 a2 a3 W w1 g1 w2 w3 hti).mono fun e W' ⟨he,bel⟩=>?_
 subst he;exact ⟨_,rfl,_,_,_,[],_,[],hW',trodAll_mk1 (shut_bool Tryz.underlying4 _),(trodAll_cons_mk (Below.trod laidOut (by kernel_rfl) (of_decide_eq_true (by kernel_rfl)) k0 bel lt0) (trodAll_cons_mk (Below.trod laidOut (by kernel_rfl) (of_decide_eq_true (by kernel_rfl)) k1 bel lt1) (trodAll_cons_mk (shut_int Tryz.underlying3 w2) (trodAll_cons_mk (shut_int Tryz.underlying3 w3) trodAll_mk0)))),rfl,bel.frame _,fun h=>by cases h⟩
theorem q0:(Rows.auditCutsRow.wf (OpenSpec.ofChange Rows.auditCutsSpec))=true:=by kernel_rfl
theorem q3:(Tryz.f5.params.all (Tryz.prog.readableRec ·))=true:=by kernel_rfl
theorem q4:(namedTie Tryz.prog Rows.auditCutsRow.named Rows.auditCutsSpec.vars)=true:=by kernel_rfl
theorem q5:((Rows.auditCutsRow.stops == []))=true:=by kernel_rfl
theorem q7:((Rows.auditCutsRow.knobs == []))=true:=by kernel_rfl
theorem q9:((Rows.auditCutsRow.inPlace == Tryz.prog.inPlace 5))=true:=by kernel_rfl
theorem q10:((Rows.auditCutsRow.unfollowed == Tryz.prog.unfollowed 5))=true:=by kernel_rfl
theorem q11:((Rows.auditCutsRow.recurses == Tryz.prog.recurses 5))=true:=by kernel_rfl
theorem q12:((Rows.auditCutsRow.named == Tryz.prog.varsNamed 5))=true:=by kernel_rfl
theorem q13:((Rows.auditCutsRow.maps == (Tryz.f5.params.toList ++ Rows.auditCutsSpec.plain.varTypes Tryz.prog).any (Tryz.prog.mapsRec ·)))=true:=by kernel_rfl
theorem q14:((Rows.auditCutsRow.ifaces == (Tryz.f5.params.toList ++ Rows.auditCutsSpec.plain.varTypes Tryz.prog).any (Tryz.prog.ifacesRec ·)))=true:=by kernel_rfl
theorem q15:((Rows.auditCutsRow.mapsOut == Tryz.prog.mapsAmong Tryz.f5.resultTypes.toList))=true:=by kernel_rfl
theorem q16:((Rows.auditCutsRow.loops == (Tryz.f5.params.toList ++ Rows.auditCutsSpec.plain.varTypes Tryz.prog).any (Tryz.prog.loopsFrom ·)))=true:=by kernel_rfl
theorem q17:((Rows.auditCutsRow.wideKeys == (Tryz.f5.params.toList ++ Rows.auditCutsSpec.plain.varTypes Tryz.prog ++ Tryz.f5.resultTypes.toList).any (Tryz.prog.wideKeysFrom ·)))=true:=by kernel_rfl
theorem q18:(Rows.auditCutsSpec.vars.all (Tryz.prog.varReadable ·))=true:=by kernel_rfl
theorem q19:(Tryz.f5.resultTypes.all (fun t=>Tryz.prog.readableRec t && decide (t<Tryz.prog.types.size)))=true:=by kernel_rfl
theorem q20:((Rows.auditCutsRow.ifacesOut == Tryz.f5.resultTypes.toList.any (Tryz.prog.ifacesRec ·)))=true:=by kernel_rfl
theorem q21:((Rows.auditCutsRow.loopsOut == Tryz.f5.resultTypes.toList.any (Tryz.prog.loopsFrom ·)))=true:=by kernel_rfl
theorem q22:((Rows.auditCutsRow.plainKeys == Tryz.prog.plainKeys))=true:=(show Rows.auditCutsRow.plainKeys=Rows.auditBrokersRow.plainKeys from rfl) ▸ pq22
theorem q23:(Rows.auditCutsRow.shortTexts.isNone)=true:=by kernel_rfl
theorem q26:((Rows.auditCutsRow.lifted == Tryz.prog.liftsFinal))=true:=(show Rows.auditCutsRow.lifted=Rows.auditBrokersRow.lifted from rfl) ▸ pq26
theorem q27:((Tryz.prog.make == some Rows.auditCutsRow.make))=true:=(show Rows.auditCutsRow.make=Rows.auditBrokersRow.make from rfl) ▸ pq27
theorem q28:kindsAre Tryz.prog Rows.auditCutsRow Tryz.f5=true:=by kernel_rfl
theorem q29:((Rows.auditCutsRow.pinned == Rows.auditCutsRow.pinnedBy))=true:=by kernel_rfl
theorem q30:((Rows.auditCutsRow.veiled == (Tryz.f5.params.toList ++ Rows.auditCutsSpec.plain.varTypes Tryz.prog ++ Tryz.f5.resultTypes.toList).any (Tryz.prog.veiledRec ·)))=true:=by kernel_rfl
theorem q31:(Rows.auditCutsRow.veiledFits Tryz.prog Tryz.f5.params.toList (Tryz.f5.params.toList ++ Rows.auditCutsSpec.plain.varTypes Tryz.prog ++ Tryz.f5.resultTypes.toList))=true:=by kernel_rfl
theorem q_named:Tryz.prog.funcNamed Rows.auditCutsRow.func=some 5:=by kernel_rfl
theorem q_inst:Tryz.f5.isInstance Tryz.prog Rows.auditCutsRow.origin Rows.auditCutsRow.targs:=of_decide_eq_true (by kernel_rfl)
theorem q_wrap:Tryz.f5.isWrapper Tryz.prog Rows.auditCutsRow.wrapper Rows.auditCutsRow.mainSum:=by unfold Func.isWrapper; first | (rw [if_pos (by decide +kernel)]; kernel_rfl) | (rw [if_neg (by decide +kernel)]; exact ⟨rfl,rfl⟩)
theorem q_all:joinedFacts Tryz.prog 5 Tryz.f5 Rows.auditCutsSpec Rows.auditCutsRow=true:=joined_of (P:=Tryz.prog) (f:=5) (fn:=Tryz.f5) (s:=Rows.auditCutsSpec) (c:=Rows.auditCutsRow) q0 pq1 pq2 q3 q4 q5 pq6 q7 pq8 q9 q10 q11 q12 q13 q14 q15 q16 q17 q18 q19 q20 q21 q22 q23 pq24 pq25 q26 q27 q28 q29 q30 q31
theorem over:Rows.AuditCutsSaid:=
 OpenClaim.holds_of_wide 5 Tryz.f5 rfl rfl rfl rfl rfl rfl rfl ⟨rfl,rfl,rfl,rfl,rfl⟩ rfl rfl rfl rfl rfl q_named Tryz.func5 q_all q_inst q_wrap
  (fun os started H enc _=>lifted os started H enc)
theorem c_wf:Rows.auditCutsRow.wfByText (OpenSpec.ofChange Rows.auditCutsSpec)=true:=by kernel_rfl
theorem c_looks:true=Tryz.prog.looks []:=by kernel_rfl
theorem c_stand:([23,24,3,3].all fun u=>!Tryz.prog.wantsStandIn u)=true:=by kernel_rfl
theorem c_goes:false=Rows.auditCutsRow.goesBy Tryz.prog:=by kernel_rfl
end auditCuts
theorem auditCuts_holds:Rows.AuditCutsCardSaid:=
 Claim7.holds_tied_plain_at (c:=Rows.auditCutsRow) .later [] _ true _ true
  auditCuts.over (fun _ h=>by cases h) auditCuts.c_wf (fun _ h=>by cases h) auditCuts_row_tie rfl ⟨rfl,rfl⟩ main_is rfl
  (fun f fn hf hfn=>by
   obtain rfl:f=5:=Option.some.inj (auditCuts.q_named.symm.trans hf) |>.symm
   obtain rfl:fn=Tryz.f5:=(Option.some.inj (Tryz.func5.symm.trans hfn)).symm
   exact ⟨auditCuts.c_looks,fun j t ht=>by
    rw [Tryz.params5] at ht
    have hm:t∈[23,24,3,3]:=by simpa using Array.mem_of_getElem? ht
    exact (show Tryz.prog.wantsStandIn t=false by simpa using List.all_eq_true.1 auditCuts.c_stand t hm)⟩)
  auditCuts.c_goes
#print axioms auditCuts_holds
end Go.Proofs.YtdpagmcickkbmaaGreatDoor
