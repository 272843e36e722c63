/- WholeTiles: for every input the law answers true, and its arguments read as before. Conditions: none. -/
import Derived.Test.YtalichkdeekdcaaGreatDoorZd48
import Derived.Test.YtalichkdeekdcaaGreatDoorZd49
namespace Go.Proofs.YtalichkdeekdcaaGreatDoor
set_option maxRecDepth 100000
open Go.Lib renaming hid → lj
namespace wholeTiles
open Go.ChangeShapes Go.WideShapes Go.ChangeAt Go.RowKit
open Fr Bk
theorem encs_ge:∀ ms:List M,5 * ms.length≤(encs ms).length
 | []=>Nat.zero_le _
 | m :: ms=>by
   have h:=encs_ge ms
   show 5 * (ms.length+1)≤(enc m ++ encs ms).length
   rw [List.length_append,enc_len5];omega
theorem wpOp_value {P:Program} {ops:Array Oper} {Q:Exit→Act→World→Prop} {i:Nat} {o:Oper} {K:Act→World→Prop} {a:Act} {w w':World} {v:Value} (ho:ops[i]?=some o) (hg:o.guard=none)
 (hr:(execOp a.eval o).run P w = .ok (.value v) w') (h:K (a.put o.dst v) w'):wpOp P ops Q i K a w:=by
 unfold wpOp;simp only [ho];rw [if_pos (by simp [Region.wanted,hg])]
 left
 unfold Oper.wp;rw [hr];exact h
set_option maxHeartbeats 8000000 in
theorem walk (ca0 cb0 cc0 cd0 ce0 cf0 cg0 ch0:Int) (a1:Option Addr) (len1 cap1:Nat) (z1:List Int) (a2:Int) (a3:Option Addr) (len3 cap3:Nat) (T3:List Sc.Ev) (w:World)  (w1:IsRow .u8 w a1 len1 cap1 z1) (w2:(Lit.int .i64 a2).wf=true) (w3:EvIn w w.heap.size a3 T3) (g3:T3.length=len3∧len3≤cap3∧cap3≤maxLen) (ht:TI w) :
 Calls Tryz.prog 3 #[.agg (cv ca0 cb0 cc0 cd0 ce0 cf0 cg0 ch0),.slice a1 len1 cap1,.int .i64 a2,.slice a3 len3 cap3] w fun e w'=>e = .returned (.bool true)∧Below w.heap.size w w':=by
 obtain ⟨bs,hbs,_⟩:=IsRow.bytes w1;obtain ⟨hbc,hbm⟩:=IsRow.cap w1;have HA2:=lj w2;clear w1 w2 HA2;have HTI:=lj ht;have HBs0:=lj hbs;have HEV:=lj w3;have hln:T3.length=len3:=g3.1;have hlc:len3≤cap3:=g3.2.1
 have h63:len3≤9223372036854775807:=by have:=g3.2.2; unfold maxLen at this; omega
 have hb63:len1≤9223372036854775807:=by unfold maxLen at hbm; omega
 clear ht w3 g3 hbs
 by_cases hrt:rt ca0 cb0 cc0 cd0 ce0 cf0 cg0 ch0=true
 rotate_left
 · as_aux_lemma =>
  have hrt:rt ca0 cb0 cc0 cd0 ce0 cf0 cg0 ch0=false:=by simpa using hrt
  unfold cv
  go_enter Tryz.func3,Tryz.ntmps3
  have hxm:=Bx.new w _ rfl #[.int .i64 ca0,.int .i64 cb0,.int .i64 cc0,.int .i64 cd0,.int .i64 ce0,.int .i64 cf0,.int .i64 cg0,.int .i64 ch0] 23;have hba:Below w.heap.size w (w.alloc (.cells #[.int .i64 ca0,.int .i64 cb0,.int .i64 cc0,.int .i64 cd0,.int .i64 ce0,.int .i64 cf0,.int .i64 cg0,.int .i64 ch0] 23)):=(Below.refl _ _).alloc (Nat.le_refl _) _
  have hsz:w.heap.size<(w.alloc (.cells #[.int .i64 ca0,.int .i64 cb0,.int .i64 cc0,.int .i64 cd0,.int .i64 ce0,.int .i64 cf0,.int .i64 cg0,.int .i64 ch0] 23)).heap.size:=by simp
  go_wp2_with fail
  generalize w.alloc (.cells #[.int .i64 ca0,.int .i64 cb0,.int .i64 cc0,.int .i64 cd0,.int .i64 ce0,.int .i64 cf0,.int .i64 cg0,.int .i64 ch0] 23)=wa at *
  obtain ⟨gm,hgm⟩:∃ gm,w.heap.size=gm:=⟨_,rfl⟩
  rw [hgm] at hxm hba hsz;have HG:=lj hgm;have hTI:=HTI.out.below (hgm ▸ hba);have HE0:=lj (show EvIn w gm a3 T3 from hgm ▸ HEV.out);rw [hgm];clear hgm HEV;refine (alive_any wa hTI).mono ?_;rintro e w1 ⟨rfl,hb1⟩;have HX1:=lj (hxm.go hb1 hsz);have HB1:=lj (Below.trans hba (hb1.mono (Nat.le_of_lt hsz)));have HT1:=lj (hTI.below hb1);have HS1:=lj (Nat.lt_of_lt_of_le hsz hb1.size);clear hxm hba hb1 hTI hsz;have HF:=lj (tfew_any a3 len3 cap3 T3 w1 ((HE0.out.below HB1.out).more (Nat.le_of_lt HS1.out)) hln h63)
  go_wp2_with fail
  refine HF.out.mono ?_;rintro e w2 ⟨f,rfl,hyes,hb2⟩;have HX2:=lj (HX1.out.go hb2 HS1.out);have HB2:=lj (Below.trans HB1.out (hb2.mono (Nat.le_of_lt HS1.out)));have HT2:=lj (HT1.out.below hb2);have HS2:=lj (Nat.lt_of_lt_of_le HS1.out hb2.size);clear hb2 HX1 HB1 HT1 HS1 HF
  rcases f with _ | _
  · go_wp2
    go_ret;exact ⟨rfl,by rw [HG.out]; exact HB2.out⟩
  have z0:=HX2.out.cell 0 (.int .i64 ca0) rfl;have z1:=HX2.out.cell 1 (.int .i64 cb0) rfl;have z2:=HX2.out.cell 2 (.int .i64 cc0) rfl;have z3:=HX2.out.cell 3 (.int .i64 cd0) rfl;have z4:=HX2.out.cell 4 (.int .i64 ce0) rfl;have z5:=HX2.out.cell 5 (.int .i64 cf0) rfl;have z6:=HX2.out.cell 6 (.int .i64 cg0) rfl;have z7:=HX2.out.cell 7 (.int .i64 ch0) rfl
  go_wp2_with fail
  refine (cright_any ca0 cb0 cc0 cd0 ce0 cf0 cg0 ch0 w2).mono ?_;rintro e w3 ⟨rfl,hb3⟩;rw [hrt];have HB3:=lj (Below.trans HB2.out (hb3.mono (Nat.le_of_lt HS2.out)));go_wp2;go_ret;exact ⟨rfl,by rw [HG.out]; exact HB3.out⟩
 obtain ⟨cf,hcf,hev0,rfl,rfl,rfl,rfl,rfl,rfl,rfl,rfl⟩:=rt_cf hrt;have HC:=lj (And.intro hcf hev0);clear hcf hev0;unfold cv
 go_enter Tryz.func3,Tryz.ntmps3
 have hxm:=Bx.new w _ rfl #[.int .i64 cf.log,.int .i64 cf.data,.int .i64 cf.queue,.int .i64 cf.input,.int .i64 cf.strikes,.int .i64 cf.lease,.int .i64 cf.idle,.int .i64 cf.width] 23;have hba:Below w.heap.size w (w.alloc (.cells #[.int .i64 cf.log,.int .i64 cf.data,.int .i64 cf.queue,.int .i64 cf.input,.int .i64 cf.strikes,.int .i64 cf.lease,.int .i64 cf.idle,.int .i64 cf.width] 23)):=(Below.refl _ _).alloc (Nat.le_refl _) _
 have hsz:w.heap.size<(w.alloc (.cells #[.int .i64 cf.log,.int .i64 cf.data,.int .i64 cf.queue,.int .i64 cf.input,.int .i64 cf.strikes,.int .i64 cf.lease,.int .i64 cf.idle,.int .i64 cf.width] 23)).heap.size:=by simp
 go_wp2_with fail
 generalize w.alloc (.cells #[.int .i64 cf.log,.int .i64 cf.data,.int .i64 cf.queue,.int .i64 cf.input,.int .i64 cf.strikes,.int .i64 cf.lease,.int .i64 cf.idle,.int .i64 cf.width] 23)=wa at *
 obtain ⟨gm,hgm⟩:∃ gm,w.heap.size=gm:=⟨_,rfl⟩
 rw [hgm] at hxm hba hsz;have HG:=lj hgm;have hTI:=HTI.out.below (hgm ▸ hba);have HE0:=lj (show EvIn w gm a3 T3 from hgm ▸ HEV.out);rw [hgm];clear hgm HEV;refine (alive_any wa hTI).mono ?_;rintro e w1 ⟨rfl,hb1⟩;have HX1:=lj (hxm.go hb1 hsz);have HB1:=lj (Below.trans hba (hb1.mono (Nat.le_of_lt hsz)));have HT1:=lj (hTI.below hb1);have HS1:=lj (Nat.lt_of_lt_of_le hsz hb1.size);clear hxm hba hb1 hTI hsz;have HF:=lj (tfew_any a3 len3 cap3 T3 w1 ((HE0.out.below HB1.out).more (Nat.le_of_lt HS1.out)) hln h63)
 go_wp2_with fail
 refine HF.out.mono ?_;rintro e w2 ⟨f,rfl,hyes,hb2⟩;have HX2:=lj (HX1.out.go hb2 HS1.out);have HB2:=lj (Below.trans HB1.out (hb2.mono (Nat.le_of_lt HS1.out)));have HT2:=lj (HT1.out.below hb2);have HS2:=lj (Nat.lt_of_lt_of_le HS1.out hb2.size);clear hb2 HX1 HB1 HT1 HS1 HF
 rcases f with _ | _
 · go_wp2
   go_ret;exact ⟨rfl,by rw [HG.out]; exact HB2.out⟩
 have z0:=HX2.out.cell 0 (.int .i64 cf.log) rfl;have z1:=HX2.out.cell 1 (.int .i64 cf.data) rfl;have z2:=HX2.out.cell 2 (.int .i64 cf.queue) rfl;have z3:=HX2.out.cell 3 (.int .i64 cf.input) rfl;have z4:=HX2.out.cell 4 (.int .i64 cf.strikes) rfl;have z5:=HX2.out.cell 5 (.int .i64 cf.lease) rfl;have z6:=HX2.out.cell 6 (.int .i64 cf.idle) rfl;have z7:=HX2.out.cell 7 (.int .i64 cf.width) rfl;obtain ⟨hev,h120,h6⟩:=hyes rfl;have HRt:=lj hev;have H6:=lj h6;clear hyes hev h6
 go_wp2_with fail
 refine (cright_any ((cf.log:Nat)) ((cf.data:Nat)) ((cf.queue:Nat)) ((cf.input:Nat)) ((cf.strikes:Nat)) ((cf.lease:Nat)) ((cf.idle:Nat)) ((cf.width:Nat)) w2).mono ?_;rintro e w3 ⟨rfl,hb3⟩;rw [hrt];have HX3:=lj (HX2.out.go hb3 HS2.out);have HB3:=lj (Below.trans HB2.out (hb3.mono (Nat.le_of_lt HS2.out)));have HT3:=lj (HT2.out.below hb3);have HS3:=lj (Nat.lt_of_lt_of_le HS2.out hb3.size);have HTS:=lj (show tsum T3≤1000000 by have:=tsum_le T3; omega);have HLN:=lj hln;clear hb3 HX2 HB2 HT2 HS2 h63 z0 z1 z2 z3 z4 z5 z6 z7
 have HBs3:=lj (show Bytes w3 gm a1 len1 bs from by
  have h:=HBs0.out;rw [HG.out] at h
  exact h.below HB3.out)
 by_cases h1000:len1≤1000
 rotate_left
 · have dj:decide ((len1:Int) > 1000)=true:=by simp; omega
   have dj2:decide ((1000:Int)<(len1:Int))=true:=by simp; omega
   go_wp2;go_ret;exact ⟨rfl,by rw [HG.out]; exact HB3.out⟩
 have dj:decide ((len1:Int) > 1000)=false:=by simp; omega
 have dj2:decide ((1000:Int)<(len1:Int))=false:=by simp; omega
 obtain ⟨bk,hbk,hba⟩:=bits_any a2 4095 (by decide);have hand:bits .and .i64 a2 4095=(bk:Int):=hba;have f6:=HX3.out.free 6;have c6:=HX3.out.cell 6 (.int .i64 cf.idle) rfl;have hx5:=HX3.out.set 6 (.int .i64 0);have hb5:=HB3.out.setCell (p:=⟨gm,6,none⟩) (Nat.le_refl gm) (.int .i64 0);have HX5:=lj (show Bx gm (w3.setCell ⟨gm,6,none⟩ (.int .i64 0)) #[.int .i64 cf.log,.int .i64 cf.data,.int .i64 cf.queue,.int .i64 cf.input,.int .i64 cf.strikes,.int .i64 cf.lease,.int .i64 0,.int .i64 cf.width] from hx5);have HB5:=lj hb5
 have HBs0':=lj (show Bytes w gm a1 len1 bs from by
  have h:=HBs0.out;rw [HG.out] at h
  exact h)
 clear hx5 hb5 hba HX3 HB3 HBs0 HBs3
 go_upto_region 7 with fail
 generalize w3.setCell ⟨gm,6,none⟩ (.int .i64 0)=w5 at *;clear f6 c6 dj dj2 hand HS3 HT3
 have HBs:=lj (show Bytes w5 gm a1 len1 bs from by
  have h:=HBs0'.out
  exact h.below HB5.out)
 have hbl:bs.length=len1:=HBs.out.1;have hgw:gm<w5.heap.size:=HX5.out.room
 obtain ⟨N,hN⟩:∃ N,w5.heap.size=N:=⟨_,rfl⟩
 have HN:=lj hN
 have hgN:gm<N:=by omega
 have hmix:Tryz.prog.follows .mixedOrders=true:=by kernel_rfl
 have HCo:=lj (fun W=>comes_any 1 false (bk:Int) (by omega) (by omega) W)
 have HOne:=lj (show ∀ W:World,N≤W.heap.size→EvRow N (W.alloc (.cells #[.int .i64 3,.int .i64 0,.int .i64 0,.string (str bs)] 30)) (some ⟨W.heap.size,0,none⟩) 1 1 [outE bs] from fun W hW=>evrow_new W hW [outE bs] #[.int .i64 3,.int .i64 0,.int .i64 0,.string (str bs)] rfl (show 1≤1000000 by decide) (fun e he=>by
  rw [List.mem_singleton.1 he]
  show bs.length≤maxLen
  unfold maxLen
  omega))
 go_cut [9] (fun s9 wx=>∃ A c,s9 = .slice A 3 c∧EvRow N wx A 3 c (viewHd bs (bk:Int))∧Below N w5 wx)
 case first =>
  go_wp2_with fail
  refine wp_region_held (S:=fun W=>Bytes W gm a1 len1 bs) hmix ?_
  change wpAnyH _ _ _ _ _ _ _ _ (World.drew _)
  have HY:=lj (show Bytes w5.drew gm a1 len1 bs from HBs.out.below (below_drew (Below.refl gm w5)));have HB:=lj (show Below N w5 w5.drew from below_drew (Below.refl N w5));have HZ:=lj (show N≤w5.drew.heap.size from by have:=HB.out.size; omega);generalize w5.drew=wd at *;refine wpAnyH_take (i:=0) (v:=.slice a1 len1 cap1) rfl (by kernel_rfl) (by kernel_rfl) (by kernel_rfl) (fun _ _ _ h=>h) (.inl ⟨by kernel_rfl,fun W hW=>?_⟩) HY.out ?_
  · go_simp; try (first | rfl | omega | (intro hh; exfalso; omega))
  refine wpAnyH_take (i:=1) (v:=.string (str bs)) rfl (by kernel_rfl) (by kernel_rfl) (by kernel_rfl) (fun _ _ _ h=>h) (.inl ⟨by kernel_rfl,fun W hW=>?_⟩) HY.out ?_
  · have hcv:=conv_str (cap:=cap1) hW; go_simp; try (first | rfl | omega | (intro hh; exfalso; omega))
  refine wpAnyH_take (i:=2) (v:=.agg #[.int .i64 3,.int .i64 0,.int .i64 0,.string (str bs)]) rfl (by kernel_rfl) (by kernel_rfl) (by kernel_rfl) (fun _ _ _ h=>h) (.inl ⟨by kernel_rfl,fun W hW=>?_⟩) HY.out ?_
  · go_simp; try (first | rfl | omega | (intro hh; exfalso; omega))
  refine wpAnyH_take (i:=4) (v:=.int .i64 (bk:Nat)) rfl (by kernel_rfl) (by kernel_rfl) (by kernel_rfl) (fun _ _ _ h=>h) (.inl ⟨by kernel_rfl,fun W hW=>?_⟩) HY.out ?_
  · go_simp; try (first | rfl | omega | (intro hh; exfalso; omega))
  refine wpAnyH_all (rs:=[3,5]) (by kernel_rfl) (by simp) ?_;intro z hz;simp only [List.mem_cons,List.not_mem_nil,or_false] at hz
  rcases hz with rfl | rfl
  · skip
    unfold wpOp
    go_simp
    have hb:Below wd.heap.size wd (wd.alloc (.cells #[.int .i64 3,.int .i64 0,.int .i64 0,.string (str bs)] 30)):=(Below.refl _ _).alloc (Nat.le_refl _) _;have HR:=lj (HOne.out wd HZ.out);have HY:=lj (HY.out.below (hb.mono (by have:=HZ.out; omega)));have HB:=lj (HB.out.trans (hb.mono HZ.out));have HZ:=lj (Nat.le_trans HZ.out hb.size);clear hb;refine .inl ⟨HY.out,?_⟩;generalize wd.alloc (.cells #[.int .i64 3,.int .i64 0,.int .i64 0,.string (str bs)] 30)=wb at *;refine wpAnyH_all (rs:=[5]) (by kernel_rfl) (by simp) ?_;intro z hz;simp only [List.mem_cons,List.not_mem_nil,or_false] at hz;subst hz;unfold wpOp
    go_simp
    refine .inl ?_;refine (HCo.out wb).mono ?_;rintro r wc ⟨A3,c3,rfl,hr3,hb⟩;have HY:=lj (HY.out.below (hb.mono (by have:=HZ.out; omega)));have HB:=lj (HB.out.trans (hb.mono HZ.out));have HR3:=lj (show EvIn wc wc.heap.size A3 (comesL 1 false (bk:Int)) from hr3.evin);have HR:=lj (HR.out.below hb);have HZ:=lj (Nat.le_trans HZ.out hb.size);clear hb hr3;refine ⟨HY.out,?_⟩;obtain ⟨A5,c5,we,hrun,hr5,hb5⟩:=run_eapp 25 HR.out (m:=2) (c2:=c3) HR3.out rfl (by omega) HZ.out;have HY:=lj (HY.out.below (hb5.mono (by omega)));refine wpAnyH_all (rs:=[6]) (by kernel_rfl) (by simp) ?_;intro z hz;simp only [List.mem_cons,List.not_mem_nil,or_false] at hz;subst hz;refine wpOp_value rfl rfl (exec_append (s:=.tmp 41) (x:=.tmp 43) (st:=25) rfl rfl rfl hrun) ⟨HY.out,?_⟩;clear hrun;refine wpAnyH_all (rs:=[7]) (by kernel_rfl) (by simp) ?_;intro z hz;simp only [List.mem_cons,List.not_mem_nil,or_false] at hz;subst hz;unfold wpOp
    go_simp
    refine .inl ⟨HY.out,?_⟩;refine wpAnyH_done (by kernel_rfl) ?_ _
    go_simp
    go_wp2_with fail
    go_meet
    exact ⟨A5,c5,rfl,hr5,HB.out.trans hb5⟩
  · skip
    unfold wpOp
    go_simp
    refine .inl ?_;refine (HCo.out wd).mono ?_;rintro r wb ⟨A3,c3,rfl,hr3,hb⟩;have HY:=lj (HY.out.below (hb.mono (by have:=HZ.out; omega)));have HB:=lj (HB.out.trans (hb.mono HZ.out));have HR3:=lj (show EvIn wb wb.heap.size A3 (comesL 1 false (bk:Int)) from hr3.evin);have HZ:=lj (Nat.le_trans HZ.out hb.size);clear hb hr3;refine ⟨HY.out,?_⟩;refine wpAnyH_all (rs:=[3]) (by kernel_rfl) (by simp) ?_;intro z hz;simp only [List.mem_cons,List.not_mem_nil,or_false] at hz;subst hz;have HR3:=lj (show EvIn (wb.alloc (.cells #[.int .i64 3,.int .i64 0,.int .i64 0,.string (str bs)] 30)) (wb.alloc (.cells #[.int .i64 3,.int .i64 0,.int .i64 0,.string (str bs)] 30)).heap.size A3 (comesL 1 false (bk:Int)) from (HR3.out.below ((Below.refl _ _).alloc (Nat.le_refl _) _)).more (by simp));unfold wpOp
    go_simp
    have hb:Below wb.heap.size wb (wb.alloc (.cells #[.int .i64 3,.int .i64 0,.int .i64 0,.string (str bs)] 30)):=(Below.refl _ _).alloc (Nat.le_refl _) _;have HR:=lj (HOne.out wb HZ.out);have HY:=lj (HY.out.below (hb.mono (by have:=HZ.out; omega)));have HB:=lj (HB.out.trans (hb.mono HZ.out));have HZ:=lj (Nat.le_trans HZ.out hb.size);clear hb;refine .inl ⟨HY.out,?_⟩;generalize wb.alloc (.cells #[.int .i64 3,.int .i64 0,.int .i64 0,.string (str bs)] 30)=wc at *;obtain ⟨A5,c5,we,hrun,hr5,hb5⟩:=run_eapp 25 HR.out (m:=2) (c2:=c3) HR3.out rfl (by omega) HZ.out;have HY:=lj (HY.out.below (hb5.mono (by omega)));refine wpAnyH_all (rs:=[6]) (by kernel_rfl) (by simp) ?_;intro z hz;simp only [List.mem_cons,List.not_mem_nil,or_false] at hz;subst hz;refine wpOp_value rfl rfl (exec_append (s:=.tmp 41) (x:=.tmp 43) (st:=25) rfl rfl rfl hrun) ⟨HY.out,?_⟩;clear hrun;refine wpAnyH_all (rs:=[7]) (by kernel_rfl) (by simp) ?_;intro z hz;simp only [List.mem_cons,List.not_mem_nil,or_false] at hz;subst hz;unfold wpOp
    go_simp
    refine .inl ⟨HY.out,?_⟩;refine wpAnyH_done (by kernel_rfl) ?_ _
    go_simp
    go_wp2_with fail
    go_meet
    exact ⟨A5,c5,rfl,hr5,HB.out.trans hb5⟩
 case rest =>
  obtain ⟨A5,c5,rfl,hr5,hb5⟩:=hcut;have HR6:=lj (show EvRow N wc A5 (3+0) c5 (viewHd bs (bk:Int) ++ viewL (T3.take 0)) from by rw [show viewL (T3.take 0)=[] from rfl,List.append_nil]; exact hr5);have HB6:=lj hb5;clear hr5 hb5 HCo HOne HBs HBs0'
  go_wp2_with fail
  go_loopw [9,47] (fun s9 s47 wr=>∃ (j k c:Nat) (A:Option Addr),s9 = .slice A (3+k) c∧s47 = .int .i64 (j:Nat)∧j≤len3∧EvRow N wr A (3+k) c (viewHd bs (bk:Int) ++ viewL (T3.take j))∧Below N w5 wr) (fun _ s _=>len3 - (intOf s).toNat)
  case atStart=>exact ⟨0,0,c5,A5,rfl,rfl,Nat.zero_le _,HR6.out,HB6.out⟩
  case round =>
   obtain ⟨j,k,c,A,rfl,rfl,hj,hr,hb⟩:=hrel;have HR:=lj hr;have HB:=lj hb
   have hkl:(viewL (T3.take j)).length=k:=by have h:=hr.len; rw [List.length_append] at h; replace h:3+_=3+k:=h; omega
   have hk120:k≤120:=by have h1:=view_len (T3.take j); rw [List.length_take] at h1; omega
   have hNr:N≤wr.heap.size:=by have:=hb.size; have:=HN.out; omega
   clear hr hb HR6 HB6
   by_cases hjl:j<len3
   · have dk:decide ((j:Int)<(len3:Int))=true:=decide_eq_true (by omega)
     obtain ⟨e,he⟩:∃ e,T3[j]?=some e:=⟨_,List.getElem?_eq_getElem (by omega)⟩
     have HNx:=lj (view_next T3 j e he)
     have HEN:=lj (show e.t.length≤maxLen from by
      have:=(Sc.rtE_in (HRt.out e (List.mem_of_getElem? he))).2.2.2.2.2.2;unfold maxLen
      omega)
     obtain ⟨bl,ol,rfl,hltl,hcl⟩:=(HE0.out.below (HB5.out.trans (HB.out.mono (show gm≤N by omega)))).outer (by omega);obtain ⟨v0,v1,v2,v3⟩:=hcl j e he;have hba:Below wr.heap.size wr (wr.alloc (.cells #[.int .i64 e.k,.int .i64 e.i,.int .i64 e.n,.string (str e.t)] 30)):=(Below.refl _ _).alloc (Nat.le_refl _) _;have HE:=lj (Bx.new wr wr.heap.size rfl #[.int .i64 e.k,.int .i64 e.i,.int .i64 e.n,.string (str e.t)] 30);have HR7:=lj (HR.out.below hba);have HB7:=lj (HB.out.trans (hba.mono hNr))
     have hN7:N≤(wr.alloc (.cells #[.int .i64 e.k,.int .i64 e.i,.int .i64 e.n,.string (str e.t)] 30)).heap.size:=by simp; omega
     clear hcl he hba HR HB
     go_upto_region 11 with fail
     generalize wr.alloc (.cells #[.int .i64 e.k,.int .i64 e.i,.int .i64 e.n,.string (str e.t)] 30)=w7 at *;clear v0 v1 v2 v3;obtain ⟨m0,m1,m2,m3⟩:=HE.out.ev
     by_cases hk3:e.k=3
     · have d3:(e.k == 3)=true:=by simp [hk3]
       have hiv:isView e=true:=by unfold isView; rw [hk3]; rfl
       clear hk3;have HNo:=lj (show viewHd bs (bk:Int) ++ viewL (T3.take (j+1))=(viewHd bs (bk:Int) ++ viewL (T3.take j)) ++ [e] from by rw [HNx.out,if_pos hiv,List.append_assoc]);clear hiv;have hba:Below w7.heap.size w7 (w7.alloc (.cells #[.int .i64 e.k,.int .i64 e.i,.int .i64 e.n,.string (str e.t)] 30)):=(Below.refl _ _).alloc (Nat.le_refl _) _;have HR8:=lj (HR7.out.below hba);have HN8:=lj (ev_one w7 e HEN.out 30);have HB8:=lj (HB7.out.trans (hba.mono hN7))
       have hz8:N≤(w7.alloc (.cells #[.int .i64 e.k,.int .i64 e.i,.int .i64 e.n,.string (str e.t)] 30)).heap.size:=by simp; omega
       clear hba
       go_wp2_with (first
        | (at_builtin
           refine wpList_eapp rfl (.tmp 64) (.tmp 66) rfl rfl HR8.out rfl HN8.out rfl (by omega) hz8 ?_;intro A2 c2 wz hr2 hb2;have HR9:=lj (show EvRow N wz A2 (3+(k+1)) c2 (viewHd bs (bk:Int) ++ viewL (T3.take (j+1))) by rw [HNo.out]; exact hr2);have HB9:=lj (HB8.out.trans hb2)
           clear hr2 hb2))
       go_roundw
       case rel=>exact ⟨j+1,k+1,c2,A2,rfl,by go_num,by omega,HR9.out,HB9.out⟩
       case measure=>simp [intOf]; omega
     have d3:(e.k == 3)=false:=by simpa using hk3
     by_cases hk2:e.k=2
     · have d2:(e.k == 2)=true:=by simp [hk2]
       by_cases hi1:e.i=1
       · have di:(e.i == 1)=true:=by simp [hi1]
         have hiv:isView e=true:=by unfold isView; rw [hk2,hi1]; rfl
         clear hk2 hi1;have HNo:=lj (show viewHd bs (bk:Int) ++ viewL (T3.take (j+1))=(viewHd bs (bk:Int) ++ viewL (T3.take j)) ++ [e] from by rw [HNx.out,if_pos hiv,List.append_assoc]);clear hiv;have hba:Below w7.heap.size w7 (w7.alloc (.cells #[.int .i64 e.k,.int .i64 e.i,.int .i64 e.n,.string (str e.t)] 30)):=(Below.refl _ _).alloc (Nat.le_refl _) _;have HR8:=lj (HR7.out.below hba);have HN8:=lj (ev_one w7 e HEN.out 30);have HB8:=lj (HB7.out.trans (hba.mono hN7))
         have hz8:N≤(w7.alloc (.cells #[.int .i64 e.k,.int .i64 e.i,.int .i64 e.n,.string (str e.t)] 30)).heap.size:=by simp; omega
         clear hba
         go_wp2_with (first
          | (at_builtin
             refine wpList_eapp rfl (.tmp 64) (.tmp 66) rfl rfl HR8.out rfl HN8.out rfl (by omega) hz8 ?_;intro A2 c2 wz hr2 hb2;have HR9:=lj (show EvRow N wz A2 (3+(k+1)) c2 (viewHd bs (bk:Int) ++ viewL (T3.take (j+1))) by rw [HNo.out]; exact hr2);have HB9:=lj (HB8.out.trans hb2)
             clear hr2 hb2))
         go_roundw
         case rel=>exact ⟨j+1,k+1,c2,A2,rfl,by go_num,by omega,HR9.out,HB9.out⟩
         case measure=>simp [intOf]; omega
       have di:(e.i == 1)=false:=by simpa using hi1
       have hiv:isView e=false:=by unfold isView; rw [d3,d2,di]; rfl
       clear hk2;have HNo:=lj (show viewL (T3.take (j+1))=viewL (T3.take j) from by rw [HNx.out,if_neg (by rw [hiv]; decide)]; exact List.append_nil _);clear hiv
       go_wp2_with fail
       go_roundw
       case rel=>exact ⟨j+1,k,c,A,rfl,by go_num,by omega,by rw [HNo.out]; exact HR7.out,HB7.out⟩
       case measure=>simp [intOf]; omega
     have d2:(e.k == 2)=false:=by simpa using hk2
     have hiv:isView e=false:=by unfold isView; rw [d3,d2]; rfl
     have HNo:=lj (show viewL (T3.take (j+1))=viewL (T3.take j) from by rw [HNx.out,if_neg (by rw [hiv]; decide)]; exact List.append_nil _);clear hiv
     go_wp2_with fail
     go_roundw
     case rel=>exact ⟨j+1,k,c,A,rfl,by go_num,by omega,by rw [HNo.out]; exact HR7.out,HB7.out⟩
     case measure=>simp [intOf]; omega
   obtain rfl:j=len3:=by omega
   have dk:decide ((j:Int)<(j:Int))=false:=by simp
   rw [show T3.take j=T3 from List.take_of_length_le (by omega)] at HR hkl;clear HE0;have HR':=lj (show EvRow N wr A (3+k+0) c ((viewHd bs (bk:Int) ++ viewL T3) ++ wrL 3000 0) from by rw [show wrL 3000 0=[] from rfl,List.append_nil]; exact HR.out);clear HR
   go_wp2_with fail
   go_loopw [9,12] (fun s9 s12 wr=>∃ (i c:Nat) (A:Option Addr),s9 = .slice A (3+k+i) c∧s12 = .int .i64 (i:Nat)∧i≤40∧EvRow N wr A (3+k+i) c ((viewHd bs (bk:Int) ++ viewL T3) ++ wrL 3000 i)∧Below N w5 wr) (fun _ s _=>40 - (intOf s).toNat)
   case atStart=>exact ⟨0,c,A,rfl,rfl,Nat.zero_le _,HR'.out,HB.out⟩
   case round =>
    obtain ⟨i,c,A,rfl,rfl,hi,hr,hb⟩:=hrel;have HR:=lj hr;have HB2:=lj hb
    have hNr:N≤wr.heap.size:=by have:=hb.size; have:=HN.out; omega
    clear hr hb HR' HB
    by_cases hil:i<40
    · have dk:decide ((i:Int)<40)=true:=decide_eq_true (by omega)
      have hba:Below wr.heap.size wr (wr.alloc (.cells #[.int .i64 2,.int .i64 1,.int .i64 3000,.string ⟨#[]⟩] 30)):=(Below.refl _ _).alloc (Nat.le_refl _) _;have HR8:=lj (HR.out.below hba);have HN8:=lj (show EvIn (wr.alloc (.cells #[.int .i64 2,.int .i64 1,.int .i64 3000,.string ⟨#[]⟩] 30)) (wr.heap.size+1) (some ⟨wr.heap.size,0,none⟩) [wrE 3000] from ev_one wr (wrE 3000) (Nat.zero_le _) 30);have HB8:=lj (HB2.out.trans (hba.mono hNr))
      have hz8:N≤(wr.alloc (.cells #[.int .i64 2,.int .i64 1,.int .i64 3000,.string ⟨#[]⟩] 30)).heap.size:=by simp; omega
      clear hba HR HB2
      go_wp2_with (first
       | (at_builtin
          refine wpList_eapp rfl (.tmp 73) (.tmp 75) rfl rfl HR8.out rfl HN8.out rfl (by omega) hz8 ?_;intro A2 c2 wz hr2 hb2;have HR9:=lj (show EvRow N wz A2 (3+k+(i+1)) c2 ((viewHd bs (bk:Int) ++ viewL T3) ++ wrL 3000 (i+1)) by rw [wrL_next,← List.append_assoc]; exact hr2);have HB9:=lj (HB8.out.trans hb2)
          clear hr2 hb2))
      go_roundw
      case rel=>exact ⟨i+1,c2,A2,rfl,by go_num,by omega,HR9.out,HB9.out⟩
      case measure=>simp [intOf]; omega
    obtain rfl:i=40:=by omega
    have dk:decide (((40:Nat):Int)<40)=false:=by decide
    obtain ⟨g1,g2,g3,g4,g5,g6,g7⟩:=tiles_list (t:=bs) (by omega) (back:=(bk:Int)) (by omega) (by omega) HRt.out h120 H6.out
    obtain ⟨E,hE⟩:∃ E,(viewHd bs (bk:Int) ++ viewL T3) ++ wrL 3000 40=E:=⟨_,rfl⟩
    rw [hE] at g1 g2 g3 g4 g5 HR;rw [hkl] at g2;have HGs:=lj (And.intro g1 (And.intro g3 (And.intro g4 (And.intro g6 g7))));have HEq:=lj g5
    have hel:E.length=3+k+40:=by omega
    have HCF:=lj (cf0_ok HC.out.1);have HXr:=lj (HX5.out.go HB2.out hgN);have HBr:=lj (HB5.out.trans (HB2.out.mono (show gm≤N by omega)))
    have hgr:gm<wr.heap.size:=by omega
    clear g1 g2 g3 g4 g5 g6 g7 hE HX5 HB5 HB2 HRt;have z0:=HXr.out.cell 0 (.int .i64 cf.log) rfl;have z1:=HXr.out.cell 1 (.int .i64 cf.data) rfl;have z2:=HXr.out.cell 2 (.int .i64 cf.queue) rfl;have z3:=HXr.out.cell 3 (.int .i64 cf.input) rfl;have z4:=HXr.out.cell 4 (.int .i64 cf.strikes) rfl;have z5:=HXr.out.cell 5 (.int .i64 cf.lease) rfl;have z6:=HXr.out.cell 6 (.int .i64 0) rfl;have z7:=HXr.out.cell 7 (.int .i64 cf.width) rfl;have HPl:=lj (show Calls Tryz.prog 16 #[.agg #[.int .i64 cf.log,.int .i64 cf.data,.int .i64 cf.queue,.int .i64 cf.input,.int .i64 cf.strikes,.int .i64 cf.lease,.int .i64 0,.int .i64 cf.width],.slice A (3+k+40) c] wr (PLGives (cf0 cf) E wr) from played_any HCF.out.1 HCF.out.2 E HGs.out.1 (by omega) HGs.out.2.1 HGs.out.2.2.1 A (3+k+40) c wr (HTI.out.below (by rw [HG.out]; exact HBr.out)) HR.out.evin hel)
    go_wp2_with fail
    refine HPl.out.mono ?_;rintro r w9 ⟨g,n0,ao,co,rfl,hn0,_,hrow,_,hb9⟩;rw [hel] at hrow ⊢;have HX9:=lj (HXr.out.go hb9 hgr);have HB9:=lj (HBr.out.trans (hb9.mono (Nat.le_of_lt hgr)));have HE9:=lj ((HR.out.evin.below hb9).more hb9.size);have HO9:=lj (show OtIn w9 w9.heap.size ao (pouts (bnew (cf0 cf)) E) from hrow.otin);have hg9:gm<w9.heap.size:=Nat.lt_of_lt_of_le hgr hb9.size;have HOt:=lj (pouts_t E (bnew (cf0 cf)));have hol:=pouts_len E (bnew (cf0 cf));rw [hel] at hol;clear hrow hb9 HPl hn0 HXr HBr HR z0 z1 z2 z3 z4 z5 z6 z7;have HWr:=lj (twritten_any 1 (cap:=c) (cap2:=co) w9 HE9.out hel HO9.out hol (by omega) HOt.out)
    go_wp2_with fail
    refine HWr.out.mono ?_;rintro r wa ⟨R,rc,ms,rest,rfl,hms,hrow,hba⟩;have HMs:=lj hms;have HRow:=lj hrow;have HXa:=lj (HX9.out.go hba hg9);have HBa:=lj (HB9.out.trans (hba.mono (Nat.le_of_lt hg9)));have HEa:=lj ((HE9.out.below hba).more hba.size);have HOa:=lj (ot_more (HO9.out.below hba) hba.size);have hga:gm<wa.heap.size:=Nat.lt_of_lt_of_le hg9 hba.size;clear hms hrow hba HWr HX9 HB9 HE9 HO9;have HOu:=lj (toutput_any (cap:=c) (cap2:=co) wa HEa.out hel HOa.out hol (by omega) (fun x hx=>by have:=(Sc.rtE_in (HGs.out.1 x hx)).2.2.2.2.2.2; omega))
    go_wp2_with fail
    refine HOu.out.mono ?_;rintro r wb ⟨rfl,hbb⟩;have HXb:=lj (HXa.out.go hbb hga);have HBb:=lj (HBa.out.trans (hbb.mono (Nat.le_of_lt hga)));have HMi:=lj (show MsgIn wb wb.heap.size R ms from (HRow.out.msin.below hbb).more hbb.size);have hgb:gm<wb.heap.size:=Nat.lt_of_lt_of_le hga hbb.size;clear hbb HOu HXa HBa HEa HOa HRow
    go_upto_region 23 with fail
    have hmso:=HMs.out.ok
    have hml:ms.length≤20000000:=by
     have h1:=wrt_len 1 (E.zip (pouts (bnew (cf0 cf)) E)) [] fun q hq=>HOt.out q.2 (List.of_mem_zip hq).2
     have h2:=congrArg List.length HMs.out.all;have h3:=encs_ge ms;rw [List.length_append] at h2;rw [List.length_zip,hel,hol] at h1;simp at h1;omega
    have hTe:=tiles_end HCF.out.1 (t:=bs) (by omega) (back:=(bk:Int)) (by omega) (by omega) (viewL T3 ++ wrL 3000 39) HGs.out.2.2.2.1 HGs.out.2.2.2.2 (ms:=ms) (rest:=rest) (by rw [← HEq.out]; exact HMs.out);rw [← HEq.out] at hTe
    obtain ⟨og,hog⟩:∃ og,otp [] (E.zip (pouts (bnew (cf0 cf)) E))=og:=⟨_,rfl⟩
    have hogl:og.length≤1099511627776:=by
     have h1:=otp_len (E.zip (pouts (bnew (cf0 cf)) E)) [] fun q hq=>by
      have:=(Sc.rtE_in (HGs.out.1 q.1 (List.of_mem_zip hq).1)).2.2.2.2.2.2;omega
     rw [hog,List.length_zip,hel,hol] at h1;simp at h1;omega
    rw [hog] at hTe ⊢;obtain ⟨hT1,hT2,hT3⟩:=hTe;have HT3:=lj (show Au.IsFirst og (cf.strikes:Nat) (ms.map am) (-1) from hT3);have hlog:cf.log≤65536:=HC.out.1.log.2
    have hst:(if (if cf.log<len1 then (len1:Int) - (cf.log:Int) else 0)<(len1:Int) - (bk:Int) then (len1:Int) - (bk:Int) else if cf.log<len1 then (len1:Int) - (cf.log:Int) else 0)=(startOf bs.length cf.log (bk:Int):Int):=by
     unfold startOf
     split <;> split <;> omega
    obtain ⟨p,hp⟩:∃ p,startOf bs.length cf.log (bk:Int)=p:=⟨_,rfl⟩
    have hT2:ms[0]?=some (welcome 1 p 0):=by rw [← hp]; exact hT2
    rw [hp] at hst;obtain ⟨bm,om,rfl,hltm,hcm⟩:=HMi.out.outer (by omega);obtain ⟨a0,a1,a2',a3⟩:=hcm 0 (welcome 1 p 0) hT2;replace a0:wb.cell? ⟨bm,om+0 * 4,none⟩=some (.int .i64 5):=a0;replace a2':wb.cell? ⟨bm,om+0 * 4+2,none⟩=some (.int .i64 (p:Nat)):=a2';rw [Nat.zero_mul,Nat.add_zero] at a0 a2';have HAm:=lj (show MsIn wb wb.heap.size (some ⟨bm,om,none⟩) (ms.map am) from msin_am HMi.out hmso);have z0:=HXb.out.cell 0 (.int .i64 cf.log) rfl;have z4:=HXb.out.cell 4 (.int .i64 cf.strikes) rfl
    have hl2:(2:Int)≤(ms.length:Int):=by omega
    have dl2:decide ((ms.length:Int)<2)=false:=decide_eq_false (by omega);have HMM:=lj hst;clear hcm a1 a3 hT2 hT3 hog hmso HMs HMi HGs HEq hp hol HOt hst
    go_upto_region 24 with fail
    rw [HMM.out]
    have d5:((5:Int) != 5)=false:=by decide
    have dp:((p:Int) != (p:Int))=false:=by simp
    have HFi:=lj (show Calls Tryz.prog 19 #[.slice (some ⟨bm,om,none⟩) ms.length rc,.string (str og),.int .i64 cf.strikes] wb (FGives og (cf.strikes:Nat) (ms.map am) wb) from by
     have h:=first_any HAm.out rc (by rw [List.length_map]; omega) og hogl (cf.strikes:Nat)
     rwa [List.length_map] at h)
    clear HAm hogl
    go_wp2_with fail
    refine HFi.out.mono ?_;rintro r wc2 ⟨q,rfl,hq,hbc⟩;obtain rfl:=Au.isFirst_one hq HT3.out;have HBc:=lj (HBb.out.trans (hbc.mono (Nat.le_of_lt hgb)));clear hq hbc HFi HBb HXb;go_wp2;go_ret;exact ⟨rfl,by rw [HG.out]; exact HBc.out⟩
theorem w_in:Tryz.checked.prog.inits.idxOf? 3=none:=by kernel_rfl
theorem w_ok (os:Os):Input.okWideB Tryz.prog ((World.doorLaid Tryz.prog 400 os).forCall (fun _ _=>0) ⟨#[],#[.agg #[.int .i64 0,.int .i64 0,.int .i64 0,.int .i64 0,.int .i64 0,.int .i64 0,.int .i64 0,.int .i64 0],.slice none 0 0,.int .i64 0,.slice none 0 0],[]⟩) 3 ⟨#[],#[.agg #[.int .i64 0,.int .i64 0,.int .i64 0,.int .i64 0,.int .i64 0,.int .i64 0,.int .i64 0,.int .i64 0],.slice none 0 0,.int .i64 0,.slice none 0 0],[]⟩=true:=by kernel_rfl
theorem w_pre (os:Os) (H:Type) (enc:TypeId×Value→H):Rows.wholeTilesSpec.preB enc Tryz.prog Tryz.f3 [] false ((World.doorLaid Tryz.prog 400 os).forCall (fun _ _=>0) ⟨#[],#[.agg #[.int .i64 0,.int .i64 0,.int .i64 0,.int .i64 0,.int .i64 0,.int .i64 0,.int .i64 0,.int .i64 0],.slice none 0 0,.int .i64 0,.slice none 0 0],[]⟩).memory #[.agg #[.int .i64 0,.int .i64 0,.int .i64 0,.int .i64 0,.int .i64 0,.int .i64 0,.int .i64 0,.int .i64 0],.slice none 0 0,.int .i64 0,.slice none 0 0] 8=true:=by kernel_rfl
theorem w_sz (os:Os) (H:Type) (enc:TypeId×Value→H):Rows.wholeTilesSpec.sizedB enc Tryz.prog Tryz.f3 false ((World.doorLaid Tryz.prog 400 os).forCall (fun _ _=>0) ⟨#[],#[.agg #[.int .i64 0,.int .i64 0,.int .i64 0,.int .i64 0,.int .i64 0,.int .i64 0,.int .i64 0,.int .i64 0],.slice none 0 0,.int .i64 0,.slice none 0 0],[]⟩).memory #[.agg #[.int .i64 0,.int .i64 0,.int .i64 0,.int .i64 0,.int .i64 0,.int .i64 0,.int .i64 0,.int .i64 0],.slice none 0 0,.int .i64 0,.slice none 0 0] 8=true:=by kernel_rfl
theorem lifted (os:Os) (started:os.Started) (H:Type) (enc:TypeId×Value→H) :
 ReturnsInHanded {} Tryz.checked os 3 .any (fun w args=>(Rows.wholeTilesSpec.pre enc Tryz.prog Tryz.f3 [] false w args∧laidMetH Tryz.prog laidL w)∧sizedMet enc Tryz.prog Tryz.f3 (OpenSpec.ofChange Rows.wholeTilesSpec) false w args)
  (Rows.wholeTilesSpec.post enc Tryz.prog Tryz.f3 false true false false):=by
 refine returnsInHanded_of_change_and (C:=Tryz.checked) (X:=fun w _=>laidMetH Tryz.prog laidL w) (fun _ _ _ hh h=>h.of_heap hh) own started w_in Tryz.func3
  (ChangeSpec.witness_shaped (enc:=enc) (C:=Tryz.checked) (os:=os) (X:=fun w _=>laidMetH Tryz.prog laidL w) false (World.doorLaid Tryz.prog 400 os) #[.agg #[.int .i64 0,.int .i64 0,.int .i64 0,.int .i64 0,.int .i64 0,.int .i64 0,.int .i64 0,.int .i64 0],.slice none 0 0,.int .i64 0,.slice none 0 0] 8 rfl (door_shaped os _) (w_ok os) (w_pre os H enc) (w_sz os H enc) (door_met os _)) ?_
 intro W base args ds gs before hval0 hW hcnd hsz0 hL _;have hti:=ti_of hL
 have hval:∀ (j:Nat) t v,Tryz.f3.params[j]?=some t→args[j]?=some v→Value.okWide Tryz.prog W .any base t v:=hval0
 have hW':=hW;obtain ⟨p,q,hA0,hV,rfl,hfz,hnd⟩:=hW;have hsz:(DataW.weightsEach Tryz.prog (Tryz.f3.params.toList ++ Rows.wholeTilesSpec.plain.varTypes Tryz.prog) (ds ++ gs)).all (·≤reachBytes)=true:=hsz0;have hA:DataW.TrodAll enc Tryz.prog W 0 (fun _=>true) true Tryz.f3.params.toList args.toList ds p:=hA0;rw [Tryz.params3] at hA hval hsz;obtain ⟨v0,vs0,d0,ds0,p0,q0,hargs,rfl,rfl,h0,r0⟩:=trodAll_cons hA;obtain ⟨v1,vs1,d1,ds1,p1,q1,rfl,rfl,rfl,h1,r1⟩:=trodAll_cons r0;obtain ⟨v2,vs2,d2,ds2,p2,q2,rfl,rfl,rfl,h2,r2⟩:=trodAll_cons r1;obtain ⟨v3,vs3,d3,ds3,p3,q3,rfl,rfl,rfl,h3,r3⟩:=trodAll_cons r2;obtain ⟨rfl,rfl,rfl⟩:=trodAll_nil r3
 obtain rfl:args = #[v0,v1,v2,v3]:=by cases args; simp_all
 obtain ⟨rfl,rfl⟩:=trodVars_none hV;have k0:=h0
 have lt0:∀ x∈p0,x.block<W.heap.size:=by obtain ⟨m,hm⟩:=k0; exact DataW.trod_lt m _ _ _ hm
 obtain ⟨ca0,cb0,cc0,cd0,ce0,cf0,cg0,ch0,rfl⟩:=open_conf (hval 0 23 v0 rfl rfl) h0;obtain ⟨a1,len1,cap1,rfl⟩:=okWide_slice Tryz.underlying24 (hval 1 24 v1 rfl rfl);have k1:=h1
 have lt1:∀ x∈p1,x.block<W.heap.size:=by obtain ⟨m,hm⟩:=k1; exact DataW.trod_lt m _ _ _ hm
 obtain ⟨z1,w1⟩:∃ zs,IsRow .u8 W a1 len1 cap1 zs:=by
  obtain ⟨fuel,hf⟩:=h1;exact open_brow hf
 obtain ⟨a2,rfl,rfl,rfl,w2⟩:=open_int Tryz.underlying3 (hval 2 3 v2 rfl rfl) h2;obtain ⟨a3,len3,cap3,rfl⟩:=okWide_slice Tryz.underlying25 (hval 3 25 v3 rfl rfl);have k3:=h3
 have lt3:∀ x∈p3,x.block<W.heap.size:=by obtain ⟨m,hm⟩:=k3; exact DataW.trod_lt m _ _ _ hm
 obtain ⟨T3,w3,g3⟩:∃ T,EvIn W W.heap.size a3 T∧T.length=len3∧len3≤cap3∧cap3≤maxLen:=by
  obtain ⟨fuel,hf⟩:=h3;exact open_events hf
 clear hA0 hval0 hsz hsz0
 refine (walk ca0 cb0 cc0 cd0 ce0 cf0 cg0 ch0 a1 len1 cap1 z1 a2 a3 len3 cap3 T3 W w1 w2 w3 g3 hti).mono fun e W' ⟨he,bel⟩=>?_
 subst he;exact ⟨_,rfl,_,_,_,[],_,[],hW',trodAll_mk1 (shut_bool Tryz.underlying4 _),(trodAll_cons_mk (Below.trod laidOut (by kernel_rfl) (of_decide_eq_true (by kernel_rfl)) k0 bel lt0) (trodAll_cons_mk (Below.trod laidOut (by kernel_rfl) (of_decide_eq_true (by kernel_rfl)) k1 bel lt1) (trodAll_cons_mk (shut_int Tryz.underlying3 w2) (trodAll_cons_mk (Below.trod laidOut (by kernel_rfl) (of_decide_eq_true (by kernel_rfl)) k3 bel lt3) trodAll_mk0)))),rfl,bel.frame _,fun h=>by cases h⟩
theorem q0:(Rows.wholeTilesRow.wf (OpenSpec.ofChange Rows.wholeTilesSpec))=true:=by kernel_rfl
theorem q3:(Tryz.f3.params.all (Tryz.prog.readableRec ·))=true:=by kernel_rfl
theorem q4:(namedTie Tryz.prog Rows.wholeTilesRow.named Rows.wholeTilesSpec.vars)=true:=by kernel_rfl
theorem q5:((Rows.wholeTilesRow.stops == []))=true:=by kernel_rfl
theorem q7:((Rows.wholeTilesRow.knobs == []))=true:=by kernel_rfl
theorem q9:((Rows.wholeTilesRow.inPlace == Tryz.prog.inPlace 3))=true:=by kernel_rfl
theorem q10:((Rows.wholeTilesRow.unfollowed == Tryz.prog.unfollowed 3))=true:=by kernel_rfl
theorem q11:((Rows.wholeTilesRow.recurses == Tryz.prog.recurses 3))=true:=by kernel_rfl
theorem q12:((Rows.wholeTilesRow.named == Tryz.prog.varsNamed 3))=true:=by kernel_rfl
theorem q13:((Rows.wholeTilesRow.maps == (Tryz.f3.params.toList ++ Rows.wholeTilesSpec.plain.varTypes Tryz.prog).any (Tryz.prog.mapsRec ·)))=true:=by kernel_rfl
theorem q14:((Rows.wholeTilesRow.ifaces == (Tryz.f3.params.toList ++ Rows.wholeTilesSpec.plain.varTypes Tryz.prog).any (Tryz.prog.ifacesRec ·)))=true:=by kernel_rfl
theorem q15:((Rows.wholeTilesRow.mapsOut == Tryz.prog.mapsAmong Tryz.f3.resultTypes.toList))=true:=by kernel_rfl
theorem q16:((Rows.wholeTilesRow.loops == (Tryz.f3.params.toList ++ Rows.wholeTilesSpec.plain.varTypes Tryz.prog).any (Tryz.prog.loopsFrom ·)))=true:=by kernel_rfl
theorem q17:((Rows.wholeTilesRow.wideKeys == (Tryz.f3.params.toList ++ Rows.wholeTilesSpec.plain.varTypes Tryz.prog ++ Tryz.f3.resultTypes.toList).any (Tryz.prog.wideKeysFrom ·)))=true:=by kernel_rfl
theorem q18:(Rows.wholeTilesSpec.vars.all (Tryz.prog.varReadable ·))=true:=by kernel_rfl
theorem q19:(Tryz.f3.resultTypes.all (fun t=>Tryz.prog.readableRec t && decide (t<Tryz.prog.types.size)))=true:=by kernel_rfl
theorem q20:((Rows.wholeTilesRow.ifacesOut == Tryz.f3.resultTypes.toList.any (Tryz.prog.ifacesRec ·)))=true:=by kernel_rfl
theorem q21:((Rows.wholeTilesRow.loopsOut == Tryz.f3.resultTypes.toList.any (Tryz.prog.loopsFrom ·)))=true:=by kernel_rfl
theorem q22:((Rows.wholeTilesRow.plainKeys == Tryz.prog.plainKeys))=true:=(show Rows.wholeTilesRow.plainKeys=Rows.wholeTilesRow.plainKeys from rfl) ▸ pq22
theorem q23:(Rows.wholeTilesRow.shortTexts.isNone)=true:=by kernel_rfl
theorem q26:((Rows.wholeTilesRow.lifted == Tryz.prog.liftsFinal))=true:=(show Rows.wholeTilesRow.lifted=Rows.wholeTilesRow.lifted from rfl) ▸ pq26
theorem q27:((Tryz.prog.make == some Rows.wholeTilesRow.make))=true:=(show Rows.wholeTilesRow.make=Rows.wholeTilesRow.make from rfl) ▸ pq27
theorem q28:kindsAre Tryz.prog Rows.wholeTilesRow Tryz.f3=true:=by kernel_rfl
theorem q29:((Rows.wholeTilesRow.pinned == Rows.wholeTilesRow.pinnedBy))=true:=by kernel_rfl
theorem q30:((Rows.wholeTilesRow.veiled == (Tryz.f3.params.toList ++ Rows.wholeTilesSpec.plain.varTypes Tryz.prog ++ Tryz.f3.resultTypes.toList).any (Tryz.prog.veiledRec ·)))=true:=by kernel_rfl
theorem q31:(Rows.wholeTilesRow.veiledFits Tryz.prog Tryz.f3.params.toList (Tryz.f3.params.toList ++ Rows.wholeTilesSpec.plain.varTypes Tryz.prog ++ Tryz.f3.resultTypes.toList))=true:=by kernel_rfl
theorem q_named:Tryz.prog.funcNamed Rows.wholeTilesRow.func=some 3:=by kernel_rfl
theorem q_inst:Tryz.f3.isInstance Tryz.prog Rows.wholeTilesRow.origin Rows.wholeTilesRow.targs:=of_decide_eq_true (by kernel_rfl)
theorem q_wrap:Tryz.f3.isWrapper Tryz.prog Rows.wholeTilesRow.wrapper Rows.wholeTilesRow.mainSum:=by unfold Func.isWrapper; first | (rw [if_pos (by decide +kernel)]; kernel_rfl) | (rw [if_neg (by decide +kernel)]; exact ⟨rfl,rfl⟩)
theorem q_all:joinedFacts Tryz.prog 3 Tryz.f3 Rows.wholeTilesSpec Rows.wholeTilesRow=true:=joined_of (P:=Tryz.prog) (f:=3) (fn:=Tryz.f3) (s:=Rows.wholeTilesSpec) (c:=Rows.wholeTilesRow) q0 pq1 pq2 q3 q4 q5 pq6 q7 pq8 q9 q10 q11 q12 q13 q14 q15 q16 q17 q18 q19 q20 q21 q22 q23 pq24 pq25 q26 q27 q28 q29 q30 q31
theorem over:Rows.WholeTilesSaid:=
 OpenClaim.holds_of_wide 3 Tryz.f3 rfl rfl rfl rfl rfl rfl rfl ⟨rfl,rfl,rfl,rfl,rfl⟩ rfl rfl rfl rfl rfl q_named Tryz.func3 q_all q_inst q_wrap
  (fun os started H enc _=>lifted os started H enc)
theorem c_wf:Rows.wholeTilesRow.wfByText (OpenSpec.ofChange Rows.wholeTilesSpec)=true:=by kernel_rfl
theorem c_looks:true=Tryz.prog.looks []:=by kernel_rfl
theorem c_stand:([23,24,3,25].all fun u=>!Tryz.prog.wantsStandIn u)=true:=by kernel_rfl
theorem c_goes:false=Rows.wholeTilesRow.goesBy Tryz.prog:=by kernel_rfl
end wholeTiles
theorem wholeTiles_holds:Rows.WholeTilesCardSaid:=
 Claim7.holds_tied_plain_at (c:=Rows.wholeTilesRow) .later [] _ true _ true
  wholeTiles.over (fun _ h=>by cases h) wholeTiles.c_wf (fun _ h=>by cases h) wholeTiles_row_tie rfl ⟨rfl,rfl⟩ main_is rfl
  (fun f fn hf hfn=>by
   obtain rfl:f=3:=Option.some.inj (wholeTiles.q_named.symm.trans hf) |>.symm
   obtain rfl:fn=Tryz.f3:=(Option.some.inj (Tryz.func3.symm.trans hfn)).symm
   exact ⟨wholeTiles.c_looks,fun j t ht=>by
    rw [Tryz.params3] at ht
    have hm:t∈[23,24,3,25]:=by simpa using Array.mem_of_getElem? ht
    exact (show Tryz.prog.wantsStandIn t=false by simpa using List.all_eq_true.1 wholeTiles.c_stand t hm)⟩)
  wholeTiles.c_goes
#print axioms wholeTiles_holds
end Go.Proofs.YtalichkdeekdcaaGreatDoor
