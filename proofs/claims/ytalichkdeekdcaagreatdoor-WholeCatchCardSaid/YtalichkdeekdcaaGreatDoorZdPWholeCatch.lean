/- WholeCatch: for every input the law answers true, and its arguments read as before. Conditions: none. -/
import Derived.Test.YtalichkdeekdcaaGreatDoorZd48
import Derived.Test.YtalichkdeekdcaaGreatDoorZd49
namespace Go.Proofs.YtalichkdeekdcaaGreatDoor
set_option maxRecDepth 100000
open Go.Lib renaming hid → lj
namespace wholeCatch
open Go.ChangeShapes Go.WideShapes Go.ChangeAt Go.RowKit
open Fr Bk
theorem encs_ge:∀ ms:List M,5 * ms.length≤(encs ms).length
  | []=>Nat.zero_le _
  | m :: ms=>by
    have h:=encs_ge ms
    show 5 * (ms.length+1)≤(enc m ++ encs ms).length
    rw [List.length_append,enc_len5];omega
theorem datas_next (ms:List M) (j:Nat) (m:M) (h:ms[j]?=some m):datas (ms.take (j+1))=datas (ms.take j) ++ (if m.k=6 then m.t else []):=by
 rw [List.take_add_one,h,datas_app]
 show datas (ms.take j) ++ datas [m]=_
 rw [show datas [m]=(if m.k=6 then m.t else []) ++ [] from rfl,List.append_nil]
theorem datas_len:∀ ms:List M,(datas ms).length≤(encs ms).length
  | []=>Nat.zero_le _
  | m :: ms=>by
    have h:=datas_len ms
    show ((if m.k=6 then m.t else []) ++ datas ms).length≤(enc m ++ encs ms).length
    rw [List.length_append,List.length_append,enc_len5]
    split
    · omega
    · show 0+_≤_
      omega
def isWr (e:Sc.Ev):Prop:=∃ n:Int,e=wrE n∧0≤n∧n≤65536
theorem wr_zero:∀ l:List Sc.Ev,(∀ e∈l,isWr e)→tsum l=0∧(l.map fun (e:Sc.Ev)=>e.t.length).sum=0
  | [],_=>⟨rfl,rfl⟩
  | x :: l,h=>by
    obtain ⟨h1,h2⟩:=wr_zero l fun e he=>h e (List.mem_cons_of_mem _ he)
    obtain ⟨n,rfl,_,_⟩:=h x List.mem_cons_self
    have h4:ewt (wrE n)=0:=by unfold ewt; split <;> rfl
    refine ⟨?_,?_⟩
    · show ewt (wrE n)+tsum l=0
      rw [h4,h1]
    · show 0+(l.map fun (e:Sc.Ev)=>e.t.length).sum=0
      rw [h2]
theorem catch_list {t:Bs} (ht:t.length≤2000) {N:List Sc.Ev} (hN:∀ e∈N,isWr e) (hl:N.length≤6000):(∀ e∈viewHd t 5000 ++ N,Sc.rtE e=true)∧tsum (viewHd t 5000 ++ N)≤1000000∧(Sc.evs (viewHd t 5000 ++ N)).length≤262000∧(viewHd t 5000 ++ N).length=3+N.length:=by
 obtain ⟨h1,h2⟩:=wr_zero N hN
 have hlen:(viewHd t 5000 ++ N).length=3+N.length:=by rw [List.length_append]; rfl
 refine ⟨fun e he=>?_,?_,?_,hlen⟩
 ·rcases List.mem_append.1 he with he | he
  ·exact viewHd_right (by omega) (by decide) (by decide) e he
  ·obtain ⟨n,rfl,h3,h4⟩:=hN e he
   exact rt_wr h3 h4
 ·rw [tsum_app,h1]
  have h3:tsum (viewHd t 5000)≤12000:=tsum_le (viewHd t 5000);omega
 ·rw [Sc.evs_len,hlen,List.map_append,List.sum_append,h2]
  have hm:=uM_ok false (back:=5000) (by decide) (by decide);have h5:=enc_small hm
  have h6:((viewHd t 5000).map fun (e:Sc.Ev)=>e.t.length).sum≤2000+2053:=by
   unfold viewHd comesL;simp only [List.map_cons,List.map_nil,List.sum_cons,List.sum_nil]
   show t.length+(0+((enc (uM false 5000)).length+0))≤_
   omega
  omega
theorem wpOp_value {P:Program} {ops:Array Oper} {Q:Exit→Act→World→Prop} {i:Nat} {o:Oper} {K:Act→World→Prop} {a:Act} {w w':World} {v:Value} (ho:ops[i]?=some o) (hg:o.guard=none)
  (hr:(execOp a.eval o).run P w = .ok (.value v) w') (h:K (a.put o.dst v) w'):wpOp P ops Q i K a w:=by
 unfold wpOp;simp only [ho];rw [if_pos (by simp [Region.wanted,hg])]
 left
 unfold Oper.wp;rw [hr];exact h
set_option maxHeartbeats 8000000 in
theorem walk (ca0 cb0 cc0 cd0 ce0 cf0 cg0 ch0:Int) (a1:Option Addr) (len1 cap1:Nat) (z1:List Int) (a2:Option Addr) (len2 cap2:Nat) (z2:List Int) (w:World)  (w1:IsRow .u8 w a1 len1 cap1 z1) (w2:IsRow .i64 w a2 len2 cap2 z2) (ht:TI w) :
    Calls Tryz.prog 7 #[.agg (cv ca0 cb0 cc0 cd0 ce0 cf0 cg0 ch0),.slice a1 len1 cap1,.slice a2 len2 cap2] w fun e w'=>e = .returned (.bool true)∧Below w.heap.size w w':=by
  obtain ⟨bs,hbs,_⟩:=IsRow.bytes w1;obtain ⟨hbc,hbm⟩:=IsRow.cap w1;obtain ⟨hpc,hpm⟩:=IsRow.cap w2;have HPz:=lj w2;clear w1 w2;have HTI:=lj ht;have HBs0:=lj hbs
  have hb63:len1≤9223372036854775807:=by unfold maxLen at hbm; omega
  have hp63:len2≤9223372036854775807:=by unfold maxLen at hpm; omega
  clear ht hbs
  by_cases hrt:rt ca0 cb0 cc0 cd0 ce0 cf0 cg0 ch0=true
  rotate_left
  · as_aux_lemma =>
    have hrt:rt ca0 cb0 cc0 cd0 ce0 cf0 cg0 ch0=false:=by simpa using hrt
    unfold cv
    go_enter Tryz.func7,Tryz.ntmps7
    have hxm:=Bx.new w _ rfl #[.int .i64 ca0,.int .i64 cb0,.int .i64 cc0,.int .i64 cd0,.int .i64 ce0,.int .i64 cf0,.int .i64 cg0,.int .i64 ch0] 23;have hba:Below w.heap.size w (w.alloc (.cells #[.int .i64 ca0,.int .i64 cb0,.int .i64 cc0,.int .i64 cd0,.int .i64 ce0,.int .i64 cf0,.int .i64 cg0,.int .i64 ch0] 23)):=(Below.refl _ _).alloc (Nat.le_refl _) _
    have hsz:w.heap.size<(w.alloc (.cells #[.int .i64 ca0,.int .i64 cb0,.int .i64 cc0,.int .i64 cd0,.int .i64 ce0,.int .i64 cf0,.int .i64 cg0,.int .i64 ch0] 23)).heap.size:=by simp
    go_wp2_with fail
    generalize w.alloc (.cells #[.int .i64 ca0,.int .i64 cb0,.int .i64 cc0,.int .i64 cd0,.int .i64 ce0,.int .i64 cf0,.int .i64 cg0,.int .i64 ch0] 23)=wa at *
    obtain ⟨gm,hgm⟩:∃ gm,w.heap.size=gm:=⟨_,rfl⟩
    rw [hgm] at hxm hba hsz;have HG:=lj hgm;have hTI:=HTI.out.below (hgm ▸ hba);rw [hgm];clear hgm;refine (alive_any wa hTI).mono ?_;rintro e w1 ⟨rfl,hb1⟩;have HX1:=lj (hxm.go hb1 hsz);have HB1:=lj (Below.trans hba (hb1.mono (Nat.le_of_lt hsz)));have HS1:=lj (Nat.lt_of_lt_of_le hsz hb1.size);clear hxm hba hb1 hTI hsz;have z0:=HX1.out.cell 0 (.int .i64 ca0) rfl;have z1:=HX1.out.cell 1 (.int .i64 cb0) rfl;have z2:=HX1.out.cell 2 (.int .i64 cc0) rfl;have z3:=HX1.out.cell 3 (.int .i64 cd0) rfl;have z4:=HX1.out.cell 4 (.int .i64 ce0) rfl;have z5:=HX1.out.cell 5 (.int .i64 cf0) rfl;have z6:=HX1.out.cell 6 (.int .i64 cg0) rfl;have z7:=HX1.out.cell 7 (.int .i64 ch0) rfl
    go_wp2_with fail
    refine (cright_any ca0 cb0 cc0 cd0 ce0 cf0 cg0 ch0 w1).mono ?_;rintro e w3 ⟨rfl,hb3⟩;rw [hrt];have HX3:=lj (HX1.out.go hb3 HS1.out);have HB3:=lj (Below.trans HB1.out (hb3.mono (Nat.le_of_lt HS1.out)));have HS3:=lj (Nat.lt_of_lt_of_le HS1.out hb3.size);clear hb3 HX1 HB1 HS1 z0 z1 z2 z3 z4 z5 z6 z7;go_wp2;go_ret;exact ⟨rfl,by rw [HG.out]; exact HB3.out⟩
  obtain ⟨cf,hcf,hev0,rfl,rfl,rfl,rfl,rfl,rfl,rfl,rfl⟩:=rt_cf hrt;have HC:=lj (And.intro hcf hev0);clear hcf hev0;unfold cv
  go_enter Tryz.func7,Tryz.ntmps7
  have hxm:=Bx.new w _ rfl #[.int .i64 cf.log,.int .i64 cf.data,.int .i64 cf.queue,.int .i64 cf.input,.int .i64 cf.strikes,.int .i64 cf.lease,.int .i64 cf.idle,.int .i64 cf.width] 23;have hba:Below w.heap.size w (w.alloc (.cells #[.int .i64 cf.log,.int .i64 cf.data,.int .i64 cf.queue,.int .i64 cf.input,.int .i64 cf.strikes,.int .i64 cf.lease,.int .i64 cf.idle,.int .i64 cf.width] 23)):=(Below.refl _ _).alloc (Nat.le_refl _) _
  have hsz:w.heap.size<(w.alloc (.cells #[.int .i64 cf.log,.int .i64 cf.data,.int .i64 cf.queue,.int .i64 cf.input,.int .i64 cf.strikes,.int .i64 cf.lease,.int .i64 cf.idle,.int .i64 cf.width] 23)).heap.size:=by simp
  go_wp2_with fail
  generalize w.alloc (.cells #[.int .i64 cf.log,.int .i64 cf.data,.int .i64 cf.queue,.int .i64 cf.input,.int .i64 cf.strikes,.int .i64 cf.lease,.int .i64 cf.idle,.int .i64 cf.width] 23)=wa at *
  obtain ⟨gm,hgm⟩:∃ gm,w.heap.size=gm:=⟨_,rfl⟩
  rw [hgm] at hxm hba hsz;have HG:=lj hgm;have hTI:=HTI.out.below (hgm ▸ hba);rw [hgm];clear hgm;refine (alive_any wa hTI).mono ?_;rintro e w1 ⟨rfl,hb1⟩;have HX1:=lj (hxm.go hb1 hsz);have HB1:=lj (Below.trans hba (hb1.mono (Nat.le_of_lt hsz)));have HS1:=lj (Nat.lt_of_lt_of_le hsz hb1.size);clear hxm hba hb1 hTI hsz;have z0:=HX1.out.cell 0 (.int .i64 cf.log) rfl;have z1:=HX1.out.cell 1 (.int .i64 cf.data) rfl;have z2:=HX1.out.cell 2 (.int .i64 cf.queue) rfl;have z3:=HX1.out.cell 3 (.int .i64 cf.input) rfl;have z4:=HX1.out.cell 4 (.int .i64 cf.strikes) rfl;have z5:=HX1.out.cell 5 (.int .i64 cf.lease) rfl;have z6:=HX1.out.cell 6 (.int .i64 cf.idle) rfl;have z7:=HX1.out.cell 7 (.int .i64 cf.width) rfl
  go_wp2_with fail
  refine (cright_any ((cf.log:Nat)) ((cf.data:Nat)) ((cf.queue:Nat)) ((cf.input:Nat)) ((cf.strikes:Nat)) ((cf.lease:Nat)) ((cf.idle:Nat)) ((cf.width:Nat)) w1).mono ?_;rintro e w3 ⟨rfl,hb3⟩;rw [hrt];have HX3:=lj (HX1.out.go hb3 HS1.out);have HB3:=lj (Below.trans HB1.out (hb3.mono (Nat.le_of_lt HS1.out)));have HS3:=lj (Nat.lt_of_lt_of_le HS1.out hb3.size);clear hb3 HX1 HB1 HS1 z0 z1 z2 z3 z4 z5 z6 z7
  by_cases h2000:len1≤2000
  rotate_left
  · have dj:decide ((len1:Int) > 2000)=true:=by simp; omega
    have dj2:decide ((2000:Int)<(len1:Int))=true:=by simp; omega
    go_wp2;go_ret;exact ⟨rfl,by rw [HG.out]; exact HB3.out⟩
  have dj:decide ((len1:Int) > 2000)=false:=by simp; omega
  have dj2:decide ((2000:Int)<(len1:Int))=false:=by simp; omega
  by_cases hp0:len2≠0
  rotate_left
  · have dk:((len2:Int) == 0)=true:=by simp; omega
    go_wp2;go_ret;exact ⟨rfl,by rw [HG.out]; exact HB3.out⟩
  have dk:((len2:Int) == 0)=false:=by simp; omega
  by_cases hp20:len2≤20
  rotate_left
  · have dm:decide ((len2:Int) > 20)=true:=by simp; omega
    have dm2:decide ((20:Int)<(len2:Int))=true:=by simp; omega
    go_wp2;go_ret;exact ⟨rfl,by rw [HG.out]; exact HB3.out⟩
  have dm:decide ((len2:Int) > 20)=false:=by simp; omega
  have dm2:decide ((20:Int)<(len2:Int))=false:=by simp; omega
  have f6:=HX3.out.free 6;have c6:=HX3.out.cell 6 (.int .i64 cf.idle) rfl;have hx5:=HX3.out.set 6 (.int .i64 0);have hb5:=HB3.out.setCell (p:=⟨gm,6,none⟩) (Nat.le_refl gm) (.int .i64 0);have HX5:=lj (show Bx gm (w3.setCell ⟨gm,6,none⟩ (.int .i64 0)) #[.int .i64 cf.log,.int .i64 cf.data,.int .i64 cf.queue,.int .i64 cf.input,.int .i64 cf.strikes,.int .i64 cf.lease,.int .i64 0,.int .i64 cf.width] from hx5);have HB5:=lj hb5
  have HBs0':=lj (show Bytes w gm a1 len1 bs from by
    have h:=HBs0.out;rw [HG.out] at h
    exact h)
  clear hx5 hb5 HX3 HB3 HBs0
  go_upto_region 6 with fail
  generalize w3.setCell ⟨gm,6,none⟩ (.int .i64 0)=w5 at *;clear f6 c6 dj dj2 dk dm dm2 HS3;have z0:=HX5.out.cell 0 (.int .i64 cf.log) rfl;have hlog:=HC.out.1.log.2
  go_upto_region 7 with fail
  obtain ⟨lag,hlg⟩:∃ lag:Nat,min len1 cf.log=lag:=⟨_,rfl⟩
  have hlag:min (len1:Int) (cf.log:Int)=(lag:Int):=by omega
  have hl2:lag≤2000:=by omega
  rw [hlag];have HLG:=lj hlg;clear z0 hlag hlg hlog
  have HBs:=lj (show Bytes w5 gm a1 len1 bs from by
    have h:=HBs0'.out
    exact h.below HB5.out)
  have hbl:bs.length=len1:=HBs.out.1;have hgw:gm<w5.heap.size:=HX5.out.room
  obtain ⟨N,hN⟩:∃ N,w5.heap.size=N:=⟨_,rfl⟩
  have HN:=lj hN
  have hgN:gm<N:=by omega
  have hmix:Tryz.prog.follows .mixedOrders=true:=by kernel_rfl
  have HCo:=lj (fun W=>comes_any 1 false 5000 (by decide) (by decide) W)
  have HOne:=lj (show ∀ W:World,N≤W.heap.size→EvRow N (W.alloc (.cells #[.int .i64 3,.int .i64 0,.int .i64 0,.string (str bs)] 30)) (some ⟨W.heap.size,0,none⟩) 1 1 [outE bs] from fun W hW=>evrow_new W hW [outE bs] #[.int .i64 3,.int .i64 0,.int .i64 0,.string (str bs)] rfl (show 1≤1000000 by decide) (fun e he=>by
    rw [List.mem_singleton.1 he]
    show bs.length≤maxLen
    unfold maxLen
    omega))
  go_cut [8] (fun s9 wx=>∃ A c,s9 = .slice A 3 c∧EvRow N wx A 3 c (viewHd bs 5000)∧Below N w5 wx)
  case first =>
    go_wp2_with fail
    refine wp_region_held (S:=fun W=>Bytes W gm a1 len1 bs) hmix ?_
    change wpAnyH _ _ _ _ _ _ _ _ (World.drew _)
    have HY:=lj (show Bytes w5.drew gm a1 len1 bs from HBs.out.below (below_drew (Below.refl gm w5)));have HB:=lj (show Below N w5 w5.drew from below_drew (Below.refl N w5));have HZ:=lj (show N≤w5.drew.heap.size from by have:=HB.out.size; omega);generalize w5.drew=wd at *;refine wpAnyH_take (i:=0) (v:=.slice a1 len1 cap1) rfl (by kernel_rfl) (by kernel_rfl) (by kernel_rfl) (fun _ _ _ h=>h) (.inl ⟨by kernel_rfl,fun W hW=>?_⟩) HY.out ?_
    · go_simp; try (first | rfl | omega | (intro hh; exfalso; omega))
    refine wpAnyH_take (i:=1) (v:=.string (str bs)) rfl (by kernel_rfl) (by kernel_rfl) (by kernel_rfl) (fun _ _ _ h=>h) (.inl ⟨by kernel_rfl,fun W hW=>?_⟩) HY.out ?_
    · have hcv:=conv_str (cap:=cap1) hW; go_simp; try (first | rfl | omega | (intro hh; exfalso; omega))
    refine wpAnyH_take (i:=2) (v:=.agg #[.int .i64 3,.int .i64 0,.int .i64 0,.string (str bs)]) rfl (by kernel_rfl) (by kernel_rfl) (by kernel_rfl) (fun _ _ _ h=>h) (.inl ⟨by kernel_rfl,fun W hW=>?_⟩) HY.out ?_
    · go_simp; try (first | rfl | omega | (intro hh; exfalso; omega))
    refine wpAnyH_all (rs:=[3,4]) (by kernel_rfl) (by simp) ?_;intro z hz;simp only [List.mem_cons,List.not_mem_nil,or_false] at hz
    rcases hz with rfl | rfl
    · skip
      unfold wpOp
      go_simp
      have hb:Below wd.heap.size wd (wd.alloc (.cells #[.int .i64 3,.int .i64 0,.int .i64 0,.string (str bs)] 30)):=(Below.refl _ _).alloc (Nat.le_refl _) _;have HR:=lj (HOne.out wd HZ.out);have HY:=lj (HY.out.below (hb.mono (by have:=HZ.out; omega)));have HB:=lj (HB.out.trans (hb.mono HZ.out));have HZ:=lj (Nat.le_trans HZ.out hb.size);clear hb;refine .inl ⟨HY.out,?_⟩;generalize wd.alloc (.cells #[.int .i64 3,.int .i64 0,.int .i64 0,.string (str bs)] 30)=wb at *;refine wpAnyH_all (rs:=[4]) (by kernel_rfl) (by simp) ?_;intro z hz;simp only [List.mem_cons,List.not_mem_nil,or_false] at hz;subst hz;unfold wpOp
      go_simp
      refine .inl ?_;refine (HCo.out wb).mono ?_;rintro r wc ⟨A3,c3,rfl,hr3,hb⟩;have HY:=lj (HY.out.below (hb.mono (by have:=HZ.out; omega)));have HB:=lj (HB.out.trans (hb.mono HZ.out));have HR3:=lj (show EvIn wc wc.heap.size A3 (comesL 1 false 5000) from hr3.evin);have HR:=lj (HR.out.below hb);have HZ:=lj (Nat.le_trans HZ.out hb.size);clear hb hr3;refine ⟨HY.out,?_⟩;obtain ⟨A5,c5,we,hrun,hr5,hb5⟩:=run_eapp 25 HR.out (m:=2) (c2:=c3) HR3.out rfl (by omega) HZ.out;have HY:=lj (HY.out.below (hb5.mono (by omega)));refine wpAnyH_all (rs:=[5]) (by kernel_rfl) (by simp) ?_;intro z hz;simp only [List.mem_cons,List.not_mem_nil,or_false] at hz;subst hz;refine wpOp_value rfl rfl (exec_append (s:=.tmp 51) (x:=.tmp 52) (st:=25) rfl rfl rfl hrun) ⟨HY.out,?_⟩;clear hrun;refine wpAnyH_all (rs:=[6]) (by kernel_rfl) (by simp) ?_;intro z hz;simp only [List.mem_cons,List.not_mem_nil,or_false] at hz;subst hz;unfold wpOp
      go_simp
      refine .inl ⟨HY.out,?_⟩;refine wpAnyH_done (by kernel_rfl) ?_ _
      go_simp
      go_wp2_with fail
      go_meet
      exact ⟨A5,c5,rfl,hr5,HB.out.trans hb5⟩
    · skip
      unfold wpOp
      go_simp
      refine .inl ?_;refine (HCo.out wd).mono ?_;rintro r wb ⟨A3,c3,rfl,hr3,hb⟩;have HY:=lj (HY.out.below (hb.mono (by have:=HZ.out; omega)));have HB:=lj (HB.out.trans (hb.mono HZ.out));have HR3:=lj (show EvIn wb wb.heap.size A3 (comesL 1 false 5000) from hr3.evin);have HZ:=lj (Nat.le_trans HZ.out hb.size);clear hb hr3;refine ⟨HY.out,?_⟩;refine wpAnyH_all (rs:=[3]) (by kernel_rfl) (by simp) ?_;intro z hz;simp only [List.mem_cons,List.not_mem_nil,or_false] at hz;subst hz;have HR3:=lj (show EvIn (wb.alloc (.cells #[.int .i64 3,.int .i64 0,.int .i64 0,.string (str bs)] 30)) (wb.alloc (.cells #[.int .i64 3,.int .i64 0,.int .i64 0,.string (str bs)] 30)).heap.size A3 (comesL 1 false 5000) from (HR3.out.below ((Below.refl _ _).alloc (Nat.le_refl _) _)).more (by simp));unfold wpOp
      go_simp
      have hb:Below wb.heap.size wb (wb.alloc (.cells #[.int .i64 3,.int .i64 0,.int .i64 0,.string (str bs)] 30)):=(Below.refl _ _).alloc (Nat.le_refl _) _;have HR:=lj (HOne.out wb HZ.out);have HY:=lj (HY.out.below (hb.mono (by have:=HZ.out; omega)));have HB:=lj (HB.out.trans (hb.mono HZ.out));have HZ:=lj (Nat.le_trans HZ.out hb.size);clear hb;refine .inl ⟨HY.out,?_⟩;generalize wb.alloc (.cells #[.int .i64 3,.int .i64 0,.int .i64 0,.string (str bs)] 30)=wc at *;obtain ⟨A5,c5,we,hrun,hr5,hb5⟩:=run_eapp 25 HR.out (m:=2) (c2:=c3) HR3.out rfl (by omega) HZ.out;have HY:=lj (HY.out.below (hb5.mono (by omega)));refine wpAnyH_all (rs:=[5]) (by kernel_rfl) (by simp) ?_;intro z hz;simp only [List.mem_cons,List.not_mem_nil,or_false] at hz;subst hz;refine wpOp_value rfl rfl (exec_append (s:=.tmp 51) (x:=.tmp 52) (st:=25) rfl rfl rfl hrun) ⟨HY.out,?_⟩;clear hrun;refine wpAnyH_all (rs:=[6]) (by kernel_rfl) (by simp) ?_;intro z hz;simp only [List.mem_cons,List.not_mem_nil,or_false] at hz;subst hz;unfold wpOp
      go_simp
      refine .inl ⟨HY.out,?_⟩;refine wpAnyH_done (by kernel_rfl) ?_ _
      go_simp
      go_wp2_with fail
      go_meet
      exact ⟨A5,c5,rfl,hr5,HB.out.trans hb5⟩
  case rest =>
    obtain ⟨A5,c5,rfl,hr5,hb5⟩:=hcut;have HR6:=lj (show EvRow N wc A5 (3+0) c5 (viewHd bs 5000 ++ []) from by rw [List.append_nil]; exact hr5);have HB6:=lj hb5;have hd1:=HC.out.1.data.1;have hd2:=HC.out.1.data.2
    obtain ⟨bd,hbd⟩:∃ bd,boundN lag cf.data=bd:=⟨_,rfl⟩
    have hbdl:bd≤30000:=by rw [← hbd]; exact boundN_le hl2
    have HBd:=lj (fun W=>hbd ▸ bound_any hl2 hd1 hd2 W);obtain ⟨pb,po,rfl,hpb,hpcs⟩:=HPz.out.ints (by omega);rw [HG.out] at hpb;have HPc:=lj (show ∀ j,j<len2→w.cell? ⟨pb,po+j,none⟩=some (.int .i64 (z2.getD j 0)) from hpcs);clear hr5 hb5 HCo HOne HBs hbd HPz hpcs
    go_wp2_with fail
    go_loopw [8,9,10] (fun s8 s9 s10 wr=>∃ (i c tt:Nat) (A:Option Addr) (NL:List Sc.Ev),s8 = .slice A (3+i) c∧s9 = .int .i64 (tt:Nat)∧s10 = .int .i64 (i:Nat)∧i≤6000∧NL.length=i∧Hid (∀ e∈NL,isWr e)∧i≤tt∧tt≤256 * i∧EvRow N wr A (3+i) c (viewHd bs 5000 ++ NL)∧Below N w5 wr) (fun _ s _ _=>60000 - (intOf s).toNat)
    case atStart=>exact ⟨0,c5,0,A5,[],rfl,rfl,rfl,Nat.zero_le _,rfl,lj (fun e he=>by cases he),Nat.le_refl _,Nat.le_refl _,HR6.out,HB6.out⟩
    case round =>
      obtain ⟨i,c,tt,A,NL,rfl,rfl,rfl,hi,hnl,HWr,hit,htt,hr,hb⟩:=hrel;have HR:=lj hr;have HB:=lj hb
      have hNr:N≤wr.heap.size:=by have:=hb.size; have:=HN.out; omega
      have hxr:=HX5.out.go hb hgN;have z1:=hxr.cell 1 (.int .i64 cf.data) rfl;clear hr hb hxr HR6 HB6;have hBdw:=HBd.out wr
      by_cases htl:tt<bd+200
      · have dt:decide ((tt:Int)<(bd:Int)+200)=true:=decide_eq_true (by omega)
        obtain ⟨ri,hri⟩:∃ ri,i % len2=ri:=⟨_,rfl⟩
        have hrl:ri<len2:=by rw [← hri]; exact Nat.mod_lt _ (by omega)
        have hrem:(i:Int).tmod (len2:Int)=(ri:Int):=by rw [← hri]; rfl
        have hcell:=((HB5.out.trans (HB.out.mono (show gm≤N by omega))).cell (p:=⟨pb,po+ri,none⟩) hpb).trans (HPc.out ri hrl)
        obtain ⟨zv,hzv⟩:∃ zv,z2.getD ri 0=zv:=⟨_,rfl⟩
        rw [hzv] at hcell;obtain ⟨v,hv255,hva⟩:=bits_any zv 255 (by decide);have hand:bits .and .i64 zv 255=(v:Int):=hva
        have dl0:((len2:Int) == 0)=false:=by simp; omega
        have hrb:0≤(ri:Int)∧(ri:Int)<(len2:Int):=by omega
        clear hri hva hzv
        by_cases h6k:3+i≤6000
        rotate_left
        · have d6:decide (((3+i:Nat):Int) > 6000)=true:=by simp; omega
          have d62:decide ((6000:Int)<((3+i:Nat):Int))=true:=by simp; omega
          have HBf:=lj (HB5.out.trans (HB.out.mono (show gm≤N by omega)));clear HR HB
          go_wp2_with fail
          refine hBdw.mono ?_;rintro r wq ⟨rfl,rfl⟩;go_wp2;go_ret;exact ⟨rfl,by rw [HG.out]; exact HBf.out⟩
        have d6:decide (((3+i:Nat):Int) > 6000)=false:=by simp; omega
        have d62:decide ((6000:Int)<((3+i:Nat):Int))=false:=by simp; omega
        obtain ⟨nn,hnn⟩:∃ nn:Nat,1+v=nn:=⟨_,rfl⟩
        have hn1:(1:Int)+(v:Int)=(nn:Int):=by omega
        have hba:Below wr.heap.size wr (wr.alloc (.cells #[.int .i64 2,.int .i64 1,.int .i64 (nn:Int),.string ⟨#[]⟩] 30)):=(Below.refl _ _).alloc (Nat.le_refl _) _;have HR8:=lj (HR.out.below hba);have HN8:=lj (show EvIn (wr.alloc (.cells #[.int .i64 2,.int .i64 1,.int .i64 (nn:Int),.string ⟨#[]⟩] 30)) (wr.heap.size+1) (some ⟨wr.heap.size,0,none⟩) [wrE (nn:Int)] from ev_one wr (wrE (nn:Int)) (Nat.zero_le _) 30);have HB8:=lj (HB.out.trans (hba.mono hNr))
        have hz8:N≤(wr.alloc (.cells #[.int .i64 2,.int .i64 1,.int .i64 (nn:Int),.string ⟨#[]⟩] 30)).heap.size:=by simp; omega
        have HWr2:=lj (show ∀ e∈NL ++ [wrE (nn:Int)],isWr e from fun e he=>by
          rcases List.mem_append.1 he with he | he
          · exact HWr.out e he
          · exact ⟨(nn:Int),List.mem_singleton.1 he,by omega,by omega⟩)
        have hnl2:(NL ++ [wrE (nn:Int)]).length=i+1:=by rw [List.length_append,hnl]; rfl
        clear hba HR HB HWr
        go_wp2_with fail
        refine hBdw.mono ?_;rintro r wq ⟨rfl,rfl⟩;clear hBdw
        go_wp2_with (first
          | (at_builtin
             refine wpList_eapp rfl (.tmp 75) (.tmp 78) rfl rfl HR8.out rfl HN8.out rfl (by omega) hz8 ?_;intro A2 c2 wz hr2 hb2;have HR9:=lj (show EvRow N wz A2 (3+(i+1)) c2 (viewHd bs 5000 ++ (NL ++ [wrE (nn:Int)])) by rw [← List.append_assoc]; exact hr2);have HB9:=lj (HB8.out.trans hb2)
             clear hr2 hb2))
        go_roundw
        case rel=>exact ⟨i+1,c2,tt+nn,A2,NL ++ [wrE (nn:Int)],rfl,by go_num,by go_num,by omega,hnl2,HWr2,by omega,by omega,HR9.out,HB9.out⟩
        case measure=>simp [intOf]; omega
      have dt:decide ((tt:Int)<(bd:Int)+200)=false:=decide_eq_false (by omega)
      have hi1:1≤i:=by omega
      obtain ⟨N2,n2,hNe,hn0,hn1⟩:∃ (N2:List Sc.Ev) (n2:Int),NL=N2 ++ [wrE n2]∧0≤n2∧n2≤65536:=by
        rcases List.eq_nil_or_concat NL with h | ⟨N2,e,h⟩
        · rw [h] at hnl; replace hnl:0=i:=hnl; omega
        · obtain ⟨n2,h1,h2,h3⟩:=HWr.out e (by rw [h]; simp)
          exact ⟨N2,n2,by rw [h,h1,List.concat_eq_append],h2,h3⟩
      have hN2:∀ e∈N2,isWr e:=fun e he=>HWr.out e (by rw [hNe]; exact List.mem_append_left _ he)
      obtain ⟨g1,g2,g3,g4⟩:=catch_list (t:=bs) (by omega) HWr.out (by omega);have HCF:=lj (cf0_ok HC.out.1);have HCe:=lj (fun (ms:List M) (rest:Bs) h=>catch_end HCF.out.1 HCF.out.2 (t:=bs) (by omega) N2 hN2 hn0 hn1 (ms:=ms) (rest:=rest) h);rw [← hNe] at HCe
      obtain ⟨E,hE⟩:∃ E,viewHd bs 5000 ++ NL=E:=⟨_,rfl⟩
      rw [hE] at g1 g2 g3 g4 HR HCe;rw [hnl] at g4;have HGs:=lj (And.intro g1 (And.intro g2 g3));have hel:E.length=3+i:=g4;have HXr:=lj (HX5.out.go HB.out hgN);have HBr:=lj (HB5.out.trans (HB.out.mono (show gm≤N by omega)))
      have hgr:gm<wr.heap.size:=by omega
      clear g1 g2 g3 g4 hE HX5 HB5 HB HWr hN2 hNe hn0 hn1 hnl
      go_wp2_with fail
      refine hBdw.mono ?_;rintro r wq ⟨rfl,rfl⟩;clear hBdw z1;have z0:=HXr.out.cell 0 (.int .i64 cf.log) rfl;have z1:=HXr.out.cell 1 (.int .i64 cf.data) rfl;have z2:=HXr.out.cell 2 (.int .i64 cf.queue) rfl;have z3:=HXr.out.cell 3 (.int .i64 cf.input) rfl;have z4:=HXr.out.cell 4 (.int .i64 cf.strikes) rfl;have z5:=HXr.out.cell 5 (.int .i64 cf.lease) rfl;have z6:=HXr.out.cell 6 (.int .i64 0) rfl;have z7:=HXr.out.cell 7 (.int .i64 cf.width) rfl;have HPl:=lj (show Calls Tryz.prog 16 #[.agg #[.int .i64 cf.log,.int .i64 cf.data,.int .i64 cf.queue,.int .i64 cf.input,.int .i64 cf.strikes,.int .i64 cf.lease,.int .i64 0,.int .i64 cf.width],.slice A (3+i) c] wq (PLGives (cf0 cf) E wq) from played_any HCF.out.1 HCF.out.2 E HGs.out.1 (by omega) HGs.out.2.1 HGs.out.2.2 A (3+i) c wq (HTI.out.below (by rw [HG.out]; exact HBr.out)) HR.out.evin hel)
      go_wp2_with fail
      refine HPl.out.mono ?_;rintro r w9 ⟨g,n0,ao,co,rfl,hn0,hls,hrow,_,hb9⟩;rw [hel] at hrow ⊢;have HL9:=lj (show LBx n0 g w9 (prun (bnew (cf0 cf)) E) from hls.lbx);have HB9:=lj (HBr.out.trans (hb9.mono (Nat.le_of_lt hgr)));have HE9:=lj ((HR.out.evin.below hb9).more hb9.size);have HO9:=lj (show OtIn w9 w9.heap.size ao (pouts (bnew (cf0 cf)) E) from hrow.otin);have hg9:gm<w9.heap.size:=Nat.lt_of_lt_of_le hgr hb9.size;have HOt:=lj (pouts_t E (bnew (cf0 cf)));have hol:=pouts_len E (bnew (cf0 cf));rw [hel] at hol;clear hrow hb9 HPl hn0 HXr HBr HR hls z0 z1 z2 z3 z4 z5 z6 z7;have HWr:=lj (twritten_any 1 (cap:=c) (cap2:=co) w9 HE9.out hel HO9.out hol (by omega) HOt.out)
      go_wp2_with fail
      refine HWr.out.mono ?_;rintro r wa ⟨R,rc,ms,rest,rfl,hms,hrow,hba⟩;obtain ⟨hk,hsn,hor⟩:=HCe.out ms rest hms;have HOr:=lj hor;have HSn:=lj hsn;have HKs:=lj hk
      have hel2:(encs ms).length≤400000000:=by
        have h1:=wrt_len 1 (E.zip (pouts (bnew (cf0 cf)) E)) [] fun q hq=>HOt.out q.2 (List.of_mem_zip hq).2
        have h2:=congrArg List.length hms.all;rw [List.length_append] at h2;rw [List.length_zip,hel,hol] at h1;simp at h1;have:65536 * (3+i)≤65536 * 6003:=Nat.mul_le_mul_left _ (by omega);omega
      have hml:=encs_ge ms;have HMo:=lj hms.ok;have HLa:=lj (HL9.out.below hba);have HBa:=lj (HB9.out.trans (hba.mono (Nat.le_of_lt hg9)));have HMi:=lj (show MsgIn wa wa.heap.size R ms from hrow.msin);have hga:gm<wa.heap.size:=Nat.lt_of_lt_of_le hg9 hba.size;have hev:=(ev_from HCF.out.2 E HGs.out.2.1).ok
      obtain ⟨bf,hbf⟩:∃ bf,prun (bnew (cf0 cf)) E=bf:=⟨_,rfl⟩
      rw [hbf] at HLa HOr HSn hev;have HOk:=lj hev;clear hms hrow hba HWr HB9 HE9 HO9 hk hsn hor HCe HGs HOt hol HL9 hev hbf
      go_wp2_with fail
      go_loopw [17,100] (fun s17 s100 wr=>∃ j:Nat,s100 = .int .i64 (j:Nat)∧s17 = .string (str (datas (ms.take j)))∧j≤ms.length∧Below wa.heap.size wa wr) (fun _ s _=>ms.length - (intOf s).toNat)
      case atStart=>exact ⟨0,rfl,rfl,Nat.zero_le _,Below.refl _ _⟩
      case round =>
        obtain ⟨j,rfl,rfl,hj,hb⟩:=hrel;have HBz:=lj hb;have hzz:=hb.size;clear hb
        have hdl:(datas (ms.take j)).length≤400000000:=by
          have h1:=datas_len (ms.take j)
          have h2:(encs (ms.take j)).length≤(encs ms).length:=by
            have h3:=congrArg List.length (congrArg encs (List.take_append_drop j ms));rw [encs_app,List.length_append] at h3;omega
          omega
        by_cases hjl:j<ms.length
        · obtain ⟨m,hm⟩:∃ m,ms[j]?=some m:=⟨_,List.getElem?_eq_getElem hjl⟩
          obtain ⟨k7,k12,k13⟩:=HKs.out m (List.mem_of_getElem? hm);have HNx:=lj (datas_next ms j m hm);obtain ⟨bm,om,rfl,hbm,hcm⟩:=(HMi.out.below HBz.out).outer (by omega)
          have hmt:m.t.length≤2042:=by
            have h1:=Ms.rt_n (HMo.out m (List.mem_of_getElem? hm));have h2:=Ms.tx_le m.k;omega
          obtain ⟨v0,v1,v2,v3⟩:=hcm j m hm;have dj:decide ((j:Int)<(ms.length:Int))=true:=decide_eq_true (by omega)
          have d7:(m.k == 7)=false:=by simpa using k7
          have d12:(m.k == 12)=false:=by simpa using k12
          have d13:(m.k == 13)=false:=by simpa using k13
          have hbb:Below wr.heap.size wr (wr.alloc (.cells #[.int .i64 m.k,.int .i64 m.a,.int .i64 m.b,.string (str m.t)] 42)):=(Below.refl _ _).alloc (Nat.le_refl _) _;have HXm:=lj (Bx.new wr wr.heap.size rfl #[.int .i64 m.k,.int .i64 m.a,.int .i64 m.b,.string (str m.t)] 42);have HBc:=lj (HBz.out.trans (hbb.mono hzz))
          obtain ⟨ds,hds⟩:∃ ds,datas (ms.take j)=ds:=⟨_,rfl⟩
          rw [hds] at hdl HNx ⊢;have hsz:=str_size ds;have hsx:=str_size m.t;have hap:=str_app ds m.t
          have hno:¬ (9223372036854775807<ds.length+m.t.length):=by omega
          clear hcm hm hbb k7 k12 k13 hds
          go_upto_region 25 with fail
          generalize wr.alloc (.cells #[.int .i64 m.k,.int .i64 m.a,.int .i64 m.b,.string (str m.t)] 42)=wb at *;clear v0 v1 v2 v3;have a0:=HXm.out.cell 0 (.int .i64 m.k) rfl;have a3:=HXm.out.cell 3 (.string (str m.t)) rfl
          by_cases h6:m.k=6
          · have d6:(m.k == 6)=true:=by simp [h6]
            have hw:datas (ms.take (j+1))=ds ++ m.t:=by rw [HNx.out,if_pos h6]
            have H6:=lj h6;clear h6
            go_wp2_with fail
            go_roundw
            case rel=>exact ⟨j+1,by go_num,by rw [hw,hap],by omega,HBc.out⟩
            case measure=>simp [intOf]; omega
          · have d6:(m.k == 6)=false:=by simpa using h6
            have hw:datas (ms.take (j+1))=ds:=by rw [HNx.out,if_neg h6,List.append_nil]
            go_wp2_with fail
            go_roundw
            case rel=>exact ⟨j+1,by go_num,by rw [hw],by omega,HBc.out⟩
            case measure=>simp [intOf]; omega
        obtain rfl:j=ms.length:=by omega
        have dj:decide ((ms.length:Int)<(ms.length:Int))=false:=by simp
        rw [List.take_length] at hdl ⊢;have HLz:=lj (HLa.out.below HBz.out);have HBy:=lj (HBa.out.trans (HBz.out.mono (Nat.le_of_lt hga)));clear HBz HBa HLa HMi HKs;have HSe:=lj (lb_seen HLz.out 1);rw [HSn.out] at HSe
        go_wp2_with fail
        refine HSe.out.mono ?_;rintro r wb ⟨rfl,hl1,hb1⟩;have HL1:=lj hl1
        have hgz:gm<wr.heap.size:=by omega
        have HBb:=lj (HBy.out.trans (hb1.mono (Nat.le_of_lt hgz)));clear hl1 hb1 HSe HLz HBy
        go_upto_region 31 with fail
        have HBs9:=lj (show Bytes wb gm a1 len1 bs from HBs0'.out.below HBb.out)
        obtain ⟨kc,hkc⟩:∃ kc:Nat,len1 - lag=kc:=⟨_,rfl⟩
        have hlg1:lag≤len1:=by have:=HLG.out; omega
        have hsub:(len1:Int) - (lag:Int)=(kc:Int):=by omega
        have hkl:kc≤len1:=by omega
        have hcut:=HBs9.out.cut (k:=kc) hkl hbc
        obtain ⟨dr,hdr⟩:∃ dr,bs.drop kc=dr:=⟨_,rfl⟩
        rw [hdr] at hcut;have hcv:=conv_str (cap:=cap1 - kc) hcut
        have hgot:datas ms=bs.drop (bs.length - min bs.length (cf0 cf).log)↔datas ms=dr:=by
          rw [← hdr,show bs.length - min bs.length (cf0 cf).log=kc by rw [hbl]; show len1 - min len1 cf.log=kc; rw [HLG.out]; exact hkc]
        obtain ⟨gt,hgt⟩:∃ gt,datas ms=gt:=⟨_,rfl⟩
        obtain ⟨sn,hsn⟩:∃ sn,(seenB bf 1).1=sn:=⟨_,rfl⟩
        obtain ⟨wt,hwt⟩:∃ wt,waitB bf 1=wt:=⟨_,rfl⟩
        have HWt:=lj (lb_waiting HL1.out 1 (by decide));rw [hwt] at HWt
        have HOr2:=lj (show 0<wt∨(rest=[]∧gt=dr∧sn=len1) from by
          have h:=HOr.out;rw [hwt,hsn,hbl] at h
          rcases h with h | ⟨_,h1,h2,h3⟩
          · exact .inl h
          · refine .inr ⟨h1,?_,h3⟩
            rw [← hgt];refine hgot.1 ?_;rw [hbl]
            exact h2)
        have hbeq:=str_beq gt dr;rw [hgt,hsn];clear hgot hdr hkc hlg1 hgt hsn hwt HOr HLG hcut hdl
        by_cases hr0:rest=[]
        rotate_left
        · have hw0:0<wt:=HOr2.out.resolve_right fun h=>hr0 h.1
          have hne:(str rest).toList.isEmpty=false:=by
            rw [str_empty]
            rcases rest with _ | ⟨x,l⟩
            · exact absurd rfl hr0
            · rfl
          have dw:decide ((wt:Int) > 0)=true:=by simp; omega
          have dw2:decide ((0:Int)<(wt:Int))=true:=by simp; omega
          clear hr0 HOr2 hcv hbeq
          go_wp2_with fail
          refine HWt.out.mono ?_;rintro r wz ⟨rfl,rfl⟩;go_wp2;go_ret;exact ⟨rfl,by rw [HG.out]; exact HBb.out⟩
        subst hr0;rw [show str ([]:Bs)=⟨#[]⟩ from rfl]
        by_cases hck:cap1=kc
        · subst hck
          unfold cutA at hcv
          have e0:len1 - cap1=0:=by omega
          rw [if_pos rfl,Nat.sub_self,e0] at hcv;clear e0
          by_cases hg0:gt=dr
          rotate_left
          · have hw0:0<wt:=HOr2.out.resolve_right fun h=>hg0 h.2.1
            rw [decide_eq_false hg0] at hbeq
            have dw:decide ((wt:Int) > 0)=true:=by simp; omega
            have dw2:decide ((0:Int)<(wt:Int))=true:=by simp; omega
            clear hg0 HOr2
            go_wp2_with fail
            refine HWt.out.mono ?_;rintro r wz ⟨rfl,rfl⟩;go_wp2;go_ret;exact ⟨rfl,by rw [HG.out]; exact HBb.out⟩
          rw [decide_eq_true hg0] at hbeq;clear hg0
          by_cases hs0:sn=len1
          rotate_left
          · have hw0:0<wt:=HOr2.out.resolve_right fun h=>hs0 h.2.2
            have ds:((sn:Int) == (len1:Int))=false:=by simp; omega
            have dw:decide ((wt:Int) > 0)=true:=by simp; omega
            have dw2:decide ((0:Int)<(wt:Int))=true:=by simp; omega
            clear hs0 HOr2
            go_wp2_with fail
            refine HWt.out.mono ?_;rintro r wz ⟨rfl,rfl⟩;go_wp2;go_ret;exact ⟨rfl,by rw [HG.out]; exact HBb.out⟩
          have ds:((sn:Int) == (len1:Int))=true:=by simp [hs0]
          clear hs0 HOr2;go_wp2;go_ret;exact ⟨rfl,by rw [HG.out]; exact HBb.out⟩
        unfold cutA at hcv;rw [if_neg hck] at hcv
        by_cases hg0:gt=dr
        rotate_left
        · have hw0:0<wt:=HOr2.out.resolve_right fun h=>hg0 h.2.1
          rw [decide_eq_false hg0] at hbeq
          have dw:decide ((wt:Int) > 0)=true:=by simp; omega
          have dw2:decide ((0:Int)<(wt:Int))=true:=by simp; omega
          clear hg0 HOr2
          go_wp2_with fail
          refine HWt.out.mono ?_;rintro r wz ⟨rfl,rfl⟩;go_wp2;go_ret;exact ⟨rfl,by rw [HG.out]; exact HBb.out⟩
        rw [decide_eq_true hg0] at hbeq;clear hg0
        by_cases hs0:sn=len1
        rotate_left
        · have hw0:0<wt:=HOr2.out.resolve_right fun h=>hs0 h.2.2
          have ds:((sn:Int) == (len1:Int))=false:=by simp; omega
          have dw:decide ((wt:Int) > 0)=true:=by simp; omega
          have dw2:decide ((0:Int)<(wt:Int))=true:=by simp; omega
          clear hs0 HOr2
          go_wp2_with fail
          refine HWt.out.mono ?_;rintro r wz ⟨rfl,rfl⟩;go_wp2;go_ret;exact ⟨rfl,by rw [HG.out]; exact HBb.out⟩
        have ds:((sn:Int) == (len1:Int))=true:=by simp [hs0]
        clear hs0 HOr2;go_wp2;go_ret;exact ⟨rfl,by rw [HG.out]; exact HBb.out⟩
theorem w_in:Tryz.checked.prog.inits.idxOf? 7=none:=by kernel_rfl
theorem w_ok (os:Os):Input.okWideB Tryz.prog ((World.doorLaid Tryz.prog 400 os).forCall (fun _ _=>0) ⟨#[],#[.agg #[.int .i64 0,.int .i64 0,.int .i64 0,.int .i64 0,.int .i64 0,.int .i64 0,.int .i64 0,.int .i64 0],.slice none 0 0,.slice none 0 0],[]⟩) 7 ⟨#[],#[.agg #[.int .i64 0,.int .i64 0,.int .i64 0,.int .i64 0,.int .i64 0,.int .i64 0,.int .i64 0,.int .i64 0],.slice none 0 0,.slice none 0 0],[]⟩=true:=by kernel_rfl
theorem w_pre (os:Os) (H:Type) (enc:TypeId×Value→H):Rows.wholeCatchSpec.preB enc Tryz.prog Tryz.f7 [] false ((World.doorLaid Tryz.prog 400 os).forCall (fun _ _=>0) ⟨#[],#[.agg #[.int .i64 0,.int .i64 0,.int .i64 0,.int .i64 0,.int .i64 0,.int .i64 0,.int .i64 0,.int .i64 0],.slice none 0 0,.slice none 0 0],[]⟩).memory #[.agg #[.int .i64 0,.int .i64 0,.int .i64 0,.int .i64 0,.int .i64 0,.int .i64 0,.int .i64 0,.int .i64 0],.slice none 0 0,.slice none 0 0] 8=true:=by kernel_rfl
theorem w_sz (os:Os) (H:Type) (enc:TypeId×Value→H):Rows.wholeCatchSpec.sizedB enc Tryz.prog Tryz.f7 false ((World.doorLaid Tryz.prog 400 os).forCall (fun _ _=>0) ⟨#[],#[.agg #[.int .i64 0,.int .i64 0,.int .i64 0,.int .i64 0,.int .i64 0,.int .i64 0,.int .i64 0,.int .i64 0],.slice none 0 0,.slice none 0 0],[]⟩).memory #[.agg #[.int .i64 0,.int .i64 0,.int .i64 0,.int .i64 0,.int .i64 0,.int .i64 0,.int .i64 0,.int .i64 0],.slice none 0 0,.slice none 0 0] 8=true:=by kernel_rfl
theorem lifted (os:Os) (started:os.Started) (H:Type) (enc:TypeId×Value→H) :
  ReturnsInHanded {} Tryz.checked os 7 .any (fun w args=>(Rows.wholeCatchSpec.pre enc Tryz.prog Tryz.f7 [] false w args∧laidMetH Tryz.prog laidL w)∧sizedMet enc Tryz.prog Tryz.f7 (OpenSpec.ofChange Rows.wholeCatchSpec) false w args)
   (Rows.wholeCatchSpec.post enc Tryz.prog Tryz.f7 false true false false):=by
 refine returnsInHanded_of_change_and (C:=Tryz.checked) (X:=fun w _=>laidMetH Tryz.prog laidL w) (fun _ _ _ hh h=>h.of_heap hh) own started w_in Tryz.func7
  (ChangeSpec.witness_shaped (enc:=enc) (C:=Tryz.checked) (os:=os) (X:=fun w _=>laidMetH Tryz.prog laidL w) false (World.doorLaid Tryz.prog 400 os) #[.agg #[.int .i64 0,.int .i64 0,.int .i64 0,.int .i64 0,.int .i64 0,.int .i64 0,.int .i64 0,.int .i64 0],.slice none 0 0,.slice none 0 0] 8 rfl (door_shaped os _) (w_ok os) (w_pre os H enc) (w_sz os H enc) (door_met os _)) ?_
 intro W base args ds gs before hval0 hW hcnd hsz0 hL _;have hti:=ti_of hL
 have hval:∀ (j:Nat) t v,Tryz.f7.params[j]?=some t→args[j]?=some v→Value.okWide Tryz.prog W .any base t v:=hval0
 have hW':=hW;obtain ⟨p,q,hA0,hV,rfl,hfz,hnd⟩:=hW;have hsz:(DataW.weightsEach Tryz.prog (Tryz.f7.params.toList ++ Rows.wholeCatchSpec.plain.varTypes Tryz.prog) (ds ++ gs)).all (·≤reachBytes)=true:=hsz0;have hA:DataW.TrodAll enc Tryz.prog W 0 (fun _=>true) true Tryz.f7.params.toList args.toList ds p:=hA0;rw [Tryz.params7] at hA hval hsz;obtain ⟨v0,vs0,d0,ds0,p0,q0,hargs,rfl,rfl,h0,r0⟩:=trodAll_cons hA;obtain ⟨v1,vs1,d1,ds1,p1,q1,rfl,rfl,rfl,h1,r1⟩:=trodAll_cons r0;obtain ⟨v2,vs2,d2,ds2,p2,q2,rfl,rfl,rfl,h2,r2⟩:=trodAll_cons r1;obtain ⟨rfl,rfl,rfl⟩:=trodAll_nil r2
 obtain rfl:args = #[v0,v1,v2]:=by cases args; simp_all
 obtain ⟨rfl,rfl⟩:=trodVars_none hV;have k0:=h0
 have lt0:∀ x∈p0,x.block<W.heap.size:=by obtain ⟨m,hm⟩:=k0; exact DataW.trod_lt m _ _ _ hm
 obtain ⟨ca0,cb0,cc0,cd0,ce0,cf0,cg0,ch0,rfl⟩:=open_conf (hval 0 23 v0 rfl rfl) h0;obtain ⟨a1,len1,cap1,rfl⟩:=okWide_slice Tryz.underlying24 (hval 1 24 v1 rfl rfl);have k1:=h1
 have lt1:∀ x∈p1,x.block<W.heap.size:=by obtain ⟨m,hm⟩:=k1; exact DataW.trod_lt m _ _ _ hm
 obtain ⟨z1,w1⟩:∃ zs,IsRow .u8 W a1 len1 cap1 zs:=by
  obtain ⟨fuel,hf⟩:=h1;exact open_brow hf
 obtain ⟨a2,len2,cap2,rfl⟩:=okWide_slice Tryz.underlying45 (hval 2 45 v2 rfl rfl);have k2:=h2
 have lt2:∀ x∈p2,x.block<W.heap.size:=by obtain ⟨m,hm⟩:=k2; exact DataW.trod_lt m _ _ _ hm
 obtain ⟨z2,w2⟩:∃ zs,IsRow .i64 W a2 len2 cap2 zs:=by
  obtain ⟨fuel,hf⟩:=h2;exact open_row hf
 clear hA0 hval0 hsz hsz0
 refine (walk ca0 cb0 cc0 cd0 ce0 cf0 cg0 ch0 a1 len1 cap1 z1 a2 len2 cap2 z2 W w1 w2 hti).mono fun e W' ⟨he,bel⟩=>?_
 subst he;exact ⟨_,rfl,_,_,_,[],_,[],hW',trodAll_mk1 (shut_bool Tryz.underlying4 _),(trodAll_cons_mk (Below.trod laidOut (by kernel_rfl) (of_decide_eq_true (by kernel_rfl)) k0 bel lt0) (trodAll_cons_mk (Below.trod laidOut (by kernel_rfl) (of_decide_eq_true (by kernel_rfl)) k1 bel lt1) (trodAll_cons_mk (Below.trod laidOut (by kernel_rfl) (of_decide_eq_true (by kernel_rfl)) k2 bel lt2) trodAll_mk0))),rfl,bel.frame _,fun h=>by cases h⟩
theorem q0:(Rows.wholeCatchRow.wf (OpenSpec.ofChange Rows.wholeCatchSpec))=true:=by kernel_rfl
theorem q3:(Tryz.f7.params.all (Tryz.prog.readableRec ·))=true:=by kernel_rfl
theorem q4:(namedTie Tryz.prog Rows.wholeCatchRow.named Rows.wholeCatchSpec.vars)=true:=by kernel_rfl
theorem q5:((Rows.wholeCatchRow.stops == []))=true:=by kernel_rfl
theorem q7:((Rows.wholeCatchRow.knobs == []))=true:=by kernel_rfl
theorem q9:((Rows.wholeCatchRow.inPlace == Tryz.prog.inPlace 7))=true:=by kernel_rfl
theorem q10:((Rows.wholeCatchRow.unfollowed == Tryz.prog.unfollowed 7))=true:=by kernel_rfl
theorem q11:((Rows.wholeCatchRow.recurses == Tryz.prog.recurses 7))=true:=by kernel_rfl
theorem q12:((Rows.wholeCatchRow.named == Tryz.prog.varsNamed 7))=true:=by kernel_rfl
theorem q13:((Rows.wholeCatchRow.maps == (Tryz.f7.params.toList ++ Rows.wholeCatchSpec.plain.varTypes Tryz.prog).any (Tryz.prog.mapsRec ·)))=true:=by kernel_rfl
theorem q14:((Rows.wholeCatchRow.ifaces == (Tryz.f7.params.toList ++ Rows.wholeCatchSpec.plain.varTypes Tryz.prog).any (Tryz.prog.ifacesRec ·)))=true:=by kernel_rfl
theorem q15:((Rows.wholeCatchRow.mapsOut == Tryz.prog.mapsAmong Tryz.f7.resultTypes.toList))=true:=by kernel_rfl
theorem q16:((Rows.wholeCatchRow.loops == (Tryz.f7.params.toList ++ Rows.wholeCatchSpec.plain.varTypes Tryz.prog).any (Tryz.prog.loopsFrom ·)))=true:=by kernel_rfl
theorem q17:((Rows.wholeCatchRow.wideKeys == (Tryz.f7.params.toList ++ Rows.wholeCatchSpec.plain.varTypes Tryz.prog ++ Tryz.f7.resultTypes.toList).any (Tryz.prog.wideKeysFrom ·)))=true:=by kernel_rfl
theorem q18:(Rows.wholeCatchSpec.vars.all (Tryz.prog.varReadable ·))=true:=by kernel_rfl
theorem q19:(Tryz.f7.resultTypes.all (fun t=>Tryz.prog.readableRec t && decide (t<Tryz.prog.types.size)))=true:=by kernel_rfl
theorem q20:((Rows.wholeCatchRow.ifacesOut == Tryz.f7.resultTypes.toList.any (Tryz.prog.ifacesRec ·)))=true:=by kernel_rfl
theorem q21:((Rows.wholeCatchRow.loopsOut == Tryz.f7.resultTypes.toList.any (Tryz.prog.loopsFrom ·)))=true:=by kernel_rfl
theorem q22:((Rows.wholeCatchRow.plainKeys == Tryz.prog.plainKeys))=true:=(show Rows.wholeCatchRow.plainKeys=Rows.wholeTilesRow.plainKeys from rfl) ▸ pq22
theorem q23:(Rows.wholeCatchRow.shortTexts.isNone)=true:=by kernel_rfl
theorem q26:((Rows.wholeCatchRow.lifted == Tryz.prog.liftsFinal))=true:=(show Rows.wholeCatchRow.lifted=Rows.wholeTilesRow.lifted from rfl) ▸ pq26
theorem q27:((Tryz.prog.make == some Rows.wholeCatchRow.make))=true:=(show Rows.wholeCatchRow.make=Rows.wholeTilesRow.make from rfl) ▸ pq27
theorem q28:kindsAre Tryz.prog Rows.wholeCatchRow Tryz.f7=true:=by kernel_rfl
theorem q29:((Rows.wholeCatchRow.pinned == Rows.wholeCatchRow.pinnedBy))=true:=by kernel_rfl
theorem q30:((Rows.wholeCatchRow.veiled == (Tryz.f7.params.toList ++ Rows.wholeCatchSpec.plain.varTypes Tryz.prog ++ Tryz.f7.resultTypes.toList).any (Tryz.prog.veiledRec ·)))=true:=by kernel_rfl
theorem q31:(Rows.wholeCatchRow.veiledFits Tryz.prog Tryz.f7.params.toList (Tryz.f7.params.toList ++ Rows.wholeCatchSpec.plain.varTypes Tryz.prog ++ Tryz.f7.resultTypes.toList))=true:=by kernel_rfl
theorem q_named:Tryz.prog.funcNamed Rows.wholeCatchRow.func=some 7:=by kernel_rfl
theorem q_inst:Tryz.f7.isInstance Tryz.prog Rows.wholeCatchRow.origin Rows.wholeCatchRow.targs:=of_decide_eq_true (by kernel_rfl)
theorem q_wrap:Tryz.f7.isWrapper Tryz.prog Rows.wholeCatchRow.wrapper Rows.wholeCatchRow.mainSum:=by unfold Func.isWrapper; first | (rw [if_pos (by decide +kernel)]; kernel_rfl) | (rw [if_neg (by decide +kernel)]; exact ⟨rfl,rfl⟩)
theorem q_all:joinedFacts Tryz.prog 7 Tryz.f7 Rows.wholeCatchSpec Rows.wholeCatchRow=true:=joined_of (P:=Tryz.prog) (f:=7) (fn:=Tryz.f7) (s:=Rows.wholeCatchSpec) (c:=Rows.wholeCatchRow) q0 pq1 pq2 q3 q4 q5 pq6 q7 pq8 q9 q10 q11 q12 q13 q14 q15 q16 q17 q18 q19 q20 q21 q22 q23 pq24 pq25 q26 q27 q28 q29 q30 q31
theorem over:Rows.WholeCatchSaid:=
 OpenClaim.holds_of_wide 7 Tryz.f7 rfl rfl rfl rfl rfl rfl rfl ⟨rfl,rfl,rfl,rfl,rfl⟩ rfl rfl rfl rfl rfl q_named Tryz.func7 q_all q_inst q_wrap
  (fun os started H enc _=>lifted os started H enc)
theorem c_wf:Rows.wholeCatchRow.wfByText (OpenSpec.ofChange Rows.wholeCatchSpec)=true:=by kernel_rfl
theorem c_looks:true=Tryz.prog.looks []:=by kernel_rfl
theorem c_stand:([23,24,45].all fun u=>!Tryz.prog.wantsStandIn u)=true:=by kernel_rfl
theorem c_goes:false=Rows.wholeCatchRow.goesBy Tryz.prog:=by kernel_rfl
end wholeCatch
theorem wholeCatch_holds:Rows.WholeCatchCardSaid:=
 Claim7.holds_tied_plain_at (c:=Rows.wholeCatchRow) .later [] _ true _ true
  wholeCatch.over (fun _ h=>by cases h) wholeCatch.c_wf (fun _ h=>by cases h) wholeCatch_row_tie rfl ⟨rfl,rfl⟩ main_is rfl
  (fun f fn hf hfn=>by
   obtain rfl:f=7:=Option.some.inj (wholeCatch.q_named.symm.trans hf) |>.symm
   obtain rfl:fn=Tryz.f7:=(Option.some.inj (Tryz.func7.symm.trans hfn)).symm
   exact ⟨wholeCatch.c_looks,fun j t ht=>by
    rw [Tryz.params7] at ht
    have hm:t∈[23,24,45]:=by simpa using Array.mem_of_getElem? ht
    exact (show Tryz.prog.wantsStandIn t=false by simpa using List.all_eq_true.1 wholeCatch.c_stand t hm)⟩)
  wholeCatch.c_goes
#print axioms wholeCatch_holds
end Go.Proofs.YtalichkdeekdcaaGreatDoor
