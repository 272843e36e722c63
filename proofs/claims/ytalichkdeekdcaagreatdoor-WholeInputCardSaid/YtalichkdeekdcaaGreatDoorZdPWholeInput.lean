/- WholeInput: for every input the law answers true, and its arguments read as before. Conditions: none. -/
import Derived.Test.YtalichkdeekdcaaGreatDoorZd26
import Derived.Test.YtalichkdeekdcaaGreatDoorZd49
import Derived.Test.YtalichkdeekdcaaGreatDoorZd50
namespace Go.Proofs.YtalichkdeekdcaaGreatDoor
set_option maxRecDepth 100000
open Go.Lib renaming hid → lj
namespace wholeInput
open Go.ChangeShapes Go.WideShapes Go.ChangeAt Go.RowKit
open Fr Bk
theorem cf4_ok {cf:Cf} (h:CfOk cf):CfOk (cf4 cf)∧EvOk (bnew (cf4 cf)) 0 0 0:=by
 have ho:CfOk (cf4 cf):=⟨h.log,h.data,show 220≤4000∧4000≤65536 by decide,h.input,h.strikes,h.lease,Nat.zero_le _,h.width⟩;exact ⟨ho,conf_ev ho⟩
theorem wpOp_value {P:Program} {ops:Array Oper} {Q:Exit→Act→World→Prop} {i:Nat} {o:Oper} {K:Act→World→Prop} {a:Act} {w w':World} {v:Value} (ho:ops[i]?=some o) (hg:o.guard=none)
  (hr:(execOp a.eval o).run P w = .ok (.value v) w') (h:K (a.put o.dst v) w'):wpOp P ops Q i K a w:=by
 unfold wpOp;simp only [ho];rw [if_pos (by simp [Region.wanted,hg])]
 left
 unfold Oper.wp;rw [hr];exact h
set_option maxHeartbeats 40000000 in
theorem walk (ca0 cb0 cc0 cd0 ce0 cf0 cg0 ch0:Int) (a1:Option Addr) (len1 cap1:Nat) (z1:List Int) (a2:Option Addr) (len2 cap2:Nat) (T2:List Bs) (w:World)  (w1:IsRow .i64 w a1 len1 cap1 z1) (w2:Vals w w.heap.size a2 len2 (strs T2)) (g2:len2≤cap2∧cap2≤maxLen∧∀ t∈T2,t.length≤maxLen) (ht:TI w) :
    Calls Tryz.prog 4 #[.agg (cv ca0 cb0 cc0 cd0 ce0 cf0 cg0 ch0),.slice a1 len1 cap1,.slice a2 len2 cap2] w fun e w'=>e = .returned (.bool true)∧Below w.heap.size w w':=by
  obtain ⟨hbc,hbm⟩:=IsRow.cap w1;have HPz:=lj w1;have HQz:=lj w2;have HG2:=lj g2;have hl2c:len2≤cap2:=g2.1
  have hTl:T2.length=len2:=by have:=w2.1; rwa [strs_len] at this
  clear w1 w2;have HTI:=lj ht
  have h163:len1≤9223372036854775807:=by unfold maxLen at hbm; omega
  have h263:len2≤9223372036854775807:=by have:=g2.2.1; unfold maxLen at this; omega
  clear ht g2
  by_cases hrt:rt ca0 cb0 cc0 cd0 ce0 cf0 cg0 ch0=true
  rotate_left
  · as_aux_lemma =>
    have hrt:rt ca0 cb0 cc0 cd0 ce0 cf0 cg0 ch0=false:=by simpa using hrt
    unfold cv
    go_enter Tryz.func4,Tryz.ntmps4
    have hxm:=Bx.new w _ rfl #[.int .i64 ca0,.int .i64 cb0,.int .i64 cc0,.int .i64 cd0,.int .i64 ce0,.int .i64 cf0,.int .i64 cg0,.int .i64 ch0] 23;have hba:Below w.heap.size w (w.alloc (.cells #[.int .i64 ca0,.int .i64 cb0,.int .i64 cc0,.int .i64 cd0,.int .i64 ce0,.int .i64 cf0,.int .i64 cg0,.int .i64 ch0] 23)):=(Below.refl _ _).alloc (Nat.le_refl _) _
    have hsz:w.heap.size<(w.alloc (.cells #[.int .i64 ca0,.int .i64 cb0,.int .i64 cc0,.int .i64 cd0,.int .i64 ce0,.int .i64 cf0,.int .i64 cg0,.int .i64 ch0] 23)).heap.size:=by simp
    go_wp2_with fail
    generalize w.alloc (.cells #[.int .i64 ca0,.int .i64 cb0,.int .i64 cc0,.int .i64 cd0,.int .i64 ce0,.int .i64 cf0,.int .i64 cg0,.int .i64 ch0] 23)=wa at *
    obtain ⟨gm,hgm⟩:∃ gm,w.heap.size=gm:=⟨_,rfl⟩
    rw [hgm] at hxm hba hsz;have HG:=lj hgm;have hTI:=HTI.out.below (hgm ▸ hba);rw [hgm];clear hgm;refine (alive_any wa hTI).mono ?_;rintro e w1 ⟨rfl,hb1⟩;have HX1:=lj (hxm.go hb1 hsz);have HB1:=lj (Below.trans hba (hb1.mono (Nat.le_of_lt hsz)));have HS1:=lj (Nat.lt_of_lt_of_le hsz hb1.size);clear hxm hba hb1 hTI hsz;have z0:=HX1.out.cell 0 (.int .i64 ca0) rfl;have z1:=HX1.out.cell 1 (.int .i64 cb0) rfl;have z2:=HX1.out.cell 2 (.int .i64 cc0) rfl;have z3:=HX1.out.cell 3 (.int .i64 cd0) rfl;have z4:=HX1.out.cell 4 (.int .i64 ce0) rfl;have z5:=HX1.out.cell 5 (.int .i64 cf0) rfl;have z6:=HX1.out.cell 6 (.int .i64 cg0) rfl;have z7:=HX1.out.cell 7 (.int .i64 ch0) rfl
    go_wp2_with fail
    refine (cright_any ca0 cb0 cc0 cd0 ce0 cf0 cg0 ch0 w1).mono ?_;rintro e w3 ⟨rfl,hb3⟩;rw [hrt];have HX3:=lj (HX1.out.go hb3 HS1.out);have HB3:=lj (Below.trans HB1.out (hb3.mono (Nat.le_of_lt HS1.out)));have HS3:=lj (Nat.lt_of_lt_of_le HS1.out hb3.size);clear hb3 HX1 HB1 HS1 z0 z1 z2 z3 z4 z5 z6 z7;go_wp2;go_ret;exact ⟨rfl,by rw [HG.out]; exact HB3.out⟩
  obtain ⟨cf,hcf,hev0,rfl,rfl,rfl,rfl,rfl,rfl,rfl,rfl⟩:=rt_cf hrt;have HC:=lj hcf;clear hcf hev0;unfold cv
  go_enter Tryz.func4,Tryz.ntmps4
  have hxm:=Bx.new w _ rfl #[.int .i64 cf.log,.int .i64 cf.data,.int .i64 cf.queue,.int .i64 cf.input,.int .i64 cf.strikes,.int .i64 cf.lease,.int .i64 cf.idle,.int .i64 cf.width] 23;have hba:Below w.heap.size w (w.alloc (.cells #[.int .i64 cf.log,.int .i64 cf.data,.int .i64 cf.queue,.int .i64 cf.input,.int .i64 cf.strikes,.int .i64 cf.lease,.int .i64 cf.idle,.int .i64 cf.width] 23)):=(Below.refl _ _).alloc (Nat.le_refl _) _
  have hsz:w.heap.size<(w.alloc (.cells #[.int .i64 cf.log,.int .i64 cf.data,.int .i64 cf.queue,.int .i64 cf.input,.int .i64 cf.strikes,.int .i64 cf.lease,.int .i64 cf.idle,.int .i64 cf.width] 23)).heap.size:=by simp
  go_wp2_with fail
  generalize w.alloc (.cells #[.int .i64 cf.log,.int .i64 cf.data,.int .i64 cf.queue,.int .i64 cf.input,.int .i64 cf.strikes,.int .i64 cf.lease,.int .i64 cf.idle,.int .i64 cf.width] 23)=wa at *
  obtain ⟨gm,hgm⟩:∃ gm,w.heap.size=gm:=⟨_,rfl⟩
  rw [hgm] at hxm hba hsz;have HG:=lj hgm;have hTI:=HTI.out.below (hgm ▸ hba);rw [hgm];clear hgm;refine (alive_any wa hTI).mono ?_;rintro e w1 ⟨rfl,hb1⟩;have HX1:=lj (hxm.go hb1 hsz);have HB1:=lj (Below.trans hba (hb1.mono (Nat.le_of_lt hsz)));have HS1:=lj (Nat.lt_of_lt_of_le hsz hb1.size);clear hxm hba hb1 hTI hsz;have z0:=HX1.out.cell 0 (.int .i64 cf.log) rfl;have z1:=HX1.out.cell 1 (.int .i64 cf.data) rfl;have z2:=HX1.out.cell 2 (.int .i64 cf.queue) rfl;have z3:=HX1.out.cell 3 (.int .i64 cf.input) rfl;have z4:=HX1.out.cell 4 (.int .i64 cf.strikes) rfl;have z5:=HX1.out.cell 5 (.int .i64 cf.lease) rfl;have z6:=HX1.out.cell 6 (.int .i64 cf.idle) rfl;have z7:=HX1.out.cell 7 (.int .i64 cf.width) rfl
  go_wp2_with fail
  refine (cright_any ((cf.log:Nat)) ((cf.data:Nat)) ((cf.queue:Nat)) ((cf.input:Nat)) ((cf.strikes:Nat)) ((cf.lease:Nat)) ((cf.idle:Nat)) ((cf.width:Nat)) w1).mono ?_;rintro e w3 ⟨rfl,hb3⟩;rw [hrt];have HX3:=lj (HX1.out.go hb3 HS1.out);have HB3:=lj (Below.trans HB1.out (hb3.mono (Nat.le_of_lt HS1.out)));have HS3:=lj (Nat.lt_of_lt_of_le HS1.out hb3.size);clear hb3 HX1 HB1 HS1 z0 z1 z2 z3 z4 z5 z6 z7
  by_cases h40:len1≤40
  rotate_left
  · have dj:decide ((len1:Int) > 40)=true:=by simp; omega
    have dj2:decide ((40:Int)<(len1:Int))=true:=by simp; omega
    go_wp2;go_ret;exact ⟨rfl,by rw [HG.out]; exact HB3.out⟩
  have dj:decide ((len1:Int) > 40)=false:=by simp; omega
  have dj2:decide ((40:Int)<(len1:Int))=false:=by simp; omega
  by_cases h12:len1≤len2
  rotate_left
  · have dk:decide ((len2:Int)<(len1:Int))=true:=by simp; omega
    go_wp2;go_ret;exact ⟨rfl,by rw [HG.out]; exact HB3.out⟩
  have dk:decide ((len2:Int)<(len1:Int))=false:=by simp; omega
  have f6:=HX3.out.free 6;have c6:=HX3.out.cell 6 (.int .i64 cf.idle) rfl;have f2:=HX3.out.free 2;have c2:=HX3.out.cell 2 (.int .i64 cf.queue) rfl;have hx5:=(HX3.out.set 6 (.int .i64 0)).set 2 (.int .i64 4000);have hb5:=(HB3.out.setCell (p:=⟨gm,6,none⟩) (Nat.le_refl gm) (.int .i64 0)).setCell (p:=⟨gm,2,none⟩) (Nat.le_refl gm) (.int .i64 4000);have HX5:=lj (show Bx gm ((w3.setCell ⟨gm,6,none⟩ (.int .i64 0)).setCell ⟨gm,2,none⟩ (.int .i64 4000)) #[.int .i64 cf.log,.int .i64 cf.data,.int .i64 4000,.int .i64 cf.input,.int .i64 cf.strikes,.int .i64 cf.lease,.int .i64 0,.int .i64 cf.width] from hx5);have HB5:=lj hb5;clear hx5 hb5 HX3 HB3
  go_upto_region 7 with fail
  generalize World.setCell _ _ _=w5 at *;clear f6 c6 f2 c2 dj dj2 dk HS3;have hgw:gm<w5.heap.size:=HX5.out.room
  obtain ⟨N,hN⟩:∃ N,w5.heap.size=N:=⟨_,rfl⟩
  have HN:=lj hN
  have hgN:gm<N:=by omega
  have hN5:N≤w5.heap.size:=by omega
  have HCo:=lj (fun (id:Int) (wr:Bool) W=>comes_any id wr 0 (by decide) (by decide) W);clear hN
  go_wp2_with fail
  refine (HCo.out 1 true w5).mono ?_;rintro r w6 ⟨A1,c1,rfl,hr1,hb1⟩;have HX6:=lj (HX5.out.go hb1 hgw);have HB6:=lj (HB5.out.trans (hb1.mono (Nat.le_of_lt hgw)));have HR6:=lj (show EvRow N w6 A1 2 c1 (comesL 1 true 0) from hr1.mono hN5);have hz6:N≤w6.heap.size:=Nat.le_trans hN5 hb1.size;clear hr1 hb1 HX5 HB5
  go_wp2_with fail
  refine (HCo.out 2 true w6).mono ?_;rintro r w7 ⟨A2,c2,rfl,hr2,hb2⟩;have HX7:=lj (HX6.out.go hb2 (by omega));have HB7:=lj (HB6.out.trans (hb2.mono (by omega)));have HR7:=lj (HR6.out.below hb2);have HN7:=lj hr2.evin;have hz7:N≤w7.heap.size:=Nat.le_trans hz6 hb2.size;clear hr2 hb2 HX6 HB6 HR6 hz6
  go_wp2_with (first
    | (at_builtin
       refine wpList_eapp rfl (.tmp 46) (.tmp 47) rfl rfl HR7.out rfl HN7.out rfl (by omega) hz7 ?_;intro A4 c4 w8 hr4 hb4;have HR8:=lj (show EvRow N w8 A4 4 c4 (comesL 1 true 0 ++ comesL 2 true 0) from hr4);have HX8:=lj (HX7.out.go hb4 hgN);have HB8:=lj (HB7.out.trans (hb4.mono (by omega)));have hz8:N≤w8.heap.size:=Nat.le_trans hz7 hb4.size;clear hr4 hb4 HR7 HN7 HB7 HX7 hz7
       go_wp2_with fail))
  refine (HCo.out 3 false w8).mono ?_;rintro r w9 ⟨A5,c5,rfl,hr5,hb5⟩;have HX9:=lj (HX8.out.go hb5 (by omega));have HB9:=lj (HB8.out.trans (hb5.mono (by omega)));have HR9:=lj (HR8.out.below hb5);have HN9:=lj hr5.evin;have hz9:N≤w9.heap.size:=Nat.le_trans hz8 hb5.size;clear hr5 hb5 HX8 HB8 HR8 hz8 HCo
  go_wp2_with (first
    | (at_builtin
       refine wpList_eapp rfl (.tmp 48) (.tmp 49) rfl rfl HR9.out rfl HN9.out rfl (by omega) hz9 ?_;intro A6 c6 wa hr6 hb6;have HRa:=lj (show EvRow N wa A6 6 c6 inL from hr6);have HXa:=lj (HX9.out.go hb6 hgN);have HBa:=lj (HB9.out.trans (hb6.mono (by omega)));have hza:N≤wa.heap.size:=Nat.le_trans hz9 hb6.size;clear hr6 hb6 HR9 HN9 HB9 HX9 hz9
       go_upto_region 8 with fail))
  have hal:Below wa.heap.size wa (wa.alloc (.cells #[] 3)):=(Below.refl _ _).alloc (Nat.le_refl _) _
  have HM0:=lj (show InM cf gm N w (wa.alloc (.cells #[] 3)) A6 (some ⟨wa.heap.size,0,none⟩) 6 c6 0 0 inL [] from ⟨rfl,HRa.out.below hal,Rw.fresh wa N [] 3 hza (fun v hv=>by cases hv) (Nat.zero_le _) (0,0) rfl,fun p q hp hq e=>by
    injection hq with hq
    subst hq;have:=(HRa.out.lt hp).2;have e:p.block=wa.heap.size:=e
    omega,HXa.out.go hal (by omega),HBa.out.trans (hal.mono (by omega)),Nat.le_trans hza hal.size,hgN⟩)
  clear hal;generalize wa.alloc (.cells #[] 3)=wb at *
  obtain ⟨K0,hK0⟩:∃ K:Option Addr,some ⟨wa.heap.size,0,none⟩=K:=⟨_,rfl⟩
  rw [hK0] at HM0 ⊢;clear hK0 HRa HXa HBa hza;have HI0:=lj (ix_begin cf)
  go_wp2_with fail
  go_loopw [7,8,54] (fun s7 s8 s54 wr=>∃ (i en c kl ck:Nat) (A K:Option Addr) (E:List Sc.Ev) (X:List (Option An)),s7 = .slice A en c∧s8 = .slice K kl ck∧s54 = .int .i64 (i:Nat)∧i≤len1∧en≤6+3 * i∧Hid (IX cf E X (321+22 * i))∧Hid (kl≤X.length∧∀ x∈X.drop kl,x=none)∧InM cf gm N w wr A K en c kl ck E ((X.take kl).map kd)) (fun _ _ s _=>100 - (intOf s).toNat)
  case atStart=>exact ⟨0,6,c6,0,0,A6,K0,inL,[none,none,none,none,none,none],rfl,rfl,rfl,Nat.zero_le _,by omega,HI0,lj ⟨Nat.zero_le _,fun x hx=>by simp at hx; exact hx⟩,HM0.out⟩
  case round =>
    obtain ⟨i,en,c,kl,ck,A,K,E,X,rfl,rfl,rfl,hi,hen,HIx,HOl,hm⟩:=hrel;have HM:=lj hm;have hel:E.length=en:=hm.el
    have hXl:X.length=en:=by rw [HIx.out.len]; exact hel
    have hkl:kl≤en:=by rw [← hXl]; exact HOl.out.1
    have hsz:=hm.sz;clear hm HM0 HI0
    by_cases hlt:i<len1
    · skip
      have dt:decide ((i:Int)<(len1:Int))=true:=decide_eq_true (by omega);obtain ⟨pb,po,rfl,hpb,hpcs⟩:=HPz.out.ints (by omega);obtain ⟨tb,tf,rfl,htb,htcs⟩:=HQz.out.2.2 (by omega);have hc1:=(HM.out.below.cell (p:=⟨pb,po+i,none⟩) (by rw [← HG.out]; exact hpb)).trans (hpcs i hlt);have hc2:=(HM.out.below.cell (p:=⟨tb,tf+i,none⟩) (by rw [← HG.out]; exact htb)).trans (htcs i _ (strs_get T2 i (by omega)))
      obtain ⟨zv,hzv⟩:∃ zv,z1.getD i 0=zv:=⟨_,rfl⟩
      obtain ⟨t,htv⟩:∃ t,T2.getD i []=t:=⟨_,rfl⟩
      rw [hzv] at hc1;rw [htv] at hc2;replace hc2:wr.cell? ⟨tb,tf+i,none⟩=some (.string (str t)):=hc2
      have htm:t.length≤maxLen:=by
        rw [← htv,List.getD_eq_getElem?_getD,List.getElem?_eq_getElem (by omega)];exact HG2.out.2.2 _ (List.getElem_mem _)
      have ht63:t.length≤9223372036854775807:=by unfold maxLen at htm; omega
      have htsz:=str_size t;obtain ⟨v,hv3,hva⟩:=bits_any zv 3 (by decide);have hand:bits .and .i64 zv 3=(v:Int):=hva
      obtain ⟨r,hr⟩:∃ r,v % 3=r:=⟨_,rfl⟩
      have hrem:(v:Int).tmod 3=(r:Int):=by rw [← hr]; rfl
      have hr3:r≤2:=by omega
      obtain ⟨kid,hkid⟩:∃ kid:Nat,1+r=kid:=⟨_,rfl⟩
      have hk:(1:Int)+(r:Int)=(kid:Int):=by omega
      have hk1:1≤kid:=by omega
      have hk3:kid≤3:=by omega
      clear hzv htv hva hr hpcs htcs
      go_upto_region 13 with fail
      by_cases h60:t.length≤60
      rotate_left
      · have dj:decide ((t.length:Int) > 60)=true:=by simp; omega
        have dj2:decide ((60:Int)<(t.length:Int))=true:=by simp; omega
        go_wp2;go_ret;exact ⟨rfl,by rw [HG.out]; exact HM.out.below⟩
      have dj:decide ((t.length:Int) > 60)=false:=by simp; omega
      have dj2:decide ((60:Int)<(t.length:Int))=false:=by simp; omega
      by_cases ht0:t=[]
      · subst ht0
        rw [show str ([]:Bs)=⟨#[]⟩ from rfl] at hc2;go_wp2;go_ret;exact ⟨rfl,by rw [HG.out]; exact HM.out.below⟩
      have hne:(str t).toList.isEmpty=false:=by
        rw [str_empty]
        rcases t with _ | ⟨x,l⟩
        · exact absurd rfl ht0
        · rfl
      obtain ⟨cy,wy,hcy,hyy,hby,hly,hsy⟩:=conv_tob wr t
      have hcb:∀ j,j<t.length→wy.cell? ⟨wr.heap.size,j,none⟩=some (.int .u8 (t[j]?.getD 0#8).toNat):=fun j hj=>by
        obtain ⟨b,off,e,_,hc⟩:=hyy.2 (by omega)
        injection e with e
        injection e with e1 e2
        subst e1;subst e2;have:=hc j hj
        rwa [Nat.zero_add] at this
      have HMy:=lj (HM.out.go hby);have HCb:=lj hcb;have HTc:=lj hc2;have HTn:=lj ht0
      have htb2 : tb < wr.heap.size := by have:tb<gm:=by rw [← HG.out]; exact htb
                                          omega
      have hty:wy.cell? ⟨tb,tf+i,none⟩=some (.string (str t)):=(hby.cell (p:=⟨tb,tf+i,none⟩) htb2).trans hc2;have HTy:=lj hty;have HBc0:=lj (show wr.heap.size+1≤wy.heap.size from hsy);clear hyy hby hcb hsy ht0 hty HM htb2
      go_upto_region 14 with fail
      obtain ⟨gy,hgy⟩:∃ gy,wr.heap.size=gy:=⟨_,rfl⟩
      rw [hgy] at HBc0 HCb ⊢
      have hsz2:gm<gy:=by omega
      clear hgy hc1 hc2 hand hrem hkid htm
      go_wp2_with fail
      go_loopw [13,82] (fun s13 s82 wr=>∃ j:Nat,s82 = .int .i64 (j:Nat)∧j≤t.length∧Hid (∀ x∈t.take j,x≠29#8)∧Below wy.heap.size wy wr) (fun _ s _=>t.length - (intOf s).toNat)
      case atStart=>exact ⟨0,rfl,Nat.zero_le _,lj (fun x hx=>by cases hx),Below.refl _ _⟩
      case round =>
        obtain ⟨j,rfl,hj,HNo,hb⟩:=hrel
        by_cases hjl:j<t.length
        · have dl:decide ((j:Int)<(t.length:Int))=true:=decide_eq_true (by omega)
          have hcj:=(hb.cell (p:=⟨gy,j,none⟩) (by have:=HBc0.out; show gy<wy.heap.size; omega)).trans (HCb.out j hjl)
          obtain ⟨x,hx⟩:∃ x,t[j]?=some x:=⟨_,List.getElem?_eq_getElem hjl⟩
          rw [hx] at hcj;replace hcj:wr.cell? ⟨gy,j,none⟩=some (.int .u8 x.toNat):=hcj;have HBj:=lj hb;have HMj:=lj (HMy.out.go hb);clear hb
          by_cases h29:x=29#8
          · have d29:((x.toNat:Int) == 29)=true:=by rw [h29]; rfl
            have hb255:=x.isLt;clear h29;go_wp2;go_ret;exact ⟨rfl,by rw [HG.out]; exact HMj.out.below⟩
          have h29n:x.toNat≠29:=fun e=>h29 (BitVec.eq_of_toNat_eq e)
          have d29:((x.toNat:Int) == 29)=false:=by simp; omega
          have HNx:=lj (show ∀ y∈t.take (j+1),y≠29#8 from fun y hy=>by
            rw [List.take_add_one,hx] at hy
            rcases List.mem_append.1 hy with hy | hy
            · exact HNo.out y hy
            · rw [List.mem_singleton.1 hy]; exact h29)
          clear h29 hx h29n
          go_wp2_with fail
          go_roundw
          case rel=>exact ⟨j+1,by go_num,by omega,HNx,HBj.out⟩
          case measure=>simp [intOf]; omega
        obtain rfl:j=t.length:=by omega
        have dl:decide ((t.length:Int)<(t.length:Int))=false:=by simp
        have HN29:=lj (show ∀ x∈t,x≠29#8 from fun x hx=>HNo.out x (by rw [List.take_length]; exact hx));have HM:=lj (HMy.out.go hb)
        have hg2:tb<wy.heap.size:=by
          have:tb<gm:=by rw [← HG.out]; exact htb
          have:=HBc0.out;omega
        have hty:=(hb.cell (p:=⟨tb,tf+i,none⟩) hg2).trans HTy.out;have HTw:=lj hty;have hsw:=HM.out.sz;clear hb HNo hty HTy HTc HMy hg2 hne HCb HBc0
        go_upto_region 21 with fail
        obtain ⟨y,hy7,hya⟩:=bits_any (zv / 4) 7 (by decide);have hand2:bits .and .i64 (zv / 4) 7=(y:Int):=hya;obtain ⟨d,hd31,hda⟩:=bits_any (zv / 32) 31 (by decide);have hand3:bits .and .i64 (zv / 32) 31=(d:Int):=hda;have HTw2:=HTw.out;clear hya hda hcy
        by_cases hy:y=0
        · skip
          have d0:((y:Int) == 0)=true:=by simp [hy]
          obtain ⟨x1,hx1⟩:∃ x1,enc (keys 1 (esc wFloor))=x1:=⟨_,rfl⟩
          have hv1:=lj (show evv (cmdE (kid:Int) wFloor) = .agg #[.int .i64 1,.int .i64 (kid:Int),.int .i64 0,.string (str x1)] by rw [← hx1]; rfl);have HCm:=lj (show Calls Tryz.prog 20 #[.int .i64 (kid:Int),.string ⟨#[102,108,111,111,114]⟩] wr fun r w'=>r = .returned (evv (cmdE (kid:Int) wFloor))∧Below wr.heap.size wr w' from command_any (kid:Int) wFloor (by decide) wr)
          have HEo:=lj (show ∀ W:World,EvIn (W.alloc (.cells #[.int .i64 1,.int .i64 (kid:Int),.int .i64 0,.string (str x1)] 30)) (W.heap.size+1) (some ⟨W.heap.size,0,none⟩) [cmdE (kid:Int) wFloor] from fun W=>by
            rw [← hx1]
            exact ev_one W (cmdE (kid:Int) wFloor) (by show (enc (keys 1 (esc wFloor))).length≤maxLen; rw [enc_len5]; decide) _)
          clear hx1 hy
          go_wp2_with fail
          refine HCm.out.mono ?_;rintro rr w7 ⟨rfl,hb7⟩;rw [hv1.out];have HMc:=lj (HM.out.go hb7);clear hb7 HCm hv1 HM HTw2 HTw;have hba:Below w7.heap.size w7 (w7.alloc (.cells #[.int .i64 1,.int .i64 (kid:Int),.int .i64 0,.string (str x1)] 30)):=(Below.refl _ _).alloc (Nat.le_refl _) _;have HMa:=lj (HMc.out.go hba);have HNa:=lj (HEo.out w7);have hza:N≤(w7.alloc (.cells #[.int .i64 1,.int .i64 (kid:Int),.int .i64 0,.string (str x1)] 30)).heap.size:=HMa.out.big;clear hba HMc HEo
          go_wp2_with (first
            | (at_builtin
               refine wpList_eappg rfl (.tmp 123) (.tmp 126) rfl rfl HMa.out.ev rfl HNa.out rfl (by omega) hza ?_;intro A5 c5 wb hr5 hO5 hA5;have HMb:=lj (HMa.out.grow (m:=1) rfl hr5 hO5 hA5);clear hr5 hO5 hA5 HMa HNa hza
               go_wp2_with fail))
          go_roundw
          case rel=>exact ⟨i+1,en+1,c5,kl,ck,A5,K,E ++ [cmdE (kid:Nat) wFloor],X ++ [none],rfl,rfl,by go_num,by omega,by omega,lj (IX.mono (HIx.out.floor hk1 hk3 (by omega)) (by omega)),lj ⟨by rw [List.length_append]; omega,old_next (by omega) HOl.out.2⟩,HMb.out.old (by omega) _⟩
          case measure=>simp [intOf]; omega
        by_cases hy:y=1
        · skip
          have d0:((y:Int) == 0)=false:=by simp; omega
          have d1:((y:Int) == 1)=true:=by simp [hy]
          obtain ⟨x1,hx1⟩:∃ x1,enc (keys 1 (esc Bk.wDrop))=x1:=⟨_,rfl⟩
          have hv1:=lj (show evv (cmdE (kid:Int) Bk.wDrop) = .agg #[.int .i64 1,.int .i64 (kid:Int),.int .i64 0,.string (str x1)] by rw [← hx1]; rfl);have HCm:=lj (show Calls Tryz.prog 20 #[.int .i64 (kid:Int),.string ⟨#[100,114,111,112]⟩] wr fun r w'=>r = .returned (evv (cmdE (kid:Int) Bk.wDrop))∧Below wr.heap.size wr w' from command_any (kid:Int) Bk.wDrop (by decide) wr)
          have HEo:=lj (show ∀ W:World,EvIn (W.alloc (.cells #[.int .i64 1,.int .i64 (kid:Int),.int .i64 0,.string (str x1)] 30)) (W.heap.size+1) (some ⟨W.heap.size,0,none⟩) [cmdE (kid:Int) Bk.wDrop] from fun W=>by
            rw [← hx1]
            exact ev_one W (cmdE (kid:Int) Bk.wDrop) (by show (enc (keys 1 (esc Bk.wDrop))).length≤maxLen; rw [enc_len5]; decide) _)
          clear hx1 hy
          go_wp2_with fail
          refine HCm.out.mono ?_;rintro rr w7 ⟨rfl,hb7⟩;rw [hv1.out];have HMc:=lj (HM.out.go hb7);clear hb7 HCm hv1 HM HTw2 HTw;have hba:Below w7.heap.size w7 (w7.alloc (.cells #[.int .i64 1,.int .i64 (kid:Int),.int .i64 0,.string (str x1)] 30)):=(Below.refl _ _).alloc (Nat.le_refl _) _;have HMa:=lj (HMc.out.go hba);have HNa:=lj (HEo.out w7);have hza:N≤(w7.alloc (.cells #[.int .i64 1,.int .i64 (kid:Int),.int .i64 0,.string (str x1)] 30)).heap.size:=HMa.out.big;clear hba HMc HEo
          go_wp2_with (first
            | (at_builtin
               refine wpList_eappg rfl (.tmp 130) (.tmp 133) rfl rfl HMa.out.ev rfl HNa.out rfl (by omega) hza ?_;intro A5 c5 wb hr5 hO5 hA5;have HMb:=lj (HMa.out.grow (m:=1) rfl hr5 hO5 hA5);clear hr5 hO5 hA5 HMa HNa hza
               go_wp2_with fail))
          go_roundw
          case rel=>exact ⟨i+1,en+1,c5,kl,ck,A5,K,E ++ [cmdE (kid:Nat) Bk.wDrop],X ++ [none],rfl,rfl,by go_num,by omega,by omega,lj (IX.mono (HIx.out.drop hk1 hk3 (by omega)) (by omega)),lj ⟨by rw [List.length_append]; omega,old_next (by omega) HOl.out.2⟩,HMb.out.old (by omega) _⟩
          case measure=>simp [intOf]; omega
        by_cases hy:y=2
        · skip
          have d0:((y:Int) == 0)=false:=by simp; omega
          have d1:((y:Int) == 1)=false:=by simp; omega
          have d2:((y:Int) == 2)=true:=by simp [hy]
          have HEo:=lj (show ∀ W:World,EvIn (W.alloc (.cells #[.int .i64 4,.int .i64 0,.int .i64 (d:Int),.string ⟨#[]⟩] 30)) (W.heap.size+1) (some ⟨W.heap.size,0,none⟩) [draE (d:Nat)] from fun W=>ev_one W (draE (d:Nat)) (Nat.zero_le _) _);have HMc:=HM;clear hy HM HTw2 HTw;have hba:Below wr.heap.size wr (wr.alloc (.cells #[.int .i64 4,.int .i64 0,.int .i64 (d:Int),.string ⟨#[]⟩] 30)):=(Below.refl _ _).alloc (Nat.le_refl _) _;have HMa:=lj (HMc.out.go hba);have HNa:=lj (HEo.out wr);have hza:N≤(wr.alloc (.cells #[.int .i64 4,.int .i64 0,.int .i64 (d:Int),.string ⟨#[]⟩] 30)).heap.size:=HMa.out.big;clear hba HMc HEo
          go_wp2_with (first
            | (at_builtin
               refine wpList_eappg rfl (.tmp 137) (.tmp 142) rfl rfl HMa.out.ev rfl HNa.out rfl (by omega) hza ?_;intro A5 c5 wb hr5 hO5 hA5;have HMb:=lj (HMa.out.grow (m:=1) rfl hr5 hO5 hA5);clear hr5 hO5 hA5 HMa HNa hza
               go_wp2_with fail))
          go_roundw
          case rel=>exact ⟨i+1,en+1,c5,kl,ck,A5,K,E ++ [draE (d:Nat)],X ++ [none],rfl,rfl,by go_num,by omega,by omega,lj (IX.mono ((HIx.out.drain (m:=(d:Nat)) (by omega) (by omega)).mono (Nat.le_refl _)) (by omega)),lj ⟨by rw [List.length_append]; omega,old_next (by omega) HOl.out.2⟩,HMb.out.old (by omega) _⟩
          case measure=>simp [intOf]; omega
        by_cases hy:y=3
        · skip
          have d0:((y:Int) == 0)=false:=by simp; omega
          have d1:((y:Int) == 1)=false:=by simp; omega
          have d2:((y:Int) == 2)=false:=by simp; omega
          have d3:((y:Int) == 3)=true:=by simp [hy]
          have HEo:=lj (show ∀ W:World,EvIn (W.alloc (.cells #[.int .i64 5,.int .i64 0,.int .i64 0,.string ⟨#[]⟩] 30)) (W.heap.size+1) (some ⟨W.heap.size,0,none⟩) [ticE] from fun W=>ev_one W (ticE) (Nat.zero_le _) _);have HMc:=HM;clear hy HM HTw2 HTw;have hba:Below wr.heap.size wr (wr.alloc (.cells #[.int .i64 5,.int .i64 0,.int .i64 0,.string ⟨#[]⟩] 30)):=(Below.refl _ _).alloc (Nat.le_refl _) _;have HMa:=lj (HMc.out.go hba);have HNa:=lj (HEo.out wr);have hza:N≤(wr.alloc (.cells #[.int .i64 5,.int .i64 0,.int .i64 0,.string ⟨#[]⟩] 30)).heap.size:=HMa.out.big;clear hba HMc HEo
          go_wp2_with (first
            | (at_builtin
               refine wpList_eappg rfl (.tmp 146) (.tmp 148) rfl rfl HMa.out.ev rfl HNa.out rfl (by omega) hza ?_;intro A5 c5 wb hr5 hO5 hA5;have HMb:=lj (HMa.out.grow (m:=1) rfl hr5 hO5 hA5);clear hr5 hO5 hA5 HMa HNa hza
               go_wp2_with fail))
          go_roundw
          case rel=>exact ⟨i+1,en+1,c5,kl,ck,A5,K,E ++ [ticE],X ++ [none],rfl,rfl,by go_num,by omega,by omega,lj (IX.mono (HIx.out.tick (by omega)) (by omega)),lj ⟨by rw [List.length_append]; omega,old_next (by omega) HOl.out.2⟩,HMb.out.old (by omega) _⟩
          case measure=>simp [intOf]; omega
        have d0:((y:Int) == 0)=false:=by simp; omega
        have d1:((y:Int) == 1)=false:=by simp; omega
        have d2:((y:Int) == 2)=false:=by simp; omega
        have d3:((y:Int) == 3)=false:=by simp; omega
        have HSq:=lj (show i≤40 from by omega);clear hd31
        go_wp2_with fail
        go_loopw [8] (fun s8 wr=>∃ (m ck2:Nat) (K2:Option Addr),s8 = .slice K2 m ck2∧kl≤m∧m≤en+1∧wr.cell? ⟨tb,tf+i,none⟩=some (.string (str t))∧InM cf gm N w wr A K2 en c m ck2 E (((X ++ [none]).take m).map kd)) (fun s _=>1000 - lenm s)
        case atStart=>exact ⟨kl,ck,K,rfl,Nat.le_refl _,by omega,HTw2,HM.out.old (by omega) _⟩
        case round =>
          clear HTw2 HTw HM;obtain ⟨m,ck2,K2,rfl,hkm,hm1,htc,hm⟩:=hrel;have HMr:=lj hm;have HTr:=lj htc;clear hm htc
          by_cases hml:m<en+1
          · have dm:decide ((m:Int)<(en:Int)+1)=true:=decide_eq_true (by omega)
            have hba:Below wr.heap.size wr (wr.alloc (.cells #[.int .i64 0] 3)):=(Below.refl _ _).alloc (Nat.le_refl _) _;have HMa:=lj (HMr.out.go hba);have HVa:=lj (show Vals (wr.alloc (.cells #[.int .i64 0] 3)) (wr.heap.size+1) (some ⟨wr.heap.size,0,none⟩) 1 (ints [0]) from Vals.lit wr (ints [0]) 3 (ints_one _) (0,0) #[.int .i64 0] rfl);have HPd:=lj (show ((X ++ [none]).take (m+1)).map kd=((X ++ [none]).take m).map kd ++ [(0:Int)] from kd_pad _ _ (old_get (old_next (by omega) HOl.out.2) hkm (by rw [List.length_append,hXl]; show m<en+1; omega)))
            have htb3:tb<wr.heap.size:=by
              have h1:=HMr.out.sz
              have:tb<gm:=by rw [← HG.out]; exact htb
              omega
            have HTa:=lj ((hba.cell (p:=⟨tb,tf+i,none⟩) htb3).trans HTr.out)
            have htb4:tb<N:=by
              have h1:=HMr.out.lt
              have:tb<gm:=by rw [← HG.out]; exact htb
              omega
            clear hba htb3
            go_wp2_with (first
              | (at_builtin
                 refine wpList_rw elem_int rfl (.tmp 98) (.tmp 99) rfl N rfl HMa.out.nr rfl HVa.out (by omega) HMa.out.big ?_;intro K3 ck3 wb hr3 hO3 hK3;have HMb:=lj (show InM cf gm N w wb A K3 en c (m+1) ck3 E (((X ++ [none]).take (m+1)).map kd) from HMa.out.turn (by rw [HPd.out,ints_app]; exact hr3) hO3 hK3);have HTb:=lj ((hO3.cell (p:=⟨tb,tf+i,none⟩) (Nat.lt_of_lt_of_le htb4 HMa.out.big) (fun ⟨p,hp,hx⟩=>by have:=(HMa.out.nr.lt hp).1; have hx:p.block=tb:=hx.symm ▸ rfl; omega)).trans HTa.out);clear hr3 hO3 hK3 HMa HVa HTa
                 go_wp2_with fail))
            go_roundw
            case rel=>exact ⟨m+1,ck3,K3,rfl,by omega,by omega,HTb.out,HMb.out⟩
            case measure=>simp [lenm]; omega
          obtain rfl:m=en+1:=by omega
          have dm:decide (((en+1:Nat):Int)<(en:Int)+1)=false:=decide_eq_false (by omega);have hrwl:=HMr.out.nr.lies;have hrwc:=HMr.out.nr.cap
          obtain ⟨gk,ok,rfl,hgk1,hgk2,hgk3,hgk4⟩:∃ g off,K2=some ⟨g,off,none⟩∧N≤g∧g<wr.heap.size∧(∀ j v,(ints (((X ++ [none]).take (en+1)).map kd))[j]?=some v→wr.cell? ⟨g,off+j,none⟩=some v)∧∀ j,j<ck2→(wr.cell? ⟨g,off+j,none⟩).isSome=true∧wr.frozen? ⟨g,off+j,none⟩=false:=by
            rcases hrwl with ⟨_,h0⟩ | h
            · omega
            · exact h
          obtain ⟨cv,hcv⟩:=Option.isSome_iff_exists.1 (hgk4 en (by omega)).1;have fk:=(hgk4 en (by omega)).2
          have hVe:(((X ++ [none]).take (en+1)).map kd).set en (kid:Int)=X.map kd ++ [(kid:Int)]:=by
            rw [List.take_of_length_le (by rw [List.length_append,hXl]; exact Nat.le_refl _),List.map_append];exact set_last (X.map kd) _ _ (by rw [List.length_map]; exact hXl)
          have HMp:=lj (show InM cf gm N w (wr.setCell ⟨gk,ok+en,none⟩ (.int .i64 (kid:Int))) A (some ⟨gk,ok,none⟩) en c (en+1) ck2 E (X.map kd ++ [(kid:Int)]) from hVe ▸ HMr.out.put rfl en (kid:Int))
          have htgk:tb≠gk:=by
            have h1:=HMr.out.lt
            have:tb<gm:=by rw [← HG.out]; exact htb
            omega
          have HTp:=lj (((World.cell?_setCell_other wr ⟨gk,ok+en,none⟩ ⟨tb,tf+i,none⟩ (.int .i64 (kid:Int)) (by intro e; injection e with e _; exact htgk e.symm)).trans HTr.out));clear hrwl hrwc hgk1 hgk2 hgk3 hgk4 hVe htgk HMr HTr
          go_upto_region 25 with fail
          generalize World.setCell _ _ _=wp at *;have hkok:=keys_ok (seq:=(i:Nat)) (t:=t) (by omega) (by omega) (by omega)
          obtain ⟨x1,hx1⟩:∃ x1,enc (keys (i:Nat) t)=x1:=⟨_,rfl⟩
          have HCa:=lj (show ∀ W:World,Calls Tryz.prog 21 #[.int .i64 (kid:Int)] W fun r w'=>r = .returned (.agg #[.int .i64 2,.int .i64 (kid:Int),.int .i64 65536,.string ⟨#[]⟩])∧Below W.heap.size W w' from fun W=>all_any (kid:Int) W)
          have HCs:=lj (show ∀ W:World,Calls Tryz.prog 22 #[.int .i64 (kid:Int),.agg #[.int .i64 2,.int .i64 (i:Int),.int .i64 0,.string (str t)]] W fun r w'=>r = .returned (.agg #[.int .i64 1,.int .i64 (kid:Int),.int .i64 0,.string (str x1)])∧Below W.heap.size W w' from fun W=>by
            have h:=said_any (kid:Int) (keys (i:Nat) t) hkok W;rw [show evv (sayE (kid:Int) (keys (i:Nat) t)) = .agg #[.int .i64 1,.int .i64 (kid:Int),.int .i64 0,.string (str x1)] by rw [← hx1]; rfl] at h
            exact h)
          have HOne:=lj (show ∀ W:World,EvIn (W.alloc (.cells #[.int .i64 2,.int .i64 (kid:Int),.int .i64 65536,.string ⟨#[]⟩,.int .i64 1,.int .i64 (kid:Int),.int .i64 0,.string (str x1),.int .i64 2,.int .i64 (kid:Int),.int .i64 65536,.string ⟨#[]⟩] 30)) (W.alloc (.cells #[.int .i64 2,.int .i64 (kid:Int),.int .i64 65536,.string ⟨#[]⟩,.int .i64 1,.int .i64 (kid:Int),.int .i64 0,.string (str x1),.int .i64 2,.int .i64 (kid:Int),.int .i64 65536,.string ⟨#[]⟩] 30)).heap.size (some ⟨W.heap.size,0,none⟩) [allE (kid:Nat),sayE (kid:Nat) (keys (i:Nat) t),allE (kid:Nat)] from fun W=>by
            refine (evrow_new (base:=W.heap.size) W (Nat.le_refl _) [allE (kid:Nat),sayE (kid:Nat) (keys (i:Nat) t),allE (kid:Nat)] #[.int .i64 2,.int .i64 (kid:Int),.int .i64 65536,.string ⟨#[]⟩,.int .i64 1,.int .i64 (kid:Int),.int .i64 0,.string (str x1),.int .i64 2,.int .i64 (kid:Int),.int .i64 65536,.string ⟨#[]⟩] ?_ (show 3≤1000000 by decide) (fun e he=>?_)).evin
            · rw [← hx1]; rfl
            · simp only [List.mem_cons,List.not_mem_nil,or_false] at he
              rcases he with rfl | rfl | rfl
              · exact Nat.zero_le _
              · show (enc (keys (i:Nat) t)).length≤maxLen
                rw [enc_len5]
                show 6 * 1+t.length+5≤maxLen
                unfold maxLen;omega
              · exact Nat.zero_le _)
          have htbg:tb<gm:=by rw [← HG.out]; exact htb
          have htbN:tb<N:=by have:=HMp.out.lt; omega
          have hi2:0≤(i:Int)∧(i:Int)<(len2:Int):=by omega
          have di2:decide ((i:Int)<(len2:Int))=true:=decide_eq_true hi2.2
          have hmix:Tryz.prog.follows .mixedOrders=true:=by kernel_rfl
          clear hx1 hcv fk hkok;refine wp_region_held (S:=fun W=>W.cell? ⟨tb,tf+i,none⟩=some (.string (str t))) hmix ?_
          change wpAnyH _ _ _ _ _ _ _ _ (World.drew _)
          have HY:=lj (show wp.drew.cell? ⟨tb,tf+i,none⟩=some (.string (str t)) from HTp.out);have HMd:=lj (HMp.out.go (below_drew (Below.refl _ wp)));generalize wp.drew=wd at *;refine wpAnyH_take (i:=0) (v:=.slice A en c) rfl (by kernel_rfl) (by kernel_rfl) (by kernel_rfl) (fun _ _ _ h=>h) (.inl ⟨by kernel_rfl,fun W hW=>?_⟩) HY.out ?_
          · go_simp; try (first | rfl | omega | (intro hh; exfalso; omega))
          refine wpAnyH_take (i:=1) (v:=.int .i64 (kid:Int)) rfl (by kernel_rfl) (by kernel_rfl) (by kernel_rfl) (fun _ _ _ h=>h) (.inl ⟨by kernel_rfl,fun W hW=>?_⟩) HY.out ?_
          · go_simp; try (first | rfl | omega | (intro hh; exfalso; omega))
          refine wpAnyH_take (i:=3) (v:=.int .i64 (kid:Int)) rfl (by kernel_rfl) (by kernel_rfl) (by kernel_rfl) (fun _ _ _ h=>h) (.inl ⟨by kernel_rfl,fun W hW=>?_⟩) HY.out ?_
          · go_simp; try (first | rfl | omega | (intro hh; exfalso; omega))
          refine wpAnyH_take (i:=4) (v:=.int .i64 (i:Int)) rfl (by kernel_rfl) (by kernel_rfl) (by kernel_rfl) (fun _ _ _ h=>h) (.inl ⟨by kernel_rfl,fun W hW=>?_⟩) HY.out ?_
          · go_simp; try (first | rfl | omega | (intro hh; exfalso; omega))
          refine wpAnyH_take (i:=5) (v:=.slice (some ⟨tb,tf,none⟩) len2 cap2) rfl (by kernel_rfl) (by kernel_rfl) (by kernel_rfl) (fun _ _ _ h=>h) (.inl ⟨by kernel_rfl,fun W hW=>?_⟩) HY.out ?_
          · go_simp; try (first | rfl | omega | (intro hh; exfalso; omega))
          refine wpAnyH_take (i:=6) (v:=.int .i64 (i:Int)) rfl (by kernel_rfl) (by kernel_rfl) (by kernel_rfl) (fun _ _ _ h=>h) (.inl ⟨by kernel_rfl,fun W hW=>?_⟩) HY.out ?_
          · go_simp; try (first | rfl | omega | (intro hh; exfalso; omega))
          refine wpAnyH_take (i:=7) (v:=.pointer (some ⟨tb,tf+i,none⟩)) rfl (by kernel_rfl) (by kernel_rfl) (by kernel_rfl) (fun _ _ _ h=>h) (.inl ⟨by kernel_rfl,fun W hW=>?_⟩) HY.out ?_
          · go_simp; try (first | rfl | omega | (intro hh; exfalso; omega))
          refine wpAnyH_take (i:=8) (v:=.string (str t)) rfl (by kernel_rfl) (by kernel_rfl) (by kernel_rfl) (fun _ _ _ h=>h) (.inl ⟨by kernel_rfl,fun W hW=>?_⟩) HY.out ?_
          · have hcv:=hW; go_simp; try (first | rfl | omega | (intro hh; exfalso; omega))
          refine wpAnyH_take (i:=9) (v:=.agg #[.int .i64 2,.int .i64 (i:Int),.int .i64 0,.string (str t)]) rfl (by kernel_rfl) (by kernel_rfl) (by kernel_rfl) (fun _ _ _ h=>h) (.inl ⟨by kernel_rfl,fun W hW=>?_⟩) HY.out ?_
          · go_simp; try (first | rfl | omega | (intro hh; exfalso; omega))
          refine wpAnyH_take (i:=11) (v:=.int .i64 (kid:Int)) rfl (by kernel_rfl) (by kernel_rfl) (by kernel_rfl) (fun _ _ _ h=>h) (.inl ⟨by kernel_rfl,fun W hW=>?_⟩) HY.out ?_
          · go_simp; try (first | rfl | omega | (intro hh; exfalso; omega))
          refine wpAnyH_all (rs:=[2]) (by kernel_rfl) (by simp) ?_;intro z hz;simp only [List.mem_cons,List.not_mem_nil,or_false] at hz;subst hz;unfold wpOp
          go_simp
          refine .inl ?_;refine (HCa.out wd).mono ?_;rintro rr wb ⟨rfl,hb⟩;have HY:=lj ((hb.cell (p:=⟨tb,tf+i,none⟩) (Nat.lt_of_lt_of_le htbN HMd.out.big)).trans HY.out);have HMd:=lj (HMd.out.go hb);clear hb;refine ⟨HY.out,?_⟩;refine wpAnyH_all (rs:=[10]) (by kernel_rfl) (by simp) ?_;intro z hz;simp only [List.mem_cons,List.not_mem_nil,or_false] at hz;subst hz;unfold wpOp
          go_simp
          refine .inl ?_;refine (HCs.out wb).mono ?_;rintro rr wc ⟨rfl,hb⟩;have HY:=lj ((hb.cell (p:=⟨tb,tf+i,none⟩) (Nat.lt_of_lt_of_le htbN HMd.out.big)).trans HY.out);have HMd:=lj (HMd.out.go hb);clear hb;refine ⟨HY.out,?_⟩;refine wpAnyH_all (rs:=[12]) (by kernel_rfl) (by simp) ?_;intro z hz;simp only [List.mem_cons,List.not_mem_nil,or_false] at hz;subst hz;unfold wpOp
          go_simp
          refine .inl ?_;refine (HCa.out wc).mono ?_;rintro rr we ⟨rfl,hb⟩;have HY:=lj ((hb.cell (p:=⟨tb,tf+i,none⟩) (Nat.lt_of_lt_of_le htbN HMd.out.big)).trans HY.out);have HMd:=lj (HMd.out.go hb);clear hb;refine ⟨HY.out,?_⟩;refine wpAnyH_all (rs:=[13]) (by kernel_rfl) (by simp) ?_;intro z hz;simp only [List.mem_cons,List.not_mem_nil,or_false] at hz;subst hz;unfold wpOp
          go_simp
          have hb:Below we.heap.size we (we.alloc (.cells #[.int .i64 2,.int .i64 (kid:Int),.int .i64 65536,.string ⟨#[]⟩,.int .i64 1,.int .i64 (kid:Int),.int .i64 0,.string (str x1),.int .i64 2,.int .i64 (kid:Int),.int .i64 65536,.string ⟨#[]⟩] 30)):=(Below.refl _ _).alloc (Nat.le_refl _) _;have HNo:=lj (HOne.out we);have HY:=lj ((hb.cell (p:=⟨tb,tf+i,none⟩) (Nat.lt_of_lt_of_le htbN HMd.out.big)).trans HY.out);have HMd:=lj (HMd.out.go hb);clear hb;refine .inl ⟨HY.out,?_⟩;generalize we.alloc (.cells #[.int .i64 2,.int .i64 (kid:Int),.int .i64 65536,.string ⟨#[]⟩,.int .i64 1,.int .i64 (kid:Int),.int .i64 0,.string (str x1),.int .i64 2,.int .i64 (kid:Int),.int .i64 65536,.string ⟨#[]⟩] 30)=wf at *;obtain ⟨A5,c5,wg,hrun,hr5,hg5⟩:=run_eappg 25 HMd.out.ev (m:=3) (c2:=3) HNo.out rfl (by omega) HMd.out.big;have HY:=lj ((hg5.only.cell (p:=⟨tb,tf+i,none⟩) (Nat.lt_of_lt_of_le htbN HMd.out.big) (fun ⟨p,hp,hx⟩=>by have:=(HMd.out.ev.lt hp).1; have hx:p.block=tb:=hx.symm ▸ rfl; omega)).trans HY.out);have HMg:=lj (HMd.out.grow (m:=3) rfl hr5 hg5.only hg5.place);refine wpAnyH_all (rs:=[14]) (by kernel_rfl) (by simp) ?_;intro z hz;simp only [List.mem_cons,List.not_mem_nil,or_false] at hz;subst hz;refine wpOp_value rfl rfl (exec_append (s:=.tmp 106) (x:=.tmp 119) (st:=25) rfl rfl rfl hrun) ⟨HY.out,?_⟩;clear hrun hr5 hg5;refine wpAnyH_all (rs:=[15]) (by kernel_rfl) (by simp) ?_;intro z hz;simp only [List.mem_cons,List.not_mem_nil,or_false] at hz;subst hz;unfold wpOp
          go_simp
          refine .inl ⟨HY.out,?_⟩;refine wpAnyH_done (by kernel_rfl) ?_ _
          go_simp
          obtain ⟨u,hIx⟩:=HIx.out.typed hk1 hk3 (seq:=i) (t:=t) (by omega) HN29.out h60 HTn.out (by omega)
          have hMm:InM cf gm N w wg A5 (some ⟨gk,ok,none⟩) (en+3) c5 (en+1) ck2 (E ++ [allE (kid:Nat),sayE (kid:Nat) (keys (i:Nat) t),allE (kid:Nat)]) (((X ++ [some (An.mk kid i t u),none,none]).take (en+1)).map kd):=by
            have e:(X ++ [some (An.mk kid i t u),none,none]).take (en+1)=X ++ [some (An.mk kid i t u)]:=by
              rw [List.take_append,hXl,List.take_of_length_le (by omega),show en+1 - en=1 by omega];rfl
            rw [e,List.map_append];exact HMg.out
          have HOn:=lj (show en+1≤(X ++ [some (An.mk kid i t u),none,none]).length∧∀ x∈(X ++ [some (An.mk kid i t u),none,none]).drop (en+1),x=none from by
            refine ⟨by rw [List.length_append,hXl]; show en+1≤en+3; omega,fun x hx=>?_⟩;rw [List.drop_append,hXl,List.drop_eq_nil_of_le (by omega),show en+1 - en=1 by omega] at hx;simp at hx
            exact hx)
          have HMm:=lj hMm;have HIm:=lj (hIx.mono (n':=321+22 * (i+1)) (by omega));clear hMm hIx HCa HCs HOne HTp HMp HMg HMd HNo HY
          go_wp2_with fail
          go_roundw
          case rel=>exact ⟨i+1,en+3,c5,en+1,ck2,A5,some ⟨gk,ok,none⟩,_,_,rfl,rfl,by go_num,by omega,by omega,HIm,HOn,HMm.out⟩
          case measure=>simp [intOf]; omega
    obtain rfl:i=len1:=by omega
    have dt:decide ((i:Int)<(i:Int))=false:=by simp
    have HEo:=lj (show ∀ W:World,EvIn (W.alloc (.cells #[.int .i64 4,.int .i64 0,.int .i64 65536,.string ⟨#[]⟩] 30)) (W.heap.size+1) (some ⟨W.heap.size,0,none⟩) [draE 65536] from fun W=>ev_one W (draE 65536) (Nat.zero_le _) _);have HMc:=HM;clear HM
    go_upto_region 35 with fail
    have hba:Below wr.heap.size wr (wr.alloc (.cells #[.int .i64 4,.int .i64 0,.int .i64 65536,.string ⟨#[]⟩] 30)):=(Below.refl _ _).alloc (Nat.le_refl _) _;have HMa:=lj (HMc.out.go hba);have HNa:=lj (HEo.out wr);have hza:N≤(wr.alloc (.cells #[.int .i64 4,.int .i64 0,.int .i64 65536,.string ⟨#[]⟩] 30)).heap.size:=HMa.out.big;clear hba HMc HEo
    go_wp2_with (first
      | (at_builtin
         refine wpList_eappg rfl (.tmp 151) (.tmp 153) rfl rfl HMa.out.ev rfl HNa.out rfl (by omega) hza ?_;intro A5 c5 wb hr5 hO5 hA5;have HMb:=lj (HMa.out.grow (m:=1) rfl hr5 hO5 hA5);clear hr5 hO5 hA5 HMa HNa hza;have hxb:=HMb.out.bx;have z0:=hxb.cell 0 (.int .i64 cf.log) rfl;have z1:=hxb.cell 1 (.int .i64 cf.data) rfl;have z2:=hxb.cell 2 (.int .i64 4000) rfl;have z3:=hxb.cell 3 (.int .i64 cf.input) rfl;have z4:=hxb.cell 4 (.int .i64 cf.strikes) rfl;have z5:=hxb.cell 5 (.int .i64 cf.lease) rfl;have z6:=hxb.cell 6 (.int .i64 0) rfl;have z7:=hxb.cell 7 (.int .i64 cf.width) rfl
         go_wp2_with fail))
    obtain ⟨hIl,hgw⟩:=HIx.out.last HC.out.input.2;have HOl2:=lj (old_next HOl.out.1 HOl.out.2)
    obtain ⟨E2,hE2⟩:∃ E2,E ++ [draE 65536]=E2:=⟨_,rfl⟩
    obtain ⟨X2,hX2⟩:∃ X2,X ++ [none]=X2:=⟨_,rfl⟩
    have HMx:=lj (HMb.out.old (X:=X) HOl.out.1 [none]);rw [hE2] at HMx hIl hgw;rw [hX2] at HMx HOl2 hIl hgw
    have hE2l:E2.length=en+1:=by rw [← hE2,List.length_append,hel]; rfl
    have hX2l:X2.length=en+1:=by rw [← hX2,List.length_append,hXl]; rfl
    have hq2:=hIl.list (by omega);have HI2:=lj hIl;have HGw:=lj hgw;have HCF:=lj (cf4_ok HC.out);clear hIl hgw hE2 hX2 HIx HOl HMb;have HPl:=lj (show Calls Tryz.prog 16 #[.agg #[.int .i64 cf.log,.int .i64 cf.data,.int .i64 4000,.int .i64 cf.input,.int .i64 cf.strikes,.int .i64 cf.lease,.int .i64 0,.int .i64 cf.width],.slice A5 (en+1) c5] wb (PLGives (cf4 cf) E2 wb) from played_any HCF.out.1 HCF.out.2 E2 HI2.out.rt (by omega) hq2.1 hq2.2 A5 (en+1) c5 wb (HTI.out.below (by rw [HG.out]; exact HMx.out.below)) HMx.out.ev.evin hE2l);refine HPl.out.mono ?_;rintro r w9 ⟨g,n0,ao,co,rfl,hn0,hls,hrow,_,hb9⟩;rw [hE2l] at hrow ⊢;have HO9:=lj (show OtIn w9 w9.heap.size ao (pouts (bnew (cf4 cf)) E2) from hrow.otin);have HM9:=lj (HMx.out.go hb9);have HOt:=lj (pouts_t E2 (bnew (cf4 cf)));have hOl:=pouts_len E2 (bnew (cf4 cf));rw [hE2l] at hOl;have HAn:=lj HI2.out.ann
    obtain ⟨O,hO⟩:∃ O,pouts (bnew (cf4 cf)) E2=O:=⟨_,rfl⟩
    rw [hO] at HO9 HOt hOl HAn HGw
    obtain ⟨Z,hZ⟩:∃ Z,E2.zip O=Z:=⟨_,rfl⟩
    rw [hZ] at HGw;have HZ:=lj hZ
    have HGl:=lj (show (gvn [] Z).length≤9000000 from by
      have h1:=gvn_len Z [] fun p hp=>HOt.out p.2 (List.of_mem_zip (hZ ▸ hp)).2
      have h2:Z.length=en+1:=by rw [← hZ,List.length_zip,hE2l,hOl]; omega
      rw [h2] at h1;have:65536 * (en+1)≤65536 * 127:=Nat.mul_le_mul_left _ (by omega);simp at h1
      omega)
    clear hO hZ hrow hb9 hls hn0 HPl HI2 hq2 HMx z0 z1 z2 z3 z4 z5 z6 z7 hel hXl
    go_wp2_with fail
    go_loopw [17,18,166] (fun s17 s18 s166 wr=>∃ k:Nat,s17 = .string (str (gvn [] (Z.take k)))∧s18 = .string (str (wvn (X2.take k)))∧s166 = .int .i64 (k:Nat)∧k≤en+1∧Below w9.heap.size w9 wr) (fun _ _ s _=>1000 - (intOf s).toNat)
    case atStart=>exact ⟨0,rfl,rfl,rfl,Nat.zero_le _,Below.refl _ _⟩
    case round =>
      as_aux_lemma =>
      obtain ⟨k,rfl,rfl,rfl,hk,hb⟩:=hrel;have HB:=lj hb;have HMw:=lj (HM9.out.go hb);clear hb
      have hgl:(gvn [] (Z.take k)).length≤9000000:=by
        have h1:=gvn_len (Z.take k) [] fun p hp=>HOt.out p.2 (List.of_mem_zip (HZ.out ▸ List.mem_of_mem_take hp)).2
        have h2:(Z.take k).length≤en+1:=by rw [List.length_take]; omega
        have:65536 * (Z.take k).length≤65536 * 127:=Nat.mul_le_mul_left _ (by omega);simp only [List.length_nil,Nat.zero_add] at h1;omega
      have hwl:(wvn (X2.take k)).length≤9000000:=by
        have h1:=wvn_pre X2 k;rw [← HGw.out] at h1;have:=HGl.out;omega
      by_cases hlt:k<en+1
      rotate_left
      · obtain rfl:k=en+1:=by omega
        have dk:decide (((en+1:Nat):Int)<((en+1:Nat):Int))=false:=by simp
        have dk2:decide ((en:Int)+1<(en:Int)+1)=false:=by simp
        have e1:gvn [] (Z.take (en+1))=wvn (X2.take (en+1)):=by
          rw [List.take_of_length_le (show Z.length≤en+1 by rw [← HZ.out,List.length_zip]; omega),List.take_of_length_le (by omega)];exact HGw.out
        rw [e1];have hbeq:=str_beq (wvn (X2.take (en+1))) (wvn (X2.take (en+1)));rw [decide_eq_true rfl] at hbeq;go_wp2;go_ret;exact ⟨rfl,by rw [HG.out]; exact HMw.out.below⟩
      obtain ⟨e,he⟩:∃ e,E2[k]?=some e:=⟨_,List.getElem?_eq_getElem (by omega)⟩
      obtain ⟨ot,hot⟩:∃ ot,O[k]?=some ot:=⟨_,List.getElem?_eq_getElem (by omega)⟩
      obtain ⟨x,hx⟩:∃ x,X2[k]?=some x:=⟨_,List.getElem?_eq_getElem (by omega)⟩
      have HNg:=lj (gvn_next [] Z k (e,ot) (by rw [← HZ.out,List.getElem?_zip_eq_some]; exact ⟨he,hot⟩));have HNw:=lj (wvn_next X2 k x hx);have hotl:ot.t.length≤65536:=HOt.out _ (List.mem_of_getElem? hot)
      obtain ⟨G,hG⟩:∃ G,gvn [] (Z.take k)=G:=⟨_,rfl⟩
      obtain ⟨W,hW⟩:∃ W,wvn (X2.take k)=W:=⟨_,rfl⟩
      rw [hG] at HNg hgl ⊢;rw [hW] at HNw hwl ⊢;have hGz:=str_size G;have hWz:=str_size W;have hoz:=str_size ot.t;obtain ⟨bb,off,rfl,hbB,hc⟩:=HMw.out.ev.evin.outer (by omega);obtain ⟨hc0,hc1,hc2,hc3⟩:=hc k e he;obtain ⟨bo,oo,rfl,hboB,hco⟩:=(HO9.out.below HB.out) (by omega);obtain ⟨p0,p1⟩:=hco k ot hot;replace p1:wr.cell? ⟨bo,oo+k * 2+1,none⟩=some (.string (str ot.t)):=p1;have HC3:=lj hc;have HO3:=lj hco;have HX:=lj hx;have HEk:=lj he;have dk:decide ((k:Int)<(en:Int)+1)=true:=decide_eq_true (by omega);have dk2:decide ((k:Int)<((en+1:Nat):Int))=true:=decide_eq_true (by omega);have hap:=str_app G ot.t
      have hno:¬ (9223372036854775807<G.length+ot.t.length):=by omega
      clear hc hco hx he hot hG hW p0 hc1 hc2 hc3
      by_cases hk4:e.k=4
      · have d4:(e.k == 4)=true:=by simp [hk4]
        have hxn:x=none:=by
          rcases x with _ | a
          · rfl
          · obtain ⟨_,h0,_⟩:=HAn.out k a HX.out
            rw [HEk.out] at h0
            injection h0 with h0
            rw [h0] at hk4;exact absurd (show (2:Int)=4 from hk4) (by decide)
        subst hxn;have HWn:=lj (show wvn (X2.take (k+1))=W from by rw [HNw.out]; exact List.append_nil _);have HGn:=lj (show gvn [] (Z.take (k+1))=G ++ ot.t from by rw [HNg.out]; unfold gstep; exact if_pos hk4);clear hk4
        by_cases hkl2:kl≤k
        · have dg:decide ((k:Int) ≥ (kl:Int))=true:=by simp; omega
          have dg2:decide ((kl:Int)≤(k:Int))=true:=by simp; omega
          go_wp2_with fail
          go_roundw
          case rel=>exact ⟨k+1,by rw [HGn.out,hap],by rw [HWn.out],by go_num,by omega,HB.out⟩
          case measure=>simp [intOf]; omega
        · have dg:decide ((k:Int) ≥ (kl:Int))=false:=by simp; omega
          have dg2:decide ((kl:Int)≤(k:Int))=false:=by simp; omega
          obtain ⟨kb,ko,rfl,hkB,hkc⟩:=ints_at HMw.out.nr.vals (by omega);have hkk:=hkc k (by omega);rw [List.getD_eq_getElem?_getD,List.getElem?_map,List.getElem?_take_of_lt (by omega),HX.out] at hkk;replace hkk:wr.cell? ⟨kb,ko+k,none⟩=some (.int .i64 0):=hkk;clear hkc
          go_wp2_with fail
          go_roundw
          case rel=>exact ⟨k+1,by rw [HGn.out,hap],by rw [HWn.out],by go_num,by omega,HB.out⟩
          case measure=>simp [intOf]; omega
      have d4:(e.k == 4)=false:=by simpa using hk4
      have HGn:=lj (show gvn [] (Z.take (k+1))=G from by rw [HNg.out]; unfold gstep; exact if_neg hk4);clear hk4 hap hno hotl hoz p1
      rcases x with _ | a
      · have HWn:=lj (show wvn (X2.take (k+1))=W from by rw [HNw.out]; exact List.append_nil _)
        by_cases hkl2:kl≤k
        · have dg:decide ((k:Int) ≥ (kl:Int))=true:=by simp; omega
          have dg2:decide ((kl:Int)≤(k:Int))=true:=by simp; omega
          go_wp2_with fail
          go_roundw
          case rel=>exact ⟨k+1,by rw [HGn.out],by rw [HWn.out],by go_num,by omega,HB.out⟩
          case measure=>simp [intOf]; omega
        · have dg:decide ((k:Int) ≥ (kl:Int))=false:=by simp; omega
          have dg2:decide ((kl:Int)≤(k:Int))=false:=by simp; omega
          obtain ⟨kb,ko,rfl,hkB,hkc⟩:=ints_at HMw.out.nr.vals (by omega);have hkk:=hkc k (by omega);rw [List.getD_eq_getElem?_getD,List.getElem?_map,List.getElem?_take_of_lt (by omega),HX.out] at hkk;replace hkk:wr.cell? ⟨kb,ko+k,none⟩=some (.int .i64 0):=hkk;clear hkc
          go_wp2_with fail
          go_roundw
          case rel=>exact ⟨k+1,by rw [HGn.out],by rw [HWn.out],by go_num,by omega,HB.out⟩
          case measure=>simp [intOf]; omega
      obtain ⟨hok,_,he1,eo,ho2⟩:=HAn.out k a HX.out
      have hk2:k+2<en+1:=by
        rcases Nat.lt_or_ge (k+2) O.length with h | h
        · omega
        · rw [List.getElem?_eq_none h] at ho2; cases ho2
      have hklk:k<kl:=by
        rcases Nat.lt_or_ge k kl with h | h
        · exact h
        · have:=old_get HOl2.out h (by omega)
          rw [HX.out] at this
          injection this with this
          cases this
      obtain ⟨kb,ko,rfl,hkB,hkc⟩:=ints_at HM9.out.nr.vals (by omega);have hkk:=(HB.out.cell (p:=⟨kb,ko+k,none⟩) hkB).trans (hkc k (by omega));rw [List.getD_eq_getElem?_getD,List.getElem?_map,List.getElem?_take_of_lt hklk,HX.out] at hkk;replace hkk:wr.cell? ⟨kb,ko+k,none⟩=some (.int .i64 (a.id:Int)):=hkk;obtain ⟨_,_,_,hs1⟩:=HC3.out (k+1) _ he1;obtain ⟨_,ht1⟩:=HO3.out (k+2) _ ho2
      change _=some (Value.string (str (enc (keys (a.seq:Nat) a.t)))) at hs1
      change _=some (Value.string (str (encs (rjs a)))) at ht1
      obtain ⟨m1,m2,m3,m4⟩:=rjs_is hok
      have hel2:(encs (rjs a)).length≤4000:=by
        unfold rjs; split
        · exact Nat.zero_le _
        · show (enc (rejectM _ _) ++ []).length≤4000; rw [List.append_nil,reject_len]; decide
      have HKo:=lj hok;have HM1:=lj m1;have HM3:=lj m3;have HM4:=lj m4;have HRo:=lj hok.rjs;have hi1:=hok.id1;have hi3:=hok.id3;have hsq:=hok.seq;have htl6:=hok.len;have HF:=lj (frameof_any (keys (a.seq:Nat) a.t) hok.keys wr);have HMo:=lj (mof_fm hok.keys);have hfl:=ok_len hok.keys
      obtain ⟨fv,hfv⟩:∃ fv,fm (keys (a.seq:Nat) a.t)=fv:=⟨_,rfl⟩
      obtain ⟨s1,hs1e⟩:∃ s1,enc (keys (a.seq:Nat) a.t)=s1:=⟨_,rfl⟩
      obtain ⟨ms,hms⟩:∃ ms,rjs a=ms:=⟨_,rfl⟩
      obtain ⟨s2,hs2e⟩:∃ s2,encs ms=s2:=⟨_,rfl⟩
      rw [hfv,hs1e] at HF;rw [hfv] at HMo hfl;rw [hs1e] at hs1;rw [hms] at HM1 HM3 HM4 HRo m2 ht1 hel2;rw [hs2e] at ht1 hel2;have HS2:=lj hs2e;clear hfv hs1e hms hs2e hok he1 ho2 hkc m1 m3 m4 HC3 HO3
      have dg:decide ((k:Int) ≥ (kl:Int))=false:=by simp; omega
      have dg2:decide ((kl:Int)≤(k:Int))=false:=by simp; omega
      have di0:((a.id:Int) == 0)=false:=by simp; omega
      have hb1:0≤(k:Int)+1∧(k:Int)+1<(en:Int)+1:=by omega
      have hb2:0≤(k:Int)+2∧(k:Int)+2<(en:Int)+1:=by omega
      go_wp2_with fail
      refine HF.out.mono ?_;rintro rr w10 ⟨A3,c3,rfl,hby3,hc3,hb3⟩;have htc:=hb3.cell (p:=⟨bo,oo+(k+2) * 2+1,none⟩) (show bo<wr.heap.size by have:=HB.out.size; omega);have ht2:=htc.trans ht1;have hkk2:=(hb3.cell (p:=⟨kb,ko+k,none⟩) (show kb<wr.heap.size by have:=HB.out.size; omega)).trans hkk;have HB10:=lj (HB.out.trans (hb3.mono HB.out.size));have HOf:=lj (mof_any fv.1 A3 fv.2.length c3 w10.heap.size fv.2 w10 hby3 (Nat.le_refl _) hc3 (by omega));clear htc hby3 hb3 HF hs1 ht1 hkk
      go_wp2_with fail
      refine HOf.out.mono ?_;rintro rr w11 ⟨hpost,hb4⟩;obtain rfl:=of_mof hpost;rw [HMo.out];have hmv:mvalo (some (keys (a.seq:Nat) a.t)) = .agg #[.int .i64 2,.int .i64 (a.seq:Int),.int .i64 0,.string (str a.t)]:=rfl;have his:(some (keys (a.seq:Nat) a.t)).isSome=true:=rfl;rw [hmv,his];clear hmv his hpost HOf HMo;have ht3:=(hb4.cell (p:=⟨bo,oo+(k+2) * 2+1,none⟩) (show bo<w10.heap.size by have:=HB.out.size; have:=HB10.out.size; omega)).trans ht2;have hkk3:=(hb4.cell (p:=⟨kb,ko+k,none⟩) (show kb<w10.heap.size by have:=HB10.out.size; omega)).trans hkk2;have HB11:=lj (HB10.out.trans (hb4.mono HB10.out.size));have hba:Below w11.heap.size w11 (w11.alloc (.cells #[.int .i64 2,.int .i64 (a.seq:Int),.int .i64 0,.string (str a.t)] 42)):=(Below.refl _ _).alloc (Nat.le_refl _) _;have HXm:=lj (Bx.new w11 w11.heap.size rfl #[.int .i64 2,.int .i64 (a.seq:Int),.int .i64 0,.string (str a.t)] 42);have HB12:=lj (HB11.out.trans (hba.mono HB11.out.size));have ht4:=(hba.cell (p:=⟨bo,oo+(k+2) * 2+1,none⟩) (show bo<w11.heap.size by have:=HB11.out.size; omega)).trans ht3;have hkk4:=(hba.cell (p:=⟨kb,ko+k,none⟩) (show kb<w11.heap.size by have:=HB11.out.size; omega)).trans hkk3;clear hb4 hba ht2 hkk2 ht3 hkk3
      go_upto_region 48 with fail
      obtain ⟨gx,hgx⟩:∃ gx,w11.heap.size=gx:=⟨_,rfl⟩
      rw [hgx] at HXm ⊢
      have hgx9:w9.heap.size≤gx:=by rw [← hgx]; exact HB11.out.size
      generalize w11.alloc (.cells #[.int .i64 2,.int .i64 (a.seq:Int),.int .i64 0,.string (str a.t)] 42)=w12 at *;clear hgx HB10 HB11 HB;obtain ⟨cy,wy,hcy,hyy,hby,hly,hsy⟩:=conv_tob w12 s2;have HXy:=lj (HXm.out.go hby HXm.out.room);have HBy:=lj (HB12.out.trans (hby.mono HB12.out.size));have hkky:=(hby.cell (p:=⟨kb,ko+k,none⟩) (show kb<w12.heap.size by have:=HB12.out.size; omega)).trans hkk4;have HMs:=lj (lmessages_any ms HRo.out wy (show Bytes wy (w12.heap.size+1) (some ⟨w12.heap.size,0,none⟩) s2.length (encs ms) from HS2.out ▸ hyy) hsy hly (by omega));clear hyy hby hly hsy HB12 hkk4
      go_wp2_with fail
      refine HMs.out.mono ?_;rintro rr w13 ⟨R,rc,rfl,hrow,hb13⟩;have HMi:=lj (show MsgIn w13 w13.heap.size R ms from hrow.msin);have HX13:=lj (HXy.out.go hb13 HXy.out.room);have HB13:=lj (HBy.out.trans (hb13.mono HBy.out.size));have hkk13:=(hb13.cell (p:=⟨kb,ko+k,none⟩) (show kb<wy.heap.size by have:=HBy.out.size; omega)).trans hkky;have HKk:=lj hkk13;clear hrow hb13 HMs HXy HBy hkky ht4 hcy hkk13
      go_wp2_with fail
      go_loopw [24,217] (fun s24 s217 wr=>∃ j:Nat,s24 = .int .i64 (j:Nat)∧s217 = .int .i64 (j:Nat)∧j≤ms.length∧Below w13.heap.size w13 wr) (fun _ s _=>10 - (intOf s).toNat)
      case atStart=>exact ⟨0,rfl,rfl,Nat.zero_le _,Below.refl _ _⟩
      case round =>
        obtain ⟨j,rfl,rfl,hj,hb⟩:=hrel;have HBj:=lj hb;have HXj:=lj (HX13.out.go hb HX13.out.room);have hkj:=(hb.cell (p:=⟨kb,ko+k,none⟩) (show kb<w13.heap.size by have:=HB13.out.size; omega)).trans HKk.out;clear hb
        by_cases hjl:j<ms.length
        · obtain ⟨m,hm⟩:∃ m,ms[j]?=some m:=⟨_,List.getElem?_eq_getElem hjl⟩
          obtain ⟨y,rfl,y3,y5,y33⟩:=HM1.out m (List.mem_of_getElem? hm);obtain ⟨bm,om,rfl,hbm,hcm⟩:=(HMi.out.below HBj.out).outer (by omega);obtain ⟨u0,u1,u2,u3⟩:=hcm j _ hm
          change _=some (Value.int .i64 8) at u0
          change _=some (Value.int .i64 (a.seq:Int)) at u1
          change _=some (Value.int .i64 (y:Int)) at u2
          change _=some (Value.string (str [])) at u3
          have hba:Below wr.heap.size wr (wr.alloc (.cells #[.int .i64 8,.int .i64 (a.seq:Int),.int .i64 (y:Int),.string (str [])] 42)):=(Below.refl _ _).alloc (Nat.le_refl _) _;have HXx:=lj (Bx.new wr wr.heap.size rfl #[.int .i64 8,.int .i64 (a.seq:Int),.int .i64 (y:Int),.string (str [])] 42);have HBx:=lj (HBj.out.trans (hba.mono HBj.out.size));have HXk:=lj (HXj.out.go hba HXj.out.room);have hkx:=(hba.cell (p:=⟨kb,ko+k,none⟩) (show kb<wr.heap.size by have:=HBj.out.size; have:=HB13.out.size; omega)).trans hkj;have dj:decide ((j:Int)<(ms.length:Int))=true:=decide_eq_true (by omega);clear hcm hm hba hkj
          go_upto_region 53 with fail
          generalize wr.alloc (.cells #[.int .i64 8,.int .i64 (a.seq:Int),.int .i64 (y:Int),.string (str [])] 42)=wx at *;clear u0 u1 u2 u3;have x0:=HXx.out.cell 0 (.int .i64 8) rfl;have x1:=HXx.out.cell 1 (.int .i64 (a.seq:Int)) rfl;have x2:=HXx.out.cell 2 (.int .i64 (y:Int)) rfl;have q1:=HXk.out.cell 1 (.int .i64 (a.seq:Int)) rfl
          have dy3:decide ((y:Int)<3)=false:=by simp; omega
          have dy5:decide ((y:Int) > 5)=false:=by simp; omega
          have dy52:decide ((5:Int)<(y:Int))=false:=by simp; omega
          by_cases h3:a.id=3
          · have d3:((a.id:Int) == 3)=true:=by simp [h3]
            have dyn:((y:Int) != 3)=false:=by rw [y33 h3]; rfl
            clear y33 y3 y5 h3
            go_wp2_with fail
            go_roundw
            case rel=>exact ⟨j+1,by go_num,by go_num,by omega,HBx.out⟩
            case measure=>simp [intOf]; omega
          · have d3:((a.id:Int) == 3)=false:=by simp; omega
            clear y33 y3 y5 h3
            go_wp2_with fail
            go_roundw
            case rel=>exact ⟨j+1,by go_num,by go_num,by omega,HBx.out⟩
            case measure=>simp [intOf]; omega
        obtain rfl:j=ms.length:=by omega
        have dj:decide ((ms.length:Int)<(ms.length:Int))=false:=by simp
        have HBz:=lj (HB13.out.trans (HBj.out.mono HB13.out.size));have q3:=HXj.out.cell 3 (.string (str a.t)) rfl
        have dj1:decide ((ms.length:Int) > 1)=false:=by simp; omega
        have dj12:decide ((1:Int)<(ms.length:Int))=false:=by simp; omega
        by_cases h0:ms.length=0
        · obtain ⟨hn3,hwx⟩:=HM3.out h0
          have d3:((a.id:Int) == 3)=false:=by simp; omega
          have d0:((ms.length:Int) == 0)=true:=by simp; exact List.eq_nil_of_length_eq_zero h0
          have hapw:=str_app W a.t;have haz:=str_size a.t
          have hnw:¬ (9223372036854775807<W.length+a.t.length):=by omega
          have HWn:=lj (show wvn (X2.take (k+1))=W ++ a.t from by rw [HNw.out,hwx]);clear h0 hn3 hwx
          go_wp2_with fail
          go_roundw
          case rel=>exact ⟨k+1,by rw [HGn.out],by rw [HWn.out,hapw],by go_num,by omega,HBz.out⟩
          case measure=>simp [intOf]; omega
        · have hwx:=HM4.out h0
          have d0:((ms.length:Int) == 0)=false:=by simp; intro h; exact h0 (by rw [h]; rfl)
          have HWn:=lj (show wvn (X2.take (k+1))=W from by rw [HNw.out,hwx,List.append_nil]);clear h0 hwx
          by_cases h3:a.id=3
          · have d3:((a.id:Int) == 3)=true:=by simp [h3]
            clear h3
            go_wp2_with fail
            go_roundw
            case rel=>exact ⟨k+1,by rw [HGn.out],by rw [HWn.out],by go_num,by omega,HBz.out⟩
            case measure=>simp [intOf]; omega
          · have d3:((a.id:Int) == 3)=false:=by simp; omega
            clear h3
            go_wp2_with fail
            go_roundw
            case rel=>exact ⟨k+1,by rw [HGn.out],by rw [HWn.out],by go_num,by omega,HBz.out⟩
            case measure=>simp [intOf]; omega
theorem w_in:Tryz.checked.prog.inits.idxOf? 4=none:=by kernel_rfl
theorem w_ok (os:Os):Input.okWideB Tryz.prog ((World.doorLaid Tryz.prog 400 os).forCall (fun _ _=>0) ⟨#[],#[.agg #[.int .i64 0,.int .i64 0,.int .i64 0,.int .i64 0,.int .i64 0,.int .i64 0,.int .i64 0,.int .i64 0],.slice none 0 0,.slice none 0 0],[]⟩) 4 ⟨#[],#[.agg #[.int .i64 0,.int .i64 0,.int .i64 0,.int .i64 0,.int .i64 0,.int .i64 0,.int .i64 0,.int .i64 0],.slice none 0 0,.slice none 0 0],[]⟩=true:=by kernel_rfl
theorem w_pre (os:Os) (H:Type) (enc:TypeId×Value→H):Rows.wholeInputSpec.preB enc Tryz.prog Tryz.f4 [] false ((World.doorLaid Tryz.prog 400 os).forCall (fun _ _=>0) ⟨#[],#[.agg #[.int .i64 0,.int .i64 0,.int .i64 0,.int .i64 0,.int .i64 0,.int .i64 0,.int .i64 0,.int .i64 0],.slice none 0 0,.slice none 0 0],[]⟩).memory #[.agg #[.int .i64 0,.int .i64 0,.int .i64 0,.int .i64 0,.int .i64 0,.int .i64 0,.int .i64 0,.int .i64 0],.slice none 0 0,.slice none 0 0] 8=true:=by kernel_rfl
theorem w_sz (os:Os) (H:Type) (enc:TypeId×Value→H):Rows.wholeInputSpec.sizedB enc Tryz.prog Tryz.f4 false ((World.doorLaid Tryz.prog 400 os).forCall (fun _ _=>0) ⟨#[],#[.agg #[.int .i64 0,.int .i64 0,.int .i64 0,.int .i64 0,.int .i64 0,.int .i64 0,.int .i64 0,.int .i64 0],.slice none 0 0,.slice none 0 0],[]⟩).memory #[.agg #[.int .i64 0,.int .i64 0,.int .i64 0,.int .i64 0,.int .i64 0,.int .i64 0,.int .i64 0,.int .i64 0],.slice none 0 0,.slice none 0 0] 8=true:=by kernel_rfl
theorem lifted (os:Os) (started:os.Started) (H:Type) (enc:TypeId×Value→H) :
  ReturnsInHanded {} Tryz.checked os 4 .any (fun w args=>(Rows.wholeInputSpec.pre enc Tryz.prog Tryz.f4 [] false w args∧laidMetH Tryz.prog laidL w)∧sizedMet enc Tryz.prog Tryz.f4 (OpenSpec.ofChange Rows.wholeInputSpec) false w args)
   (Rows.wholeInputSpec.post enc Tryz.prog Tryz.f4 false true false false):=by
 refine returnsInHanded_of_change_and (C:=Tryz.checked) (X:=fun w _=>laidMetH Tryz.prog laidL w) (fun _ _ _ hh h=>h.of_heap hh) own started w_in Tryz.func4
  (ChangeSpec.witness_shaped (enc:=enc) (C:=Tryz.checked) (os:=os) (X:=fun w _=>laidMetH Tryz.prog laidL w) false (World.doorLaid Tryz.prog 400 os) #[.agg #[.int .i64 0,.int .i64 0,.int .i64 0,.int .i64 0,.int .i64 0,.int .i64 0,.int .i64 0,.int .i64 0],.slice none 0 0,.slice none 0 0] 8 rfl (door_shaped os _) (w_ok os) (w_pre os H enc) (w_sz os H enc) (door_met os _)) ?_
 intro W base args ds gs before hval0 hW hcnd hsz0 hL _;have hti:=ti_of hL
 have hval:∀ (j:Nat) t v,Tryz.f4.params[j]?=some t→args[j]?=some v→Value.okWide Tryz.prog W .any base t v:=hval0
 have hW':=hW;obtain ⟨p,q,hA0,hV,rfl,hfz,hnd⟩:=hW;have hsz:(DataW.weightsEach Tryz.prog (Tryz.f4.params.toList ++ Rows.wholeInputSpec.plain.varTypes Tryz.prog) (ds ++ gs)).all (·≤reachBytes)=true:=hsz0;have hA:DataW.TrodAll enc Tryz.prog W 0 (fun _=>true) true Tryz.f4.params.toList args.toList ds p:=hA0;rw [Tryz.params4] at hA hval hsz;obtain ⟨v0,vs0,d0,ds0,p0,q0,hargs,rfl,rfl,h0,r0⟩:=trodAll_cons hA;obtain ⟨v1,vs1,d1,ds1,p1,q1,rfl,rfl,rfl,h1,r1⟩:=trodAll_cons r0;obtain ⟨v2,vs2,d2,ds2,p2,q2,rfl,rfl,rfl,h2,r2⟩:=trodAll_cons r1;obtain ⟨rfl,rfl,rfl⟩:=trodAll_nil r2
 obtain rfl:args = #[v0,v1,v2]:=by cases args; simp_all
 obtain ⟨rfl,rfl⟩:=trodVars_none hV;have k0:=h0
 have lt0:∀ x∈p0,x.block<W.heap.size:=by obtain ⟨m,hm⟩:=k0; exact DataW.trod_lt m _ _ _ hm
 obtain ⟨ca0,cb0,cc0,cd0,ce0,cf0,cg0,ch0,rfl⟩:=open_conf (hval 0 23 v0 rfl rfl) h0;obtain ⟨a1,len1,cap1,rfl⟩:=okWide_slice Tryz.underlying45 (hval 1 45 v1 rfl rfl);have k1:=h1
 have lt1:∀ x∈p1,x.block<W.heap.size:=by obtain ⟨m,hm⟩:=k1; exact DataW.trod_lt m _ _ _ hm
 obtain ⟨z1,w1⟩:∃ zs,IsRow .i64 W a1 len1 cap1 zs:=by
  obtain ⟨fuel,hf⟩:=h1;exact open_row hf
 obtain ⟨a2,len2,cap2,rfl⟩:=okWide_slice Tryz.underlying46 (hval 2 46 v2 rfl rfl);have k2:=h2
 have lt2:∀ x∈p2,x.block<W.heap.size:=by obtain ⟨m,hm⟩:=k2; exact DataW.trod_lt m _ _ _ hm
 obtain ⟨T2,w2,g2⟩:∃ T,Vals W W.heap.size a2 len2 (strs T)∧len2≤cap2∧cap2≤maxLen∧∀ t∈T,t.length≤maxLen:=by
  obtain ⟨fuel,hf⟩:=h2;exact open_strs hf
 clear hA0 hval0 hsz hsz0
 refine (walk ca0 cb0 cc0 cd0 ce0 cf0 cg0 ch0 a1 len1 cap1 z1 a2 len2 cap2 T2 W w1 w2 g2 hti).mono fun e W' ⟨he,bel⟩=>?_
 subst he;exact ⟨_,rfl,_,_,_,[],_,[],hW',trodAll_mk1 (shut_bool Tryz.underlying4 _),(trodAll_cons_mk (Below.trod laidOut (by kernel_rfl) (of_decide_eq_true (by kernel_rfl)) k0 bel lt0) (trodAll_cons_mk (Below.trod laidOut (by kernel_rfl) (of_decide_eq_true (by kernel_rfl)) k1 bel lt1) (trodAll_cons_mk (Below.trod laidOut (by kernel_rfl) (of_decide_eq_true (by kernel_rfl)) k2 bel lt2) trodAll_mk0))),rfl,bel.frame _,fun h=>by cases h⟩
theorem q0:(Rows.wholeInputRow.wf (OpenSpec.ofChange Rows.wholeInputSpec))=true:=by kernel_rfl
theorem q3:(Tryz.f4.params.all (Tryz.prog.readableRec ·))=true:=by kernel_rfl
theorem q4:(namedTie Tryz.prog Rows.wholeInputRow.named Rows.wholeInputSpec.vars)=true:=by kernel_rfl
theorem q5:((Rows.wholeInputRow.stops == []))=true:=by kernel_rfl
theorem q7:((Rows.wholeInputRow.knobs == []))=true:=by kernel_rfl
theorem q9:((Rows.wholeInputRow.inPlace == Tryz.prog.inPlace 4))=true:=by kernel_rfl
theorem q10:((Rows.wholeInputRow.unfollowed == Tryz.prog.unfollowed 4))=true:=by kernel_rfl
theorem q11:((Rows.wholeInputRow.recurses == Tryz.prog.recurses 4))=true:=by kernel_rfl
theorem q12:((Rows.wholeInputRow.named == Tryz.prog.varsNamed 4))=true:=by kernel_rfl
theorem q13:((Rows.wholeInputRow.maps == (Tryz.f4.params.toList ++ Rows.wholeInputSpec.plain.varTypes Tryz.prog).any (Tryz.prog.mapsRec ·)))=true:=by kernel_rfl
theorem q14:((Rows.wholeInputRow.ifaces == (Tryz.f4.params.toList ++ Rows.wholeInputSpec.plain.varTypes Tryz.prog).any (Tryz.prog.ifacesRec ·)))=true:=by kernel_rfl
theorem q15:((Rows.wholeInputRow.mapsOut == Tryz.prog.mapsAmong Tryz.f4.resultTypes.toList))=true:=by kernel_rfl
theorem q16:((Rows.wholeInputRow.loops == (Tryz.f4.params.toList ++ Rows.wholeInputSpec.plain.varTypes Tryz.prog).any (Tryz.prog.loopsFrom ·)))=true:=by kernel_rfl
theorem q17:((Rows.wholeInputRow.wideKeys == (Tryz.f4.params.toList ++ Rows.wholeInputSpec.plain.varTypes Tryz.prog ++ Tryz.f4.resultTypes.toList).any (Tryz.prog.wideKeysFrom ·)))=true:=by kernel_rfl
theorem q18:(Rows.wholeInputSpec.vars.all (Tryz.prog.varReadable ·))=true:=by kernel_rfl
theorem q19:(Tryz.f4.resultTypes.all (fun t=>Tryz.prog.readableRec t && decide (t<Tryz.prog.types.size)))=true:=by kernel_rfl
theorem q20:((Rows.wholeInputRow.ifacesOut == Tryz.f4.resultTypes.toList.any (Tryz.prog.ifacesRec ·)))=true:=by kernel_rfl
theorem q21:((Rows.wholeInputRow.loopsOut == Tryz.f4.resultTypes.toList.any (Tryz.prog.loopsFrom ·)))=true:=by kernel_rfl
theorem q22:((Rows.wholeInputRow.plainKeys == Tryz.prog.plainKeys))=true:=(show Rows.wholeInputRow.plainKeys=Rows.wholeTilesRow.plainKeys from rfl) ▸ pq22
theorem q23:(Rows.wholeInputRow.shortTexts.isNone)=true:=by kernel_rfl
theorem q26:((Rows.wholeInputRow.lifted == Tryz.prog.liftsFinal))=true:=(show Rows.wholeInputRow.lifted=Rows.wholeTilesRow.lifted from rfl) ▸ pq26
theorem q27:((Tryz.prog.make == some Rows.wholeInputRow.make))=true:=(show Rows.wholeInputRow.make=Rows.wholeTilesRow.make from rfl) ▸ pq27
theorem q28:kindsAre Tryz.prog Rows.wholeInputRow Tryz.f4=true:=by kernel_rfl
theorem q29:((Rows.wholeInputRow.pinned == Rows.wholeInputRow.pinnedBy))=true:=by kernel_rfl
theorem q30:((Rows.wholeInputRow.veiled == (Tryz.f4.params.toList ++ Rows.wholeInputSpec.plain.varTypes Tryz.prog ++ Tryz.f4.resultTypes.toList).any (Tryz.prog.veiledRec ·)))=true:=by kernel_rfl
theorem q31:(Rows.wholeInputRow.veiledFits Tryz.prog Tryz.f4.params.toList (Tryz.f4.params.toList ++ Rows.wholeInputSpec.plain.varTypes Tryz.prog ++ Tryz.f4.resultTypes.toList))=true:=by kernel_rfl
theorem q_named:Tryz.prog.funcNamed Rows.wholeInputRow.func=some 4:=by kernel_rfl
theorem q_inst:Tryz.f4.isInstance Tryz.prog Rows.wholeInputRow.origin Rows.wholeInputRow.targs:=of_decide_eq_true (by kernel_rfl)
theorem q_wrap:Tryz.f4.isWrapper Tryz.prog Rows.wholeInputRow.wrapper Rows.wholeInputRow.mainSum:=by unfold Func.isWrapper; first | (rw [if_pos (by decide +kernel)]; kernel_rfl) | (rw [if_neg (by decide +kernel)]; exact ⟨rfl,rfl⟩)
theorem q_all:joinedFacts Tryz.prog 4 Tryz.f4 Rows.wholeInputSpec Rows.wholeInputRow=true:=joined_of (P:=Tryz.prog) (f:=4) (fn:=Tryz.f4) (s:=Rows.wholeInputSpec) (c:=Rows.wholeInputRow) q0 pq1 pq2 q3 q4 q5 pq6 q7 pq8 q9 q10 q11 q12 q13 q14 q15 q16 q17 q18 q19 q20 q21 q22 q23 pq24 pq25 q26 q27 q28 q29 q30 q31
theorem over:Rows.WholeInputSaid:=
 OpenClaim.holds_of_wide 4 Tryz.f4 rfl rfl rfl rfl rfl rfl rfl ⟨rfl,rfl,rfl,rfl,rfl⟩ rfl rfl rfl rfl rfl q_named Tryz.func4 q_all q_inst q_wrap
  (fun os started H enc _=>lifted os started H enc)
theorem c_wf:Rows.wholeInputRow.wfByText (OpenSpec.ofChange Rows.wholeInputSpec)=true:=by kernel_rfl
theorem c_looks:true=Tryz.prog.looks []:=by kernel_rfl
theorem c_stand:([23,45,46].all fun u=>!Tryz.prog.wantsStandIn u)=true:=by kernel_rfl
theorem c_goes:false=Rows.wholeInputRow.goesBy Tryz.prog:=by kernel_rfl
end wholeInput
theorem wholeInput_holds:Rows.WholeInputCardSaid:=
 Claim7.holds_tied_plain_at (c:=Rows.wholeInputRow) .later [] _ true _ true
  wholeInput.over (fun _ h=>by cases h) wholeInput.c_wf (fun _ h=>by cases h) wholeInput_row_tie rfl ⟨rfl,rfl⟩ main_is rfl
  (fun f fn hf hfn=>by
   obtain rfl:f=4:=Option.some.inj (wholeInput.q_named.symm.trans hf) |>.symm
   obtain rfl:fn=Tryz.f4:=(Option.some.inj (Tryz.func4.symm.trans hfn)).symm
   exact ⟨wholeInput.c_looks,fun j t ht=>by
    rw [Tryz.params4] at ht
    have hm:t∈[23,45,46]:=by simpa using Array.mem_of_getElem? ht
    exact (show Tryz.prog.wantsStandIn t=false by simpa using List.all_eq_true.1 wholeInput.c_stand t hm)⟩)
  wholeInput.c_goes
#print axioms wholeInput_holds
end Go.Proofs.YtalichkdeekdcaaGreatDoor
