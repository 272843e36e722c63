/- PYk PYm PYi -/
import Derived.Test.YtecjpkjbgknnnaaGreatDoorZd36
import Derived.Test.YtecjpkjbgknnnaaGreatDoorZd38
namespace Go.Proofs.YtecjpkjbgknnnaaGreatDoor
set_option maxRecDepth 100000
open Go.Lib renaming hid → lj
section
open Go.RowKit
open Tl
def dgs16:Array Value:=#[.string ⟨#[48]⟩,.string ⟨#[49]⟩,.string ⟨#[50]⟩,.string ⟨#[51]⟩,.string ⟨#[52]⟩,.string ⟨#[53]⟩,.string ⟨#[54]⟩,.string ⟨#[55]⟩,.string ⟨#[56]⟩,.string ⟨#[57]⟩,.string ⟨#[97]⟩,.string ⟨#[98]⟩,.string ⟨#[99]⟩,.string ⟨#[100]⟩,.string ⟨#[101]⟩,.string ⟨#[102]⟩]
theorem dgl (x:Nat) (h:x<16):([.string ⟨#[48]⟩,.string ⟨#[49]⟩,.string ⟨#[50]⟩,.string ⟨#[51]⟩,.string ⟨#[52]⟩,.string ⟨#[53]⟩,.string ⟨#[54]⟩,.string ⟨#[55]⟩,.string ⟨#[56]⟩,.string ⟨#[57]⟩,.string ⟨#[97]⟩,.string ⟨#[98]⟩,.string ⟨#[99]⟩,.string ⟨#[100]⟩,.string ⟨#[101]⟩,.string ⟨#[102]⟩]:List Value)[x]'h = .string (str [dg x]):=by
 rcases (by omega:x=0∨x=1∨x=2∨x=3∨x=4∨x=5∨x=6∨x=7∨x=8∨x=9∨x=10∨x=11∨x=12∨x=13∨x=14∨x=15) with rfl | rfl | rfl | rfl | rfl | rfl | rfl | rfl | rfl | rfl | rfl | rfl | rfl | rfl | rfl | rfl <;> rfl
theorem str_at (t:Bs) (j:Nat) (h:j<t.length):∀ W,(Instr.index 9 (.string (str t)) (.int .i64 (j:Nat))).run Tryz.prog W = .ok (.int .u8 ((t[j]?.getD 0#8).toNat:Nat)) W:=by
 intro W;have hs:=str_size t
 have hi:(0:Int)≤(j:Nat)∧((j:Nat):Int)<((str t).size:Int):=by rw [hs]; omega
 rw [run_index_string W 9 (str t) .i64 (j:Nat) Tryz.underlying9,dif_pos hi,List.getElem?_eq_getElem h]
 have h2:j<(str t).size:=by rw [hs]; exact h
 have e:((str t)[j]'h2).toNat=t[j].toNat:=by
  show ((str t).data[j]'h2).toNat=_
  simp [str]
 show Result.ok (Value.int IntKind.u8 (((str t)[j]'h2).toNat:Nat)) W=Result.ok (Value.int IntKind.u8 (t[j].toNat:Nat)) W
 rw [e]
theorem lhex_any (t:Bs) (hl:t.length≤100000000) (w:World):Calls Tryz.prog 10 #[.string (str t)] w fun e w'=>e = .returned (.string (str (hexT t)))∧Below w.heap.size w w':=by
  have hsz:=str_size t
  go_enter Tryz.func10,Tryz.ntmps10
  go_wp2
  go_loopw [3,4] (fun s3 s4 wr=>∃ (j:Nat),s3 = .string (str (hexB (t.take j)))∧s4 = .int .i64 (j:Nat)∧j≤t.length∧Below w.heap.size w wr) (fun _ s _=>t.length - (intOf s).toNat)
  case atStart=>exact ⟨0,rfl,rfl,Nat.zero_le _,Below.refl _ _⟩
  case round =>
    obtain ⟨j,rfl,rfl,hj,hbr⟩:=hrel;have HB:=lj hbr
    obtain ⟨gw,hgw⟩:∃ gw,wr.heap.size=gw:=⟨_,rfl⟩
    have HG:=lj hgw;have hgl:=hbr.size;clear hbr
    by_cases hlt:j<t.length
    · have dk:decide ((j:Int)<(t.length:Int))=true:=by simp; omega
      have hix:=str_at t j hlt
      obtain ⟨x,hx⟩:∃ x,t[j]?.getD 0#8=x:=⟨_,rfl⟩
      have HN:=lj (hexB_next t j hlt);rw [hx] at hix HN;have hx256:=x.isLt
      obtain ⟨y1,hy1⟩:∃ y1,x.toNat / 16=y1:=⟨_,rfl⟩
      obtain ⟨y2,hy2⟩:∃ y2,x.toNat % 16=y2:=⟨_,rfl⟩
      rw [hy1,hy2] at HN
      go_upto_region 5 with fail
      have h16:((x.toNat:Nat):Int) / 16=(y1:Nat):=by omega
      have h16t:((x.toNat:Nat):Int).tdiv 16=(y1:Nat):=by rw [Int.tdiv_eq_ediv_of_nonneg (by omega)]; omega
      have h17:((x.toNat:Nat):Int) % 16=(y2:Nat):=by omega
      have h17t:((x.toNat:Nat):Int).tmod 16=(y2:Nat):=by rw [Int.tmod_eq_emod_of_nonneg (by omega)]; omega
      clear hx hy1 hy2;have hbe:Below wr.heap.size wr (wr.alloc (.cells #[.int .i64 (y1:Nat),.int .i64 (y2:Nat)] 3)).drew:=((Below.refl _ _).alloc (Nat.le_refl _) _).drew;have hbx:=Bx.new wr _ rfl #[.int .i64 (y1:Nat),.int .i64 (y2:Nat)] 3;have hBx:=hbx.drewN 1
      go_region
      have HBe:=lj (HB.out.trans (hbe.mono hgl));have HBx:Hid (Bx gw (wr.alloc (.cells #[.int .i64 (y1:Nat),.int .i64 (y2:Nat)] 3)).drew #[.int .i64 (y1:Nat),.int .i64 (y2:Nat)]):=lj (by rw [← HG.out]; exact hBx)
      have hy16:y1<16:=by omega
      have hy26:y2<16:=by omega
      clear hbe hbx hBx;generalize (wr.alloc (.cells #[.int .i64 (y1:Nat),.int .i64 (y2:Nat)] 3)).drew=w2 at *;have HSt:=lj (str_app (hexB (t.take j)))
      obtain ⟨T0,hT0⟩:∃ T0,hexB (t.take j)=T0:=⟨_,rfl⟩
      have hT0l:T0.length≤200000000:=by rw [← hT0,hexB_len,List.length_take]; omega
      rw [hT0] at HN;rw [hT0];clear hT0 hix h16 h16t h17 h17t hx256;go_wp2
      go_loopw [3,25] (fun s3 s25 wx=>∃ i:Nat,s3 = .string (str (T0 ++ [dg y1,dg y2].take i))∧s25 = .int .i64 (i:Nat)∧i≤2∧Below w.heap.size w wx∧Bx gw wx #[.int .i64 (y1:Nat),.int .i64 (y2:Nat)]) (fun _ s _=>2 - (intOf s).toNat)
      case atStart=>exact ⟨0,by simp,rfl,by omega,HBe.out,HBx.out⟩
      case round =>
        obtain ⟨i,rfl,rfl,hi2,hbx,hbb⟩:=hrel;have HB3:=lj hbx;have HX3:=lj hbb;have hgr:=hbx.size;clear hbx HBe HBx
        by_cases hi:i<2
        · obtain ⟨y,hy,hcy,hst⟩:∃ y,y<16∧#[Value.int .i64 (y1:Nat),.int .i64 (y2:Nat)][i]?=some (.int .i64 (y:Nat))∧[dg y1,dg y2].take (i+1)=[dg y1,dg y2].take i ++ [dg y]:=by
            rcases (by omega:i=0∨i=1) with rfl | rfl
            · exact ⟨y1,hy16,rfl,rfl⟩
            · exact ⟨y2,hy26,rfl,rfl⟩
          have hc:=hbb.cell i _ hcy;have HST:=lj hst;have HI:=lj hi
          obtain ⟨T1,hT1⟩:∃ T1,T0 ++ [dg y1,dg y2].take i=T1:=⟨_,rfl⟩
          have hT1l:T1.length≤200000002:=by rw [← hT1,List.length_append,List.length_take]; simp; omega
          have HT1:=lj hT1;rw [hT1];have hsT:=str_size T1;clear hT1 hcy hst hbb;have hap:str T1 ++ str [dg y]=str (T1 ++ [dg y]):=(str_app T1 [dg y]).symm;have hdl:=dgl y hy;have hs1:(str [dg y]).size=1:=str_size [dg y];have hbe:Below wr.heap.size wr (wr.alloc (.cells dgs16 9)):=(Below.refl _ _).alloc (Nat.le_refl _) _;go_wp2;have hb2:Below w.heap.size w (wr.alloc (.cells dgs16 9)):=HB3.out.trans (hbe.mono hgr);have hx2:Bx gw (wr.alloc (.cells dgs16 9)) #[Value.int .i64 (y1:Nat),.int .i64 (y2:Nat)]:=HX3.out.go hbe HX3.out.room;refine ⟨⟨i+1,by rw [HST.out,← List.append_assoc,HT1.out],rfl,HI.out,hb2,hx2⟩,?_⟩
          show 2 - ((i:Int)+1).toNat<2 - ((i:Nat):Int).toNat
          omega
        · obtain rfl:i=2:=by omega
          clear hbb;go_wp2;refine ⟨⟨j+1,by rw [HN.out]; rfl,rfl,hlt,HB3.out⟩,?_⟩
          show t.length - ((j:Int)+1).toNat<t.length - ((j:Nat):Int).toNat
          omega
    · obtain rfl:j=t.length:=by omega
      have dk:decide ((t.length:Int)<(t.length:Int))=false:=by simp
      rw [List.take_of_length_le (Nat.le_refl _)]
      by_cases h0:t=[]
      · subst h0
        have hst:str (hexB [])=⟨#[]⟩:=rfl;rw [hst];go_wp2;go_ret;exact ⟨rfl,HB.out⟩
      · have hne:(str (hexB t)).toList.isEmpty=false:=by
          rcases e:(str (hexB t)).toList.isEmpty with _ | _
          · rfl
          · exact absurd (by rw [ByteArray.toList_eq,str_toL] at e; have h2:=hexB_len t; have h3:(hexB t).length=0:=by rw [List.isEmpty_iff] at e; have:=congrArg List.length e; simpa using this
                             exact List.eq_nil_of_length_eq_zero (by omega)) h0
        have HX:=lj (congrArg (fun s=>Ending.returned (.string (str s))) (hexT_some h0).symm);clear h0;go_wp2;exact bodyPost_ret (v:=.string (str (hexB t))) (by simp [results,Tryz.results10,go_sem]) rfl ⟨HX.out,HB.out⟩
end
section
open Go.RowKit Go.Deep
open Tl
theorem wdl (x:Nat) (h:x<15):([.string ⟨#[104,101,108,108,111]⟩,.string ⟨#[107,101,121,115]⟩,.string ⟨#[112,105,110,103]⟩,.string ⟨#[98,121,101]⟩,.string ⟨#[119,101,108,99,111,109,101]⟩,.string ⟨#[100,97,116,97]⟩,.string ⟨#[103,97,112]⟩,.string ⟨#[114,101,106,101,99,116]⟩,.string ⟨#[102,108,111,111,114]⟩,.string ⟨#[110,111,116,105,99,101]⟩,.string ⟨#[100,101,110,105,101,100]⟩,.string ⟨#[101,118,105,99,116,101,100]⟩,.string ⟨#[99,108,111,115,101,100]⟩,.string ⟨#[112,111,110,103]⟩,.string ⟨#[101,120,105,116]⟩]:List Value)[x]'h = .string (str (wk (x+1))):=by
 rcases (by omega:x=0∨x=1∨x=2∨x=3∨x=4∨x=5∨x=6∨x=7∨x=8∨x=9∨x=10∨x=11∨x=12∨x=13∨x=14) with rfl | rfl | rfl | rfl | rfl | rfl | rfl | rfl | rfl | rfl | rfl | rfl | rfl | rfl | rfl <;> rfl
theorem numT_size (n:Int) (h : -9223372036854775808≤n∧n≤9223372036854775807):(str (numT n)).size≤21:=by
 rw [str_size];exact itoa_len n h.1 h.2
theorem sumS (A B:Bs) (n m:Nat) (ha:(str A).size≤n) (hb:(str B).size≤m):∃ L,str A ++ str B=str L∧(str L).size≤n+m∧A ++ B=L:=
 ⟨A ++ B,(str_app A B).symm,by rw [str_app,ByteArray.size_append]; omega,rfl⟩
theorem sumS1 (A:Bs) (n:Nat) (ha:(str A).size≤n):∃ L,str A ++ ⟨#[32]⟩=str L∧(str L).size≤n+1∧A ++ [32#8]=L:=
 sumS A [32#8] n 1 ha (Nat.le_of_eq (str_size [32#8]))
set_option maxHeartbeats 4000000 in
theorem lline_any (k a b:Int) (t:Bs) (ha : -9223372036854775808≤a∧a≤9223372036854775807) (hb : -9223372036854775808≤b∧b≤9223372036854775807) (hl:t.length≤100000000) (w:World) (ht:TW w) :
    Calls Tryz.prog 7 #[.agg #[.int .i64 k,.int .i64 a,.int .i64 b,.string (str t)]] w fun e w'=>e = .returned (.string (str (lineM k a b t)))∧Below w.heap.size w w':=by
  have hx:=Bx.new w _ rfl #[.int .i64 k,.int .i64 a,.int .i64 b,.string (str t)] 24;have hb1:Below w.heap.size w (w.alloc (.cells #[.int .i64 k,.int .i64 a,.int .i64 b,.string (str t)] 24)):=(Below.refl _ _).alloc (Nat.le_refl _) _;have HTI:=lj ht.ti;have HA:=lj ha;have HB:=lj hb;have HL:=lj hl;clear ht
  obtain ⟨g,hg⟩:∃ g,w.heap.size=g:=⟨_,rfl⟩
  have HG:=lj hg;rw [hg] at hx
  go_enter Tryz.func7,Tryz.ntmps7
  go_upto_region 2 with fail
  generalize hw0:w.alloc _=w0 at *;have c0:=hx.cell 0 _ rfl;have HX:=lj hx;have HB1:=lj hb1;have hgs:=hb1.size;clear hx hb1 ha hb hl hw0
  go_cut [11] from 4 to 11 (fun s11 wx=>s11 = .bool (decide (1≤k∧k≤15))∧Below w0.heap.size w0 wx∧wx.cell? ⟨g,0,none⟩=some (.int .i64 k))
  case first =>
    clear hgs;have hb0:Below w0.heap.size w0 w0:=Below.refl _ _;have c1:w0.cell? ⟨g,0,none⟩=some (.int .i64 k):=c0;clear c0
    by_cases h1:1≤k
    · by_cases h2:k≤15
      · have d1:decide (1≤k)=true:=decide_eq_true h1
        have d2:decide (k≤15)=true:=decide_eq_true h2;have d3:decide (1≤k∧k≤15)=true:=decide_eq_true ⟨h1,h2⟩;have HD:=lj (congrArg Value.bool d3.symm);clear d3;go_wp2
        go_meet
        exact ⟨HD.out,hb0,c1⟩
      · have d1:decide (1≤k)=true:=decide_eq_true h1
        have d2:decide (k≤15)=false:=decide_eq_false h2
        have d3:decide (1≤k∧k≤15)=false:=decide_eq_false fun h=>h2 h.2
        have HD:=lj (congrArg Value.bool d3.symm);clear d3;go_wp2
        go_meet
        exact ⟨HD.out,hb0,c1⟩
    · have d1:decide (1≤k)=false:=decide_eq_false h1
      have d3:decide (1≤k∧k≤15)=false:=decide_eq_false fun h=>h1 h.1
      have HD:=lj (congrArg Value.bool d3.symm);clear d3;go_wp2
      go_meet
      exact ⟨HD.out,hb0,c1⟩
  case rest =>
  obtain ⟨rfl,hcb,hcc⟩:=hcut
  go_upto_if 11 with fail
  go_cut [3] from 11 to 17 (fun s3 wx=>s3 = .string (str (wkT k))∧Below w0.heap.size w0 wx)
  case first =>
    clear c0 hgs
    by_cases h:1≤k∧k≤15
    · obtain ⟨J,hJ,hJ2⟩:∃ J:Nat,k=(J:Int)+1∧J<15:=⟨(k - 1).toNat,by omega,by omega⟩
      subst hJ;have e:wkT ((J:Int)+1)=wk (J+1):=if_pos h;have d3:decide (1≤(J:Int)+1∧(J:Int)+1≤15)=true:=decide_eq_true h;rw [d3];have HE:=lj (congrArg (fun t=>Value.string (str t)) e.symm);have hdl:=wdl J hJ2
      have hs:(J:Int)+1 - 1=(J:Nat):=by omega
      have hca:∀ o:Obj,(wc.alloc o).cell? ⟨g,0,none⟩=some (.int .i64 ((J:Int)+1)):=fun o=>(((Below.refl wc.heap.size wc).alloc (Nat.le_refl _) o).cell (p:=⟨g,0,none⟩) (cell_lt hcc)).trans hcc
      have hb2:=fun v=>(hcb.alloc hcb.size (.cells v 9))
      have HB2:=lj hb2;clear d3 e h hb2 hcb;go_wp2
      go_meet
      exact ⟨HE.out,HB2.out _⟩
    · have e:wkT k=[]:=if_neg h
      have d3:decide (1≤k∧k≤15)=false:=decide_eq_false h;rw [d3];have HE:=lj (congrArg (fun t=>Value.string (str t)) e.symm);have HB2:=lj hcb;clear d3 e h hcb;go_wp2
      go_meet
      exact ⟨HE.out,HB2.out⟩
  case rest =>
    obtain ⟨rfl,hcut⟩:=hcut
    obtain ⟨T,hT⟩:∃ T,wkT k=T:=⟨_,rfl⟩
    have hTl:(str T).size≤7:=by rw [← hT,str_size]; exact wkT_len k
    have hna:=numT_size a HA.out;have hnb:=numT_size b HB.out
    have hxl:(str (hexT t)).size≤200000001:=by rw [str_size]; have:=hexT_len t; have:=HL.out; omega
    obtain ⟨L1,q1,s1,t1⟩:=sumS1 T 7 hTl;obtain ⟨L2,q2,s2,t2⟩:=sumS L1 (numT a) 8 21 s1 hna;obtain ⟨L3,q3,s3,t3⟩:=sumS1 L2 29 s2;obtain ⟨L4,q4,s4,t4⟩:=sumS L3 (numT b) 30 21 s3 hnb;obtain ⟨L5,q5,s5,t5⟩:=sumS1 L4 51 s4;obtain ⟨L6,q6,s6,t6⟩:=sumS L5 (hexT t) 52 200000001 s5 hxl
    have HF:Hid (str L6=str (lineM k a b t)):=lj (by
      rw [← t6,← t5,← t4,← t3,← t2,← t1,← hT]
      simp [lineM,spc])
    rw [hT];have hxc:=HX.out.go hcut HX.out.room;have HTI:=lj ((HTI.out.below HB1.out).below hcut);have HFB:=lj (HB1.out.trans (hcut.mono hgs));have hgc:g<wc.heap.size:=Nat.lt_of_lt_of_le (Nat.lt_of_succ_le HX.out.room) hcut.size
    have HS:=lj (show ∀ W,Below wc.heap.size wc W→W.cell? ⟨g,1,none⟩=some (.int .i64 a)∧W.cell? ⟨g,2,none⟩=some (.int .i64 b)∧W.cell? ⟨g,3,none⟩=some (.string (str t)) from fun W hb =>
      ⟨(hb.cell (p:=⟨g,1,none⟩) hgc).trans (hxc.cell 1 _ rfl),(hb.cell (p:=⟨g,2,none⟩) hgc).trans (hxc.cell 2 _ rfl),(hb.cell (p:=⟨g,3,none⟩) hgc).trans (hxc.cell 3 _ rfl)⟩)
    clear hxc c0 hcb hcc hcut hgs hg hT t1 t2 t3 t4 t5 t6 HX
    go_upto_region 4 with fail
    have hmix:Tryz.prog.follows .mixedOrders=true:=by kernel_rfl
    have hS0:Below wc.heap.size wc wc.drew:=(Below.refl _ _).drew;refine wp_region_held (S:=fun W=>Below wc.heap.size wc W) hmix ?_
    change wpAnyH _ _ _ _ _ _ _ _ (World.drew _)
    refine wpAnyH_take (i:=0) (v:=.string (str T)) rfl (by kernel_rfl) (by kernel_rfl) (by kernel_rfl) (fun _ _ _ h=>h) (.inl ⟨by kernel_rfl,fun W hW=>?_⟩) hS0 ?_
    · go_simp; all_goals omega
    refine wpAnyH_take (i:=1) (v:=.string (str L1)) rfl (by kernel_rfl) (by kernel_rfl) (by kernel_rfl) (fun _ _ _ h=>h) (.inl ⟨by kernel_rfl,fun W hW=>?_⟩) hS0 ?_
    · go_simp; all_goals omega
    refine wpAnyH_take (i:=2) (v:=.pointer (some ⟨g,1,none⟩)) rfl (by kernel_rfl) (by kernel_rfl) (by kernel_rfl) (fun _ _ _ h=>h) (.inl ⟨by kernel_rfl,fun W hW=>?_⟩) hS0 ?_
    · go_simp; all_goals omega
    refine wpAnyH_take (i:=3) (v:=.int .i64 a) rfl (by kernel_rfl) (by kernel_rfl) (by kernel_rfl) (fun _ _ _ h=>h) (.inl ⟨by kernel_rfl,fun W hW=>?_⟩) hS0 ?_
    · have c:=(HS.out W hW).1; go_simp; all_goals omega
    refine wpAnyH_take (i:=7) (v:=.pointer (some ⟨g,2,none⟩)) rfl (by kernel_rfl) (by kernel_rfl) (by kernel_rfl) (fun _ _ _ h=>h) (.inl ⟨by kernel_rfl,fun W hW=>?_⟩) hS0 ?_
    · go_simp; all_goals omega
    refine wpAnyH_take (i:=8) (v:=.int .i64 b) rfl (by kernel_rfl) (by kernel_rfl) (by kernel_rfl) (fun _ _ _ h=>h) (.inl ⟨by kernel_rfl,fun W hW=>?_⟩) hS0 ?_
    · have c:=(HS.out W hW).2.1; go_simp; all_goals omega
    refine wpAnyH_take (i:=12) (v:=.pointer (some ⟨g,3,none⟩)) rfl (by kernel_rfl) (by kernel_rfl) (by kernel_rfl) (fun _ _ _ h=>h) (.inl ⟨by kernel_rfl,fun W hW=>?_⟩) hS0 ?_
    · go_simp; all_goals omega
    refine wpAnyH_take (i:=13) (v:=.string (str t)) rfl (by kernel_rfl) (by kernel_rfl) (by kernel_rfl) (fun _ _ _ h=>h) (.inl ⟨by kernel_rfl,fun W hW=>?_⟩) hS0 ?_
    · have c:=(HS.out W hW).2.2; go_simp; all_goals omega
    refine wpAnyH_all (rs:=[4]) (by kernel_rfl) (by simp) ?_;intro z hz;rw [List.mem_singleton.1 hz];clear hz;unfold wpOp
    go_simp
    refine .inl ((fmt_num a HA.out.1 HA.out.2 _ (HTI.out.below hS0)).mono ?_);rintro e w2 ⟨rfl,hb2⟩;have hS1:Below wc.heap.size wc w2:=hS0.trans (hb2.mono hS0.size);refine ⟨hS1,?_⟩;refine wpAnyH_take (i:=5) (v:=.string (str L2)) rfl (by kernel_rfl) (by kernel_rfl) (by kernel_rfl) (fun _ _ _ h=>h) (.inl ⟨by kernel_rfl,fun W hW=>?_⟩) hS1 ?_
    · go_simp; all_goals omega
    refine wpAnyH_take (i:=6) (v:=.string (str L3)) rfl (by kernel_rfl) (by kernel_rfl) (by kernel_rfl) (fun _ _ _ h=>h) (.inl ⟨by kernel_rfl,fun W hW=>?_⟩) hS1 ?_
    · go_simp; all_goals omega
    refine wpAnyH_all (rs:=[9]) (by kernel_rfl) (by simp) ?_;intro z hz;rw [List.mem_singleton.1 hz];clear hz;unfold wpOp
    go_simp
    refine .inl ((fmt_num b HB.out.1 HB.out.2 _ (HTI.out.below hS1)).mono ?_);rintro e w3 ⟨rfl,hb3⟩;have hS2:Below wc.heap.size wc w3:=hS1.trans (hb3.mono hS1.size);refine ⟨hS2,?_⟩;refine wpAnyH_take (i:=10) (v:=.string (str L4)) rfl (by kernel_rfl) (by kernel_rfl) (by kernel_rfl) (fun _ _ _ h=>h) (.inl ⟨by kernel_rfl,fun W hW=>?_⟩) hS2 ?_
    · go_simp; all_goals omega
    refine wpAnyH_take (i:=11) (v:=.string (str L5)) rfl (by kernel_rfl) (by kernel_rfl) (by kernel_rfl) (fun _ _ _ h=>h) (.inl ⟨by kernel_rfl,fun W hW=>?_⟩) hS2 ?_
    · go_simp; all_goals omega
    refine wpAnyH_all (rs:=[14]) (by kernel_rfl) (by simp) ?_;intro z hz;rw [List.mem_singleton.1 hz];clear hz;unfold wpOp
    go_simp
    refine .inl ((lhex_any t HL.out _).mono ?_);rintro e w4 ⟨rfl,hb4⟩;have hS3:Below wc.heap.size wc w4:=hS2.trans (hb4.mono hS2.size);refine ⟨hS3,?_⟩;refine wpAnyH_take (i:=15) (v:=.string (str L6)) rfl (by kernel_rfl) (by kernel_rfl) (by kernel_rfl) (fun _ _ _ h=>h) (.inl ⟨by kernel_rfl,fun W hW=>?_⟩) hS3 ?_
    · go_simp; all_goals omega
    refine wpAnyH_all (rs:=[16]) (by kernel_rfl) (by simp) ?_;intro z hz;rw [List.mem_singleton.1 hz];clear hz;unfold wpOp;have HZ:=lj hS3;clear hS3
    go_simp
    refine .inl ⟨HZ.out,?_⟩;refine wpAnyH_done (by kernel_rfl) ?_ _
    go_simp
    go_wp2;exact bodyPost_ret (v:=.string (str L6)) (by simp [results,Tryz.results7,go_sem]) rfl ⟨by rw [HF.out],HFB.out.trans (HZ.out.mono HFB.out.size)⟩
end
section
open Go.RowKit
open Tl
structure Tr (n0 gt:Nat) (w:World) (A:Option Addr) (n c:Nat) (X:List Bs) (mv:Value):Prop where
 bx:Bx gt w #[.slice A n c,mv]
 row:Rw n0 w A n c (strs (cutL X))
 off:¬ In A gt
 low:n0≤gt
section
variable {n0 gt n c:Nat} {w w':World} {A:Option Addr} {X:List Bs} {mv:Value}
theorem Tr.len (h:Tr n0 gt w A n c X mv):n=min X.length 501:=by
 have:=h.row.len;rw [strs_len,cutL_len] at this;exact this.symm
theorem Tr.keep {S:Nat→Prop} (h:Tr n0 gt w A n c X mv) (ho:Only S w w') (h1:¬ S gt) (h2:∀ b,In A b→¬ S b):Tr n0 gt w' A n c X mv:=⟨h.bx.keep ho h1,h.row.only ho h2,h.off,h.low⟩
theorem Tr.below (h:Tr n0 gt w A n c X mv) (hb:Below w.heap.size w w'):Tr n0 gt w' A n c X mv:=h.keep (only_of_below hb) (fun h=>h) (fun _ _ h=>h)
end
def TellG (n0 gt:Nat) (w:World) (A:Option Addr) (X:List Bs) (mv:Value) (x:Bs) (e:Ending) (w':World):Prop:=
 ∃ A2 n2 c2,e = .returned (.tuple #[])∧Tr n0 gt w' A2 n2 c2 (X ++ [x]) mv∧Only (fun b=>b=gt∨In A b) w w'∧∀ b,In A2 b→In A b∨w.heap.size≤b
theorem Tr.grown {n0 gt n c:Nat} {w w1 w2:World} {A A2:Option Addr} {X:List Bs} {mv:Value} {n2 c2:Nat} {Y:List Bs} {x:Bs} (h:Tr n0 gt w A n c X mv) (hb:Below w.heap.size w w1) (hr:Rw n0 w2 A2 n2 c2 (strs Y)) (hO:Only (In A) w1 w2) (hA:∀ b,In A2 b→In A b∨w1.heap.size≤b) (hY:Y=cutL (X ++ [x])) :
  TellG n0 gt w A X mv x (.returned (.tuple #[])) (w2.setCell ⟨gt,0,none⟩ (.slice A2 n2 c2)):=by
 subst hY;have hg:=h.bx.room;have hb2:=((h.below hb).bx.keep hO h.off).set 0 (.slice A2 n2 c2)
 have hn:¬ In A2 gt:=fun hi=>by
  rcases hA gt hi with h1 | h1
  ·exact h.off h1
  ·have:=hb.size; omega
 refine ⟨A2,n2,c2,rfl,⟨hb2,?_,hn,h.low⟩,?_,fun b hi=>?_⟩
 ·exact hr.only (S:=fun b=>b=gt) ((Only.refl (fun b=>b=gt) w2).setCell (p:=⟨gt,0,none⟩) rfl _) fun b hi e=>hn (e ▸ hi)
 ·exact (((only_of_below hb).mono fun _ _ h=>h.elim).trans (hO.mono fun _ _ h=>.inr h)).setCell (.inl rfl) _
 ·rcases hA b hi with h1 | h1
  ·exact .inl h1
  ·exact .inr (Nat.le_trans hb.size h1)
theorem wpOpv {P:Program} {ops:Array Oper} {Q:Exit→Act→World→Prop} {i:Nat} {o:Oper} {K:Act→World→Prop} {a:Act} {w w':World} {v:Value} (ho:ops[i]?=some o) (hg:o.guard=none)
  (hr:(execOp a.eval o).run P w = .ok (.value v) w') (h:K (a.put o.dst v) w'):wpOp P ops Q i K a w:=by
 unfold wpOp;simp only [ho];rw [if_pos (by simp [Region.wanted,hg])]
 left
 unfold Oper.wp;rw [hr];exact h
theorem tell_any {n0 gt n c:Nat} {w:World} {A:Option Addr} {X:List Bs} {mv:Value} (h:Tr n0 gt w A n c X mv) (ht:TW w) (ps:List Pt) (hps:∀ p∈ps,p.Says) (hl:ps.length≤100) (hne:0<ps.length) (a:Option Addr) (np cp:Nat) (hnp:ps.length=np) (hv:Vals w w.heap.size a np (pvs ps)) (hb:(spc (ps.map Pt.word)).length≤1000000000) :
    Calls Tryz.prog 23 #[.pointer (some ⟨gt,0,none⟩),.slice a np cp] w (TellG n0 gt w A X mv (spc (ps.map Pt.word))):=by
  have hn:=h.len;have hgt:=h.bx.room;have c0:=h.bx.cell 0 _ rfl;have f0:=h.bx.free 0;have HH:=lj h
  have hn2:n≤501:=by omega
  by_cases h5:n<500
  · have d5:decide ((n:Int)<500)=true:=by simp; omega
    have HY:=lj (show cutL X ++ [spc (ps.map Pt.word)]=cutL (X ++ [spc (ps.map Pt.word)]) from by rw [cutL_next,if_pos (by rw [cutL_len]; omega)]);have HLi:=lj (fun W (hb0:Below w.heap.size w W)=>tline_any ps hps hl hne a np cp hnp W (ht.below hb0) ((hv.below hb0).more hb0.size) hb)
    obtain ⟨x,hx⟩:∃ x,spc (ps.map Pt.word)=x:=⟨_,rfl⟩
    rw [hx] at HY HLi;rw [hx];clear h hn ht hps hl hne hnp hv hb hx;have HS:=lj (show ∀ W,Below w.heap.size w W→W.cell? ⟨gt,0,none⟩=some (.slice A n c)∧W.frozen? ⟨gt,0,none⟩=false from fun W hb=>⟨(hb.cell (p:=⟨gt,0,none⟩) hgt).trans c0,(hb.frozen (p:=⟨gt,0,none⟩) hgt).trans f0⟩)
    go_enter Tryz.func23,Tryz.ntmps23
    go_upto_region 2 with fail
    have hmix:Tryz.prog.follows .mixedOrders=true:=by kernel_rfl
    refine wp_region_held (S:=fun W=>W.frozen? ⟨gt,0,none⟩=false) hmix ?_
    change wpAnyH _ _ _ _ _ _ _ _ (World.drew _)
    have hB0:Below w.heap.size w w.drew:=(Below.refl _ _).drew;have hS0:w.drew.frozen? ⟨gt,0,none⟩=false:=(HS.out _ hB0).2;have e0:=(HS.out _ hB0).1;refine wpAnyH_take (i:=0) (v:=.pointer (some ⟨gt,0,none⟩)) rfl (by kernel_rfl) (by kernel_rfl) (by kernel_rfl) (fun _ _ _ h=>h) (.inl ⟨by kernel_rfl,fun W hW=>?_⟩) hS0 ?_
    · go_simp
    refine wpAnyH_take (i:=1) (v:=.pointer (some ⟨gt,0,none⟩)) rfl (by kernel_rfl) (by kernel_rfl) (by kernel_rfl) (fun _ _ _ h=>h) (.inl ⟨by kernel_rfl,fun W hW=>?_⟩) hS0 ?_
    · go_simp
    refine wpAnyH_take (i:=2) (v:=.pointer (some ⟨gt,0,none⟩)) rfl (by kernel_rfl) (by kernel_rfl) (by kernel_rfl) (fun _ _ _ h=>h) (.inl ⟨by kernel_rfl,fun W hW=>?_⟩) hS0 ?_
    · go_simp
    refine wpAnyH_take (i:=3) (v:=.pointer (some ⟨gt,0,none⟩)) rfl (by kernel_rfl) (by kernel_rfl) (by kernel_rfl) (fun _ _ _ h=>h) (.inl ⟨by kernel_rfl,fun W hW=>?_⟩) hS0 ?_
    · go_simp
    refine wpAnyH_take (i:=5) (v:=.slice a np cp) rfl (by kernel_rfl) (by kernel_rfl) (by kernel_rfl) (fun _ _ _ h=>h) (.inl ⟨by kernel_rfl,fun W hW=>?_⟩) hS0 ?_
    · go_simp
    refine wpAnyH_all (rs:=[4,6]) (by kernel_rfl) (by simp) ?_;intro z hz;simp only [List.mem_cons,List.not_mem_nil,or_false] at hz
    rcases hz with rfl | rfl
    · unfold wpOp
      go_simp
      refine .inl ?_;refine wpAnyH_all (rs:=[6]) (by kernel_rfl) (by simp) ?_;intro z hz;rw [List.mem_singleton.1 hz];clear hz;unfold wpOp
      go_simp
      refine .inl ?_;refine (HLi.out w.drew hB0).mono ?_;rintro e wb ⟨rfl,hbb⟩;have hSb:Below w.heap.size w wb:=hB0.trans (hbb.mono hB0.size);refine ⟨(HS.out _ hSb).2,?_⟩;refine wpAnyH_all (rs:=[7]) (by kernel_rfl) (by simp) ?_;intro z hz;rw [List.mem_singleton.1 hz];clear hz;unfold wpOp
      go_simp
      have hSc:Below w.heap.size w (wb.alloc (.cells #[.string (str x)] 9)):=hSb.alloc hSb.size _;have hRc:=HH.out.row.below hSc;have hVc:Vals (wb.alloc (.cells #[.string (str x)] 9)) (wb.heap.size+1) (some ⟨wb.heap.size,0,none⟩) 1 [sv x]:=lits wb x _ rfl;refine .inl ⟨(HS.out _ hSc).2,?_⟩;generalize wb.alloc (.cells #[.string (str x)] 9)=wc at *;obtain ⟨A5,c5,we,hrun,hr5,hO5,hA5⟩:=run_rw elem_str 31 n0 hRc (c2:=1) hVc (by omega) (by have:=hSc.size; have:=HH.out.low; omega);have hG:=HH.out.grown hSc (show Rw n0 we A5 (n+1) c5 (strs (cutL X ++ [x])) from by rw [strs_app]; exact hr5) hO5 hA5 HY.out;have HG:=lj hG;have hfe:we.frozen? ⟨gt,0,none⟩=false:=(hO5.frozen (p:=⟨gt,0,none⟩) (Nat.lt_of_lt_of_le hgt hSc.size) HH.out.off).trans (HS.out _ hSc).2;have hce:we.cell? ⟨gt,0,none⟩=some (.slice A n c):=(hO5.cell (p:=⟨gt,0,none⟩) (Nat.lt_of_lt_of_le hgt hSc.size) HH.out.off).trans (HS.out _ hSc).1;clear hr5 hO5 hA5 hG hRc hVc;refine wpAnyH_all (rs:=[8]) (by kernel_rfl) (by simp) ?_;intro z hz;rw [List.mem_singleton.1 hz];clear hz;refine wpOpv rfl rfl (exec_append (s:=.tmp 17) (x:=.tmp 20) (st:=31) rfl rfl rfl hrun) ⟨hfe,?_⟩;clear hrun;refine wpAnyH_take (i:=9) (v:=.pointer (some ⟨gt,0,none⟩)) rfl (by kernel_rfl) (by kernel_rfl) (by kernel_rfl) (fun _ _ _ h=>h) (.inl ⟨by kernel_rfl,fun W hW=>?_⟩) hfe ?_
      · go_simp
      refine wpAnyH_take (i:=10) (v:=.pointer (some ⟨gt,0,none⟩)) rfl (by kernel_rfl) (by kernel_rfl) (by kernel_rfl) (fun _ _ _ h=>h) (.inl ⟨by kernel_rfl,fun W hW=>?_⟩) hfe ?_
      · go_simp
      refine wpAnyH_all (rs:=[11]) (by kernel_rfl) (by simp) ?_;intro z hz;rw [List.mem_singleton.1 hz];clear hz;unfold wpOp
      go_simp
      refine .inl ?_;refine wpAnyH_done (by kernel_rfl) ?_ _
      go_simp
      go_wp2;exact bodyPost_ret (v:=.tuple #[]) (by simp [results,Tryz.results23,go_sem]) rfl HG.out
    · unfold wpOp
      go_simp
      refine .inl ?_;refine (HLi.out w.drew hB0).mono ?_;rintro e wb ⟨rfl,hbb⟩;have hSb:Below w.heap.size w wb:=hB0.trans (hbb.mono hB0.size);refine ⟨(HS.out _ hSb).2,?_⟩;have e1:=(HS.out _ hSb).1;refine wpAnyH_all (rs:=[4,7]) (by kernel_rfl) (by simp) ?_;intro z hz;simp only [List.mem_cons,List.not_mem_nil,or_false] at hz
      rcases hz with rfl | rfl
      · unfold wpOp
        go_simp
        refine .inl ⟨(HS.out _ hSb).2,?_⟩;refine wpAnyH_all (rs:=[7]) (by kernel_rfl) (by simp) ?_;intro z hz;rw [List.mem_singleton.1 hz];clear hz;unfold wpOp
        go_simp
        have hSc:Below w.heap.size w (wb.alloc (.cells #[.string (str x)] 9)):=hSb.alloc hSb.size _;have hRc:=HH.out.row.below hSc;have hVc:Vals (wb.alloc (.cells #[.string (str x)] 9)) (wb.heap.size+1) (some ⟨wb.heap.size,0,none⟩) 1 [sv x]:=lits wb x _ rfl;refine .inl ⟨(HS.out _ hSc).2,?_⟩;generalize wb.alloc (.cells #[.string (str x)] 9)=wc at *;obtain ⟨A5,c5,we,hrun,hr5,hO5,hA5⟩:=run_rw elem_str 31 n0 hRc (c2:=1) hVc (by omega) (by have:=hSc.size; have:=HH.out.low; omega);have hG:=HH.out.grown hSc (show Rw n0 we A5 (n+1) c5 (strs (cutL X ++ [x])) from by rw [strs_app]; exact hr5) hO5 hA5 HY.out;have HG:=lj hG;have hfe:we.frozen? ⟨gt,0,none⟩=false:=(hO5.frozen (p:=⟨gt,0,none⟩) (Nat.lt_of_lt_of_le hgt hSc.size) HH.out.off).trans (HS.out _ hSc).2;have hce:we.cell? ⟨gt,0,none⟩=some (.slice A n c):=(hO5.cell (p:=⟨gt,0,none⟩) (Nat.lt_of_lt_of_le hgt hSc.size) HH.out.off).trans (HS.out _ hSc).1;clear hr5 hO5 hA5 hG hRc hVc;refine wpAnyH_all (rs:=[8]) (by kernel_rfl) (by simp) ?_;intro z hz;rw [List.mem_singleton.1 hz];clear hz;refine wpOpv rfl rfl (exec_append (s:=.tmp 17) (x:=.tmp 20) (st:=31) rfl rfl rfl hrun) ⟨hfe,?_⟩;clear hrun;refine wpAnyH_take (i:=9) (v:=.pointer (some ⟨gt,0,none⟩)) rfl (by kernel_rfl) (by kernel_rfl) (by kernel_rfl) (fun _ _ _ h=>h) (.inl ⟨by kernel_rfl,fun W hW=>?_⟩) hfe ?_
        · go_simp
        refine wpAnyH_take (i:=10) (v:=.pointer (some ⟨gt,0,none⟩)) rfl (by kernel_rfl) (by kernel_rfl) (by kernel_rfl) (fun _ _ _ h=>h) (.inl ⟨by kernel_rfl,fun W hW=>?_⟩) hfe ?_
        · go_simp
        refine wpAnyH_all (rs:=[11]) (by kernel_rfl) (by simp) ?_;intro z hz;rw [List.mem_singleton.1 hz];clear hz;unfold wpOp
        go_simp
        refine .inl ?_;refine wpAnyH_done (by kernel_rfl) ?_ _
        go_simp
        go_wp2;exact bodyPost_ret (v:=.tuple #[]) (by simp [results,Tryz.results23,go_sem]) rfl HG.out
      · skip
        unfold wpOp
        go_simp
        have hSc:Below w.heap.size w (wb.alloc (.cells #[.string (str x)] 9)):=hSb.alloc hSb.size _;have hRc:=HH.out.row.below hSc;have hVc:Vals (wb.alloc (.cells #[.string (str x)] 9)) (wb.heap.size+1) (some ⟨wb.heap.size,0,none⟩) 1 [sv x]:=lits wb x _ rfl;refine .inl ⟨(HS.out _ hSc).2,?_⟩;generalize wb.alloc (.cells #[.string (str x)] 9)=wc at *;have e2:=(HS.out _ hSc).1;refine wpAnyH_all (rs:=[4]) (by kernel_rfl) (by simp) ?_;intro z hz;rw [List.mem_singleton.1 hz];clear hz;unfold wpOp
        go_simp
        refine .inl ⟨(HS.out _ hSc).2,?_⟩;obtain ⟨A5,c5,we,hrun,hr5,hO5,hA5⟩:=run_rw elem_str 31 n0 hRc (c2:=1) hVc (by omega) (by have:=hSc.size; have:=HH.out.low; omega);have hG:=HH.out.grown hSc (show Rw n0 we A5 (n+1) c5 (strs (cutL X ++ [x])) from by rw [strs_app]; exact hr5) hO5 hA5 HY.out;have HG:=lj hG;have hfe:we.frozen? ⟨gt,0,none⟩=false:=(hO5.frozen (p:=⟨gt,0,none⟩) (Nat.lt_of_lt_of_le hgt hSc.size) HH.out.off).trans (HS.out _ hSc).2;have hce:we.cell? ⟨gt,0,none⟩=some (.slice A n c):=(hO5.cell (p:=⟨gt,0,none⟩) (Nat.lt_of_lt_of_le hgt hSc.size) HH.out.off).trans (HS.out _ hSc).1;clear hr5 hO5 hA5 hG hRc hVc;refine wpAnyH_all (rs:=[8]) (by kernel_rfl) (by simp) ?_;intro z hz;rw [List.mem_singleton.1 hz];clear hz;refine wpOpv rfl rfl (exec_append (s:=.tmp 17) (x:=.tmp 20) (st:=31) rfl rfl rfl hrun) ⟨hfe,?_⟩;clear hrun;refine wpAnyH_take (i:=9) (v:=.pointer (some ⟨gt,0,none⟩)) rfl (by kernel_rfl) (by kernel_rfl) (by kernel_rfl) (fun _ _ _ h=>h) (.inl ⟨by kernel_rfl,fun W hW=>?_⟩) hfe ?_
        · go_simp
        refine wpAnyH_take (i:=10) (v:=.pointer (some ⟨gt,0,none⟩)) rfl (by kernel_rfl) (by kernel_rfl) (by kernel_rfl) (fun _ _ _ h=>h) (.inl ⟨by kernel_rfl,fun W hW=>?_⟩) hfe ?_
        · go_simp
        refine wpAnyH_all (rs:=[11]) (by kernel_rfl) (by simp) ?_;intro z hz;rw [List.mem_singleton.1 hz];clear hz;unfold wpOp
        go_simp
        refine .inl ?_;refine wpAnyH_done (by kernel_rfl) ?_ _
        go_simp
        go_wp2;exact bodyPost_ret (v:=.tuple #[]) (by simp [results,Tryz.results23,go_sem]) rfl HG.out
  have d5:decide ((n:Int)<500)=false:=by simp; omega
  by_cases h6:n=500
  · subst h6
    have HY:=lj (show cutL X ++ [manyT]=cutL (X ++ [spc (ps.map Pt.word)]) from by rw [cutL_next,if_neg (by rw [cutL_len]; omega),if_pos (by rw [cutL_len]; omega)])
    obtain ⟨x,hx⟩:∃ x,spc (ps.map Pt.word)=x:=⟨_,rfl⟩
    rw [hx] at HY;rw [hx];clear h hn ht hps hl hne hnp hv hb hx d5 h5;have hSc:Below w.heap.size w (w.alloc (.cells #[.string (str manyT)] 9)):=(Below.refl _ _).alloc (Nat.le_refl _) _;have hRc:=HH.out.row.below hSc;have hVc:Vals (w.alloc (.cells #[.string (str manyT)] 9)) (w.heap.size+1) (some ⟨w.heap.size,0,none⟩) 1 [sv manyT]:=lits w manyT _ rfl
    have hlow:n0≤(w.alloc (.cells #[.string (str manyT)] 9)).heap.size:=by have:=hSc.size; have:=HH.out.low; omega
    have HRc:=lj hRc;have HVc:=lj hVc;have HSc:=lj hSc;have hgt2:gt<(w.alloc (.cells #[.string (str manyT)] 9)).heap.size:=Nat.lt_of_lt_of_le hgt hSc.size;have HC:=lj (show (w.alloc (.cells #[.string (str manyT)] 9)).cell? ⟨gt,0,none⟩=some (.slice A 500 c)∧(w.alloc (.cells #[.string (str manyT)] 9)).frozen? ⟨gt,0,none⟩=false from ⟨(hSc.cell (p:=⟨gt,0,none⟩) hgt).trans c0,(hSc.frozen (p:=⟨gt,0,none⟩) hgt).trans f0⟩);clear hRc hVc hSc f0;have hmt:str manyT=⟨#[109,97,110,121]⟩:=rfl;rw [hmt] at *
    go_enter Tryz.func23,Tryz.ntmps23
    go_wp2_with (first
      | (at_builtin
         refine wpList_rw elem_str rfl (.tmp 31) (.tmp 32) rfl n0 rfl HRc.out rfl HVc.out (by omega) hlow ?_;intro A5 c5 we hr5 hO5 hA5;have hG:=HH.out.grown HSc.out (show Rw n0 we A5 (500+1) c5 (strs (cutL X ++ [manyT])) from by rw [strs_app]; exact hr5) hO5 hA5 HY.out;have HG:=lj hG;have hfe:we.frozen? ⟨gt,0,none⟩=false:=(hO5.frozen (p:=⟨gt,0,none⟩) hgt2 HH.out.off).trans HC.out.2;have hce:we.cell? ⟨gt,0,none⟩=some (.slice A 500 c):=(hO5.cell (p:=⟨gt,0,none⟩) hgt2 HH.out.off).trans HC.out.1
         clear hr5 hO5 hA5 hG)
      | fail)
    exact bodyPost_ret (v:=.tuple #[]) (by simp [results,Tryz.results23,go_sem]) rfl HG.out
  have d6:decide ((n:Int)=500)=false:=by simp; omega
  have d7:((n:Int) == 500)=false:=by simp; omega
  have HG:Hid (TellG n0 gt w A X mv (spc (ps.map Pt.word)) (.returned (.tuple #[])) w):=lj (by
    refine ⟨A,n,c,rfl,⟨h.bx,?_,h.off,h.low⟩,Only.refl _ _,fun b hb=>.inl hb⟩
    have e:cutL (X ++ [spc (ps.map Pt.word)])=cutL X:=by rw [cutL_next,if_neg (by rw [cutL_len]; omega),if_neg (by rw [cutL_len]; omega)]
    rw [e]
    exact h.row)
  clear h hn ht hps hl hne hnp hv hb h5 h6 HH f0
  go_enter Tryz.func23,Tryz.ntmps23
  go_wp2;exact bodyPost_ret (v:=.tuple #[]) (by simp [results,Tryz.results23,go_sem]) rfl HG.out
end
end Go.Proofs.YtecjpkjbgknnnaaGreatDoor
