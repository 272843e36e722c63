/- WholeDenied: for every input the law answers true, and its arguments read as before. Conditions: none. -/
import Derived.BigQuiet
import Derived.Test.YtalichkdeekdcaaGreatDoorZd32
import Derived.Test.YtalichkdeekdcaaGreatDoorZd46
import Derived.Test.YtalichkdeekdcaaGreatDoorZd47
import Derived.Test.YtalichkdeekdcaaGreatDoorZd48
namespace Go.Proofs.YtalichkdeekdcaaGreatDoor.wholeDenied
open Go.ChangeShapes Go.WideShapes Go.ChangeAt Go.RowKit
open Fr Bk
theorem wl_at {j:Nat} (hj:j<5):∃ v,wl[j]?=some v∧v.length≤7∧v∈wl:=by
 obtain ⟨v,hv⟩:∃ v,wl[j]?=some v:=⟨_,List.getElem?_eq_getElem (by exact hj)⟩
 refine ⟨v,hv,?_,List.mem_of_getElem? hv⟩
 have h:∀ x∈wl,x.length≤7:=by decide
 exact h v (List.mem_of_getElem? hv)
theorem wl_cells {g:Nat} {w:World} (h:Bx g w #[.string ⟨#[102,108,111,111,114]⟩,.string ⟨#[100,114,111,112]⟩,.string ⟨#[108,105,115,116]⟩,.string ⟨#[100,101,116,97,99,104]⟩,.string ⟨#[114,101,112,108,97,121]⟩]) {j:Nat} {v:Bs} (hv:wl[j]?=some v):w.cell? ⟨g,j,none⟩=some (.string (str v)):=by
 rcases j with _ | _ | _ | _ | _ | j
 ·injection hv with hv; subst hv; exact h.cell 0 _ rfl
 ·injection hv with hv; subst hv; exact h.cell 1 _ rfl
 ·injection hv with hv; subst hv; exact h.cell 2 _ rfl
 ·injection hv with hv; subst hv; exact h.cell 3 _ rfl
 ·injection hv with hv; subst hv; exact h.cell 4 _ rfl
 ·cases hv
theorem str_same {l m:Bs}:((str l).toList == (str m).toList)=decide (l=m):=by
 by_cases h:l=m
 ·subst h; simp
 ·rw [str_ne h]; simp [h]
theorem denied_ok {s:Bs} (h:s.length≤60):(deniedM s).ok=true:=by
 unfold M.ok deniedM
 rw [Ms.rt_iff]
 exact ⟨rfl,rfl,rfl,by show s.length≤80; omega⟩
set_option maxRecDepth 100000 in
set_option maxHeartbeats 8000000 in
theorem walk (t0:Bs) (w:World) (w0:t0.length≤maxLen) (ht:TI w) :
    Calls Tryz.prog 9 #[.string (str t0)] w fun e w'=>e = .returned (.bool true)∧Below w.heap.size w w':=by
  have HTI:=Lib.hid ht
  have hsz:=str_size t0
  have h0m:t0.length≤9223372036854775807:=by have:=w0; unfold maxLen at this; omega
  clear ht w0
  go_enter Tryz.func9,Tryz.ntmps9
  go_wp2_with fail
  refine (alive_any w HTI.out).mono ?_
  rintro r w1 ⟨rfl,hb1⟩
  have HB1:=Lib.hid hb1
  clear hb1
  by_cases h60:60<t0.length
  · have d6:decide ((t0.length:Int) > 60)=true:=decide_eq_true (by omega)
    have d7:decide (60<(t0.length:Int))=true:=decide_eq_true (by omega)
    have d8:decide (60<t0.length)=true:=decide_eq_true (by omega)
    go_wp2
    go_ret
    exact ⟨rfl,HB1.out⟩
  have d6:decide ((t0.length:Int) > 60)=false:=decide_eq_false (by omega)
  have d7:decide (60<(t0.length:Int))=false:=decide_eq_false (by omega)
  have d8:decide (60<t0.length)=false:=decide_eq_false (by omega)
  have hl60:t0.length≤60:=by omega
  have hx5:=Bx.new w1 _ rfl #[.string ⟨#[102,108,111,111,114]⟩,.string ⟨#[100,114,111,112]⟩,.string ⟨#[108,105,115,116]⟩,.string ⟨#[100,101,116,97,99,104]⟩,.string ⟨#[114,101,112,108,97,121]⟩] 9
  have hb5:Below w1.heap.size w1 (w1.alloc (.cells #[.string ⟨#[102,108,111,111,114]⟩,.string ⟨#[100,114,111,112]⟩,.string ⟨#[108,105,115,116]⟩,.string ⟨#[100,101,116,97,99,104]⟩,.string ⟨#[114,101,112,108,97,121]⟩] 9)):=(Below.refl _ _).alloc (Nat.le_refl _) _
  obtain ⟨g5,hg5⟩:∃ g5,w1.heap.size=g5:=⟨_,rfl⟩
  rw [hg5] at hx5
  have HX5:=Lib.hid hx5
  have HB5:=Lib.hid (HB1.out.trans (hb5.mono HB1.out.size))
  clear hx5 hb5 h60
  go_upto_region 6 with fail
  clear hg5
  generalize w1.alloc (.cells #[.string ⟨#[102,108,111,111,114]⟩,.string ⟨#[100,114,111,112]⟩,.string ⟨#[108,105,115,116]⟩,.string ⟨#[100,101,116,97,99,104]⟩,.string ⟨#[114,101,112,108,97,121]⟩] 9)=w5 at *
  go_loopw [20] (fun s wr=>∃ j:Nat,s = .int .i64 (j:Nat)∧j≤5∧Hid (∀ i v,i<j→wl[i]?=some v→t0.take v.length≠v)∧Bx g5 wr #[.string ⟨#[102,108,111,111,114]⟩,.string ⟨#[100,114,111,112]⟩,.string ⟨#[108,105,115,116]⟩,.string ⟨#[100,101,116,97,99,104]⟩,.string ⟨#[114,101,112,108,97,121]⟩]∧Below w.heap.size w wr) (fun s _=>5 - (intOf s).toNat)
  case atStart=>exact ⟨0,rfl,Nat.zero_le _,Lib.hid (fun i v h=>absurd h (Nat.not_lt_zero i)),HX5.out,HB5.out⟩
  case round =>
    obtain ⟨j,rfl,hj,HW,hx,hb⟩:=hrel
    have HX:=Lib.hid hx
    have HB:=Lib.hid hb
    clear hx hb HX5 HB5
    by_cases hj5:j<5
    · have dj:decide ((j:Int)<5)=true:=decide_eq_true (by omega)
      obtain ⟨v,hv,hvl,hvm⟩:=wl_at hj5
      have hc:=wl_cells HX.out hv
      have hvs:=str_size v
      have HVV:=Lib.hid hv
      clear hv hvm
      by_cases hle:v.length≤t0.length
      · have dg:decide ((t0.length:Int) ≥ (v.length:Int))=true:=decide_eq_true (by omega)
        have dg2:decide ((v.length:Int)≤(t0.length:Int))=true:=decide_eq_true (by omega)
        have dg3:decide (v.length≤t0.length)=true:=decide_eq_true hle
        have hcut:(str t0).extract 0 v.length=str (t0.take v.length):=by rw [s_cut,List.drop_zero]
        by_cases heq:t0.take v.length=v
        · have dq:((str (t0.take v.length)).toList == (str v).toList)=true:=by rw [str_same]; simpa using heq
          go_wp2
          go_ret
          exact ⟨rfl,HB.out⟩
        · have dq:((str (t0.take v.length)).toList == (str v).toList)=false:=by rw [str_same]; simpa using heq
          have HQ:=Lib.hid heq
          clear heq
          go_wp2
          go_roundw
          case rel=>exact ⟨j+1,by go_num,by omega,Lib.hid (fun i u hi hu=>by
            by_cases e:i=j
            · subst e
              rw [HVV.out] at hu
              injection hu with hu
              subst hu
              exact HQ.out
            · exact HW.out i u (by omega) hu),HX.out,HB.out⟩
          case measure=>simp [intOf]; omega
      · have dg:decide ((t0.length:Int) ≥ (v.length:Int))=false:=decide_eq_false (by omega)
        have dg2:decide ((v.length:Int)≤(t0.length:Int))=false:=decide_eq_false (by omega)
        have dg3:decide (v.length≤t0.length)=false:=decide_eq_false hle
        have HQ:=Lib.hid (show t0.take v.length≠v from fun e=>by
          have:=congrArg List.length e
          rw [List.length_take] at this
          omega)
        go_wp2
        go_roundw
        case rel=>exact ⟨j+1,by go_num,by omega,Lib.hid (fun i u hi hu=>by
          by_cases e:i=j
          · subst e
            rw [HVV.out] at hu
            injection hu with hu
            subst hu
            exact HQ.out
          · exact HW.out i u (by omega) hu),HX.out,HB.out⟩
        case measure=>simp [intOf]; omega
    obtain rfl:j=5:=by omega
    have dj:decide (((5:Nat):Int)<5)=false:=rfl
    have HWL:=Lib.hid (show ∀ v∈wl,t0.take v.length≠v from fun v hv=>by
      obtain ⟨i,hi,e⟩:=List.getElem_of_mem hv
      exact HW.out i v (by exact hi) (by rw [List.getElem?_eq_getElem hi,e]))
    clear HW HX
    obtain ⟨cb,wb,hcb,hyb,hbb,hlb,hsb⟩:=conv_tob wr t0
    have HYb:=Lib.hid hyb
    have HBb:=Lib.hid (HB.out.trans (hbb.mono HB.out.size))
    obtain ⟨gb,hgb⟩:∃ gb,wr.heap.size=gb:=⟨_,rfl⟩
    rw [hgb] at HYb
    clear hyb hbb hlb hsb
    go_upto_region 12 with fail
    clear hcb hgb HB
    go_loopw [41] (fun s wq=>∃ i:Nat,s = .int .i64 (i:Nat)∧i≤t0.length∧Hid (∀ c∈t0.take i,c≠10#8)∧Bytes wq (gb+1) (some ⟨gb,0,none⟩) t0.length t0∧Below w.heap.size w wq) (fun s _=>t0.length - (intOf s).toNat)
    case atStart=>exact ⟨0,rfl,Nat.zero_le _,Lib.hid (fun c hc=>by cases hc),HYb.out,HBb.out⟩
    case round =>
      obtain ⟨i,rfl,hi,HN,hy,hb⟩:=hrel
      have HY:=Lib.hid hy
      have HB:=Lib.hid hb
      clear hy hb HYb HBb
      by_cases hil:i<t0.length
      · have di:decide ((i:Int)<(t0.length:Int))=true:=decide_eq_true (by omega)
        obtain ⟨c,hc⟩:∃ c,t0[i]?=some c:=⟨_,List.getElem?_eq_getElem hil⟩
        obtain ⟨b9,o9,e9,_,hcl⟩:=HY.out.2 (by omega)
        injection e9 with e9
        injection e9 with e91 e92 e93
        subst e91 e92
        have hci:wr.cell? ⟨gb,i,none⟩=some (.int .u8 c.toNat):=by
          have h9:=hcl i hil
          rw [hc,Nat.zero_add] at h9
          exact h9
        have HCC:=Lib.hid hc
        clear hcl hc e93
        by_cases h10:c=10#8
        · subst h10
          go_wp2
          go_ret
          exact ⟨rfl,HB.out⟩
        · have hcn:c.toNat≠10:=fun e=>h10 (BitVec.eq_of_toNat_eq e)
          have d10:(((c.toNat:Nat):Int) == 10)=false:=by simp; omega
          have HQ:=Lib.hid h10
          clear h10
          go_wp2
          go_roundw
          case rel=>exact ⟨i+1,by go_num,by omega,Lib.hid (fun y hy=>by
            rw [List.take_add_one,HCC.out] at hy
            rcases List.mem_append.1 hy with hy | hy
            · exact HN.out y hy
            · rw [show y=c from by simpa using hy]; exact HQ.out),HY.out,HB.out⟩
          case measure=>simp [intOf]; omega
      obtain rfl:i=t0.length:=by omega
      have di:decide (((t0.length:Nat):Int)<((t0.length:Nat):Int))=false:=decide_eq_false (by omega)
      have h10:=HN.out
      rw [List.take_length] at h10
      have H10:=Lib.hid h10
      clear h10 HN HY
      have HC1:=Lib.hid (comes_any 1 true 0 (by decide) (by decide) wr)
      go_wp2_with fail
      refine HC1.out.mono ?_
      rintro r w2 ⟨A1,c1,rfl,hr1,hb1⟩
      have HB2:=Lib.hid (HB.out.trans (hb1.mono HB.out.size))
      have HR1:=Lib.hid (hr1.mono HB.out.size)
      have HC2:=Lib.hid (comes_any 2 true 0 (by decide) (by decide) w2)
      clear hr1 hb1 HC1 HB
      go_wp2_with fail
      refine HC2.out.mono ?_
      rintro r w3 ⟨A2,c2,rfl,hr2,hb2⟩
      have HB3:=Lib.hid (HB2.out.trans (hb2.mono HB2.out.size))
      have HR2:=Lib.hid hr2.evin
      have HR1b:=Lib.hid (HR1.out.below hb2)
      have hz3:=HB3.out.size
      clear hr2 hb2 HC2 HR1 HB2
      go_wp2_with (first
        | (at_builtin
           refine wpList_eapp rfl (.tmp 48) (.tmp 49) rfl rfl HR1b.out rfl HR2.out rfl (by decide) hz3 ?_
           intro A3 c3 w4 hr3 hb3
           have HR4:=Lib.hid (show EvRow w.heap.size w4 A3 4 c3 (comesL 1 true 0 ++ comesL 2 true 0) from hr3)
           have HB4:=Lib.hid (HB3.out.trans hb3)
           clear hr3 hb3 HR2 HR1b HB3 hz3
           go_wp2_with fail))
      have hva:∀ id,evv (allE id) = .agg #[.int .i64 2,.int .i64 id,.int .i64 65536,.string ⟨#[]⟩]:=fun _=>rfl
      have HK:=Lib.hid (all_any 1 w4)
      refine HK.out.mono ?_
      rintro r w5 ⟨rfl,hbk⟩
      have HB5:=Lib.hid (HB4.out.trans (hbk.mono HB4.out.size))
      have HR5:=Lib.hid (HR4.out.below hbk)
      clear hbk HK HB4 HR4
      rw [hva]
      go_wp2_with fail
      have HK:=Lib.hid (all_any 2 w5)
      refine HK.out.mono ?_
      rintro r w6 ⟨rfl,hbk⟩
      have HB6:=Lib.hid (HB5.out.trans (hbk.mono HB5.out.size))
      have HR6:=Lib.hid (HR5.out.below hbk)
      clear hbk HK HB5 HR5
      rw [hva]
      go_wp2_with fail
      have HK:=Lib.hid (command_any 2 t0 (by omega) w6)
      refine HK.out.mono ?_
      rintro r w7 ⟨rfl,hbk⟩
      have HB7:=Lib.hid (HB6.out.trans (hbk.mono HB6.out.size))
      have HR7:=Lib.hid (HR6.out.below hbk)
      clear hbk HK HB6 HR6
      obtain ⟨x1,hx1⟩:∃ x1,enc (keys 1 (esc t0))=x1:=⟨_,rfl⟩
      have hvc:evv (cmdE 2 t0) = .agg #[.int .i64 1,.int .i64 2,.int .i64 0,.string (str x1)]:=by rw [← hx1]; rfl
      rw [hvc]
      have HX1:=Lib.hid hx1
      clear hvc hx1
      go_wp2_with fail
      have HK:=Lib.hid (all_any 1 w7)
      refine HK.out.mono ?_
      rintro r w8 ⟨rfl,hbk⟩
      have HB8:=Lib.hid (HB7.out.trans (hbk.mono HB7.out.size))
      have HR8:=Lib.hid (HR7.out.below hbk)
      clear hbk HK HB7 HR7
      rw [hva]
      go_wp2_with fail
      have HK:=Lib.hid (all_any 2 w8)
      refine HK.out.mono ?_
      rintro r w9 ⟨rfl,hbk⟩
      have HB9:=Lib.hid (HB8.out.trans (hbk.mono HB8.out.size))
      have HR9:=Lib.hid (HR8.out.below hbk)
      clear hbk HK HB8 HR8
      rw [hva]
      have hb10:Below w9.heap.size w9 (w9.alloc (.cells #[.int .i64 2,.int .i64 1,.int .i64 65536,.string ⟨#[]⟩,.int .i64 2,.int .i64 2,.int .i64 65536,.string ⟨#[]⟩,.int .i64 1,.int .i64 2,.int .i64 0,.string (str x1),.int .i64 2,.int .i64 1,.int .i64 65536,.string ⟨#[]⟩,.int .i64 2,.int .i64 2,.int .i64 65536,.string ⟨#[]⟩] 30)):=(Below.refl _ _).alloc (Nat.le_refl _) _
      have HR10:=Lib.hid (HR9.out.below hb10)
      have HN10:=Lib.hid (show EvIn (w9.alloc (.cells #[.int .i64 2,.int .i64 1,.int .i64 65536,.string ⟨#[]⟩,.int .i64 2,.int .i64 2,.int .i64 65536,.string ⟨#[]⟩,.int .i64 1,.int .i64 2,.int .i64 0,.string (str x1),.int .i64 2,.int .i64 1,.int .i64 65536,.string ⟨#[]⟩,.int .i64 2,.int .i64 2,.int .i64 65536,.string ⟨#[]⟩] 30)) _ (some ⟨w9.heap.size,0,none⟩) (deny5 t0) from (evrow_new (base:=0) w9 (Nat.zero_le _) (deny5 t0) #[.int .i64 2,.int .i64 1,.int .i64 65536,.string ⟨#[]⟩,.int .i64 2,.int .i64 2,.int .i64 65536,.string ⟨#[]⟩,.int .i64 1,.int .i64 2,.int .i64 0,.string (str x1),.int .i64 2,.int .i64 1,.int .i64 65536,.string ⟨#[]⟩,.int .i64 2,.int .i64 2,.int .i64 65536,.string ⟨#[]⟩] (by rw [← HX1.out]; rfl) (show 5≤1000000 by decide) (fun e he=>by
        have h9:=deny_right hl60 e (List.mem_append_right _ he)
        have:=(Sc.rtE_in h9).2.2.2.2.2.2
        unfold maxLen
        omega)).evin)
      have HB10:=Lib.hid (HB9.out.trans (hb10.mono HB9.out.size))
      have hz10:w.heap.size≤(w9.alloc (.cells #[.int .i64 2,.int .i64 1,.int .i64 65536,.string ⟨#[]⟩,.int .i64 2,.int .i64 2,.int .i64 65536,.string ⟨#[]⟩,.int .i64 1,.int .i64 2,.int .i64 0,.string (str x1),.int .i64 2,.int .i64 1,.int .i64 65536,.string ⟨#[]⟩,.int .i64 2,.int .i64 2,.int .i64 65536,.string ⟨#[]⟩] 30)).heap.size:=HB10.out.size
      clear hva hb10 HB9 HR9
      go_wp2_with (first
        | (at_builtin
           refine wpList_eapp rfl (.tmp 50) (.tmp 57) rfl rfl HR10.out rfl HN10.out rfl (by decide) hz10 ?_
           intro A9 c9 w11 hr9 hb9
           have HR11:=Lib.hid (show EvRow w.heap.size w11 A9 9 c9 (denyL t0) from hr9)
           have HB11:=Lib.hid (HB10.out.trans hb9)
           clear hr9 hb9 HR10 HN10 HB10 hz10
           go_wp2_with fail))
      refine (default_any w11).mono ?_
      rintro r w12 ⟨rfl,hb12⟩
      have HB12:=Lib.hid (HB11.out.trans (hb12.mono HB11.out.size))
      have h9l:(denyL t0).length=9:=rfl
      have hrr:=deny_right hl60
      have hel:(Sc.evs (denyL t0)).length≤262000:=by have:=evs_le hrr; omega
      have hts:tsum (denyL t0)≤1000000:=by have:=tsum_le (denyL t0); omega
      have HPl:=Lib.hid (show Calls Tryz.prog 16 #[.agg #[.int .i64 4096,.int .i64 512,.int .i64 2048,.int .i64 256,.int .i64 3,.int .i64 100,.int .i64 0,.int .i64 80],.slice A9 9 c9] w12 (PLGives cfd (denyL t0) w12) from played_any cfd_rt8 cfd_ok (denyL t0) hrr (by omega) hts hel A9 9 c9 w12 (HTI.out.below HB12.out) (HR11.out.below hb12).evin h9l)
      have HEV:=Lib.hid (ev_from cfd_ok (denyL t0) hts)
      clear hb12 HB11 HR11 hrr hel
      unfold cv
      go_wp2_with fail
      refine HPl.out.mono ?_
      rintro r w13 ⟨g,n0,a,c,rfl,hn0,hls,hrow,_,hb13⟩
      have HN0:=Lib.hid (Nat.le_trans HB12.out.size hn0)
      rw [h9l] at hrow ⊢
      obtain ⟨hr1,hr7,hr8⟩:=deny_run H10.out hl60 HWL.out
      rw [hr1] at hls HEV
      obtain ⟨bb,off,rfl,hlt,hc⟩:=hrow.otin (by rw [pouts_len,h9l]; decide)
      have k7:=(hc 7 _ hr7).2
      have k8:=(hc 8 _ hr8).2
      obtain ⟨xo,hxo⟩:∃ xo,enc (deniedM t0)=xo:=⟨_,rfl⟩
      rw [hxo] at k8
      have HXo:=Lib.hid hxo
      have HB13:=Lib.hid (HB12.out.trans (hb13.mono HB12.out.size))
      have HK7:=Lib.hid (show w13.cell? ⟨bb,off+7 * 2+1,none⟩=some (.string ⟨#[]⟩) from k7)
      have HLT:=Lib.hid hlt
      have HLs:=Lib.hid (show LBx n0 g w13 (dv7 t0) from hls.lbx)
      have HFl:=Lib.hid (dv_is H10.out hl60 HWL.out).2.2.2.2.2.2.2
      clear hls hrow hb13 hc hxo k7 hlt hr1 hr7 hr8 HPl HB12 h9l hts
      go_upto_region 21 with fail
      obtain ⟨cy,wy,hcy,hyy,hby,hly,hsy⟩:=conv_tob w13 xo
      have HBy:=Lib.hid (HB13.out.trans (hby.mono HB13.out.size))
      have hxl:xo.length≤100:=by rw [← HXo.out,enc_len5]; show 6 * 0+t0.length+5≤100; omega
      have hMo:∀ m∈[deniedM t0],m.ok=true:=fun m hm=>by rw [List.mem_singleton.1 hm]; exact denied_ok hl60
      have HM:=Lib.hid (lmessages_any [deniedM t0] hMo wy (show Bytes wy (w13.heap.size+1) (some ⟨w13.heap.size,0,none⟩) xo.length (encs [deniedM t0]) from by rw [encs_one,HXo.out]; exact hyy) hsy hly (by omega))
      have HK7b:=Lib.hid ((hby.cell (p:=⟨bb,off+7 * 2+1,none⟩) HLT.out).trans HK7.out)
      have HLTb:=Lib.hid (Nat.lt_of_lt_of_le HLT.out hby.size)
      have HLy:=Lib.hid (HLs.out.below hby)
      clear hyy hby hly hsy hMo HB13 HK7 HLT HLs
      go_wp2_with fail
      refine HM.out.mono ?_
      rintro r w14 ⟨R,rc,rfl,hrow,hb14⟩
      rw [show ([deniedM t0]).length=1 from rfl] at hrow ⊢
      have HB14:=Lib.hid (HBy.out.trans (hb14.mono HBy.out.size))
      have k7:=(hb14.cell (p:=⟨bb,off+7 * 2+1,none⟩) HLTb.out).trans HK7b.out
      have HL14:=Lib.hid (HLy.out.below hb14)
      obtain ⟨mb,mo,rfl,_,hmc⟩:=hrow.msin.outer (show 0<1 by decide)
      obtain ⟨a0,a1,a2,a3⟩:=hmc 0 (deniedM t0) rfl
      replace a0:w14.cell? ⟨mb,mo+0 * 4,none⟩=some (.int .i64 11):=a0
      replace a1:w14.cell? ⟨mb,mo+0 * 4+1,none⟩=some (.int .i64 0):=a1
      replace a2:w14.cell? ⟨mb,mo+0 * 4+2,none⟩=some (.int .i64 0):=a2
      replace a3:w14.cell? ⟨mb,mo+0 * 4+3,none⟩=some (.string (str t0)):=a3
      rw [Nat.zero_mul,Nat.add_zero] at a0 a1 a2 a3
      have hh0:fhold (dv7 t0).fl=0:=by rw [HFl.out]; rfl
      have dss:((str t0).toList == (str t0).toList)=true:=by simp
      clear hrow hb14 hmc HM HK7b HLTb HBy HLy
      go_wp2_with fail
      refine (lb_holder HL14.out HEV.out.ok).mono ?_
      rintro r w15 ⟨rfl,hl15,hb15⟩
      rw [hh0]
      have HL15:=Lib.hid hl15
      have HB15:=Lib.hid (HB14.out.trans (hb15.mono HB14.out.size))
      clear hl15 hb15 HL14 HB14
      go_wp2_with fail
      refine (lb_users HL15.out HEV.out.ok).mono ?_
      rintro r w16 ⟨au,nu,cu,rfl,_,hb16,hnu,_,_⟩
      have hnu2:nu=2:=by rw [hnu,HFl.out]; rfl
      subst hnu2
      have HB16:=Lib.hid (HB15.out.trans (hb16.mono HN0.out))
      clear hnu hb16
      go_wp2
      go_ret
      exact ⟨rfl,HB16.out⟩
theorem w_in:Tryz.checked.prog.inits.idxOf? 9=none:=by kernel_rfl
theorem w_ok (os:Os):Input.okWideB Tryz.prog ((World.doorLaid Tryz.prog 400 os).forCall (fun _ _=>0) ⟨#[],#[.string ⟨#[]⟩],[]⟩) 9 ⟨#[],#[.string ⟨#[]⟩],[]⟩=true:=by kernel_rfl
theorem w_pre (os:Os) (H:Type) (enc:TypeId×Value→H):Rows.wholeDeniedSpec.preB enc Tryz.prog Tryz.f9 [] false ((World.doorLaid Tryz.prog 400 os).forCall (fun _ _=>0) ⟨#[],#[.string ⟨#[]⟩],[]⟩).memory #[.string ⟨#[]⟩] 8=true:=by kernel_rfl
theorem w_sz (os:Os) (H:Type) (enc:TypeId×Value→H):Rows.wholeDeniedSpec.sizedB enc Tryz.prog Tryz.f9 false ((World.doorLaid Tryz.prog 400 os).forCall (fun _ _=>0) ⟨#[],#[.string ⟨#[]⟩],[]⟩).memory #[.string ⟨#[]⟩] 8=true:=by kernel_rfl
set_option maxRecDepth 100000 in
theorem lifted (os:Os) (started:os.Started) (H:Type) (enc:TypeId×Value→H) :
  ReturnsInHanded {} Tryz.checked os 9 .any (fun w args=>(Rows.wholeDeniedSpec.pre enc Tryz.prog Tryz.f9 [] false w args∧laidMetH Tryz.prog laidL w)∧sizedMet enc Tryz.prog Tryz.f9 (OpenSpec.ofChange Rows.wholeDeniedSpec) false w args)
   (Rows.wholeDeniedSpec.post enc Tryz.prog Tryz.f9 false true false false):=by
 refine returnsInHanded_of_change_and (C:=Tryz.checked) (X:=fun w _=>laidMetH Tryz.prog laidL w) (fun _ _ _ hh h=>h.of_heap hh) own started w_in Tryz.func9
  (ChangeSpec.witness_shaped (enc:=enc) (C:=Tryz.checked) (os:=os) (X:=fun w _=>laidMetH Tryz.prog laidL w) false (World.doorLaid Tryz.prog 400 os) #[.string ⟨#[]⟩] 8 rfl (door_shaped os _) (w_ok os) (w_pre os H enc) (w_sz os H enc) (door_met os _)) ?_
 intro W base args ds gs before hval0 hW hcnd hsz0 hL _
 have hti:=ti_of hL
 have hval:∀ (j:Nat) t v,Tryz.f9.params[j]?=some t→args[j]?=some v→Value.okWide Tryz.prog W .any base t v:=hval0
 have hW':=hW
 obtain ⟨p,q,hA0,hV,rfl,hfz,hnd⟩:=hW
 have hsz:(DataW.weightsEach Tryz.prog (Tryz.f9.params.toList ++ Rows.wholeDeniedSpec.plain.varTypes Tryz.prog) (ds ++ gs)).all (·≤reachBytes)=true:=hsz0
 have hA:DataW.TrodAll enc Tryz.prog W 0 (fun _=>true) true Tryz.f9.params.toList args.toList ds p:=hA0
 rw [Tryz.params9] at hA hval hsz
 obtain ⟨v0,vs0,d0,ds0,p0,q0,hargs,rfl,rfl,h0,r0⟩:=trodAll_cons hA
 obtain ⟨rfl,rfl,rfl⟩:=trodAll_nil r0
 obtain rfl:args = #[v0]:=by cases args; simp_all
 obtain ⟨rfl,rfl⟩:=trodVars_none hV
 have k0:=h0
 have lt0:∀ x∈p0,x.block<W.heap.size:=by obtain ⟨m,hm⟩:=k0; exact DataW.trod_lt m _ _ _ hm
 obtain ⟨s0,rfl,_,_,hs0⟩:=Go.ChangeMaps.open_string Tryz.underlying9 (hval 0 9 v0 rfl rfl) h0
 obtain ⟨t0,rfl,w0⟩:=as_str s0 hs0
 clear hA0 hval0 hsz hsz0
 refine (walk t0 W w0 hti).mono fun e W' ⟨he,bel⟩=>?_
 subst he
 exact ⟨_,rfl,_,_,_,[],_,[],hW',trodAll_mk1 (shut_bool Tryz.underlying4 _),(trodAll_cons_mk (Below.trod laidOut (by kernel_rfl) (of_decide_eq_true (by kernel_rfl)) k0 bel lt0) trodAll_mk0),rfl,bel.frame _,fun h=>by cases h⟩
theorem q0:(Rows.wholeDeniedRow.wf (OpenSpec.ofChange Rows.wholeDeniedSpec))=true:=by kernel_rfl
theorem q3:(Tryz.f9.params.all (Tryz.prog.readableRec ·))=true:=by kernel_rfl
theorem q4:(namedTie Tryz.prog Rows.wholeDeniedRow.named Rows.wholeDeniedSpec.vars)=true:=by kernel_rfl
theorem q5:((Rows.wholeDeniedRow.stops == []))=true:=by kernel_rfl
theorem q7:((Rows.wholeDeniedRow.knobs == []))=true:=by kernel_rfl
theorem q9:((Rows.wholeDeniedRow.inPlace == Tryz.prog.inPlace 9))=true:=by kernel_rfl
theorem q10:((Rows.wholeDeniedRow.unfollowed == Tryz.prog.unfollowed 9))=true:=by kernel_rfl
theorem q11:((Rows.wholeDeniedRow.recurses == Tryz.prog.recurses 9))=true:=by kernel_rfl
theorem q12:((Rows.wholeDeniedRow.named == Tryz.prog.varsNamed 9))=true:=by kernel_rfl
theorem q13:((Rows.wholeDeniedRow.maps == (Tryz.f9.params.toList ++ Rows.wholeDeniedSpec.plain.varTypes Tryz.prog).any (Tryz.prog.mapsRec ·)))=true:=by kernel_rfl
theorem q14:((Rows.wholeDeniedRow.ifaces == (Tryz.f9.params.toList ++ Rows.wholeDeniedSpec.plain.varTypes Tryz.prog).any (Tryz.prog.ifacesRec ·)))=true:=by kernel_rfl
theorem q15:((Rows.wholeDeniedRow.mapsOut == Tryz.prog.mapsAmong Tryz.f9.resultTypes.toList))=true:=by kernel_rfl
theorem q16:((Rows.wholeDeniedRow.loops == (Tryz.f9.params.toList ++ Rows.wholeDeniedSpec.plain.varTypes Tryz.prog).any (Tryz.prog.loopsFrom ·)))=true:=by kernel_rfl
theorem q17:((Rows.wholeDeniedRow.wideKeys == (Tryz.f9.params.toList ++ Rows.wholeDeniedSpec.plain.varTypes Tryz.prog ++ Tryz.f9.resultTypes.toList).any (Tryz.prog.wideKeysFrom ·)))=true:=by kernel_rfl
theorem q18:(Rows.wholeDeniedSpec.vars.all (Tryz.prog.varReadable ·))=true:=by kernel_rfl
theorem q19:(Tryz.f9.resultTypes.all (fun t=>Tryz.prog.readableRec t && decide (t<Tryz.prog.types.size)))=true:=by kernel_rfl
theorem q20:((Rows.wholeDeniedRow.ifacesOut == Tryz.f9.resultTypes.toList.any (Tryz.prog.ifacesRec ·)))=true:=by kernel_rfl
theorem q21:((Rows.wholeDeniedRow.loopsOut == Tryz.f9.resultTypes.toList.any (Tryz.prog.loopsFrom ·)))=true:=by kernel_rfl
theorem q22:((Rows.wholeDeniedRow.plainKeys == Tryz.prog.plainKeys))=true:=(show Rows.wholeDeniedRow.plainKeys=Rows.wholeTilesRow.plainKeys from rfl) ▸ pq22
theorem q23:(Rows.wholeDeniedRow.shortTexts.isNone)=true:=by kernel_rfl
theorem q26:((Rows.wholeDeniedRow.lifted == Tryz.prog.liftsFinal))=true:=(show Rows.wholeDeniedRow.lifted=Rows.wholeTilesRow.lifted from rfl) ▸ pq26
theorem q27:((Tryz.prog.make == some Rows.wholeDeniedRow.make))=true:=(show Rows.wholeDeniedRow.make=Rows.wholeTilesRow.make from rfl) ▸ pq27
theorem q28:kindsAre Tryz.prog Rows.wholeDeniedRow Tryz.f9=true:=by kernel_rfl
theorem q29:((Rows.wholeDeniedRow.pinned == Rows.wholeDeniedRow.pinnedBy))=true:=by kernel_rfl
theorem q30:((Rows.wholeDeniedRow.veiled == (Tryz.f9.params.toList ++ Rows.wholeDeniedSpec.plain.varTypes Tryz.prog ++ Tryz.f9.resultTypes.toList).any (Tryz.prog.veiledRec ·)))=true:=by kernel_rfl
theorem q31:(Rows.wholeDeniedRow.veiledFits Tryz.prog Tryz.f9.params.toList (Tryz.f9.params.toList ++ Rows.wholeDeniedSpec.plain.varTypes Tryz.prog ++ Tryz.f9.resultTypes.toList))=true:=by kernel_rfl
theorem q_named:Tryz.prog.funcNamed Rows.wholeDeniedRow.func=some 9:=by kernel_rfl
theorem q_inst:Tryz.f9.isInstance Tryz.prog Rows.wholeDeniedRow.origin Rows.wholeDeniedRow.targs:=of_decide_eq_true (by kernel_rfl)
theorem q_wrap:Tryz.f9.isWrapper Tryz.prog Rows.wholeDeniedRow.wrapper Rows.wholeDeniedRow.mainSum:=by unfold Func.isWrapper; first | (rw [if_pos (by decide +kernel)]; kernel_rfl) | (rw [if_neg (by decide +kernel)]; exact ⟨rfl,rfl⟩)
set_option maxRecDepth 100000 in
theorem q_all:joinedFacts Tryz.prog 9 Tryz.f9 Rows.wholeDeniedSpec Rows.wholeDeniedRow=true:=joined_of (P:=Tryz.prog) (f:=9) (fn:=Tryz.f9) (s:=Rows.wholeDeniedSpec) (c:=Rows.wholeDeniedRow) q0 pq1 pq2 q3 q4 q5 pq6 q7 pq8 q9 q10 q11 q12 q13 q14 q15 q16 q17 q18 q19 q20 q21 q22 q23 pq24 pq25 q26 q27 q28 q29 q30 q31
theorem over:Rows.WholeDeniedSaid:=
 OpenClaim.holds_of_wide 9 Tryz.f9 rfl rfl rfl rfl rfl rfl rfl ⟨rfl,rfl,rfl,rfl,rfl⟩ rfl rfl rfl rfl rfl q_named Tryz.func9 q_all q_inst q_wrap
  (fun os started H enc _=>lifted os started H enc)
theorem c_wf:Rows.wholeDeniedRow.wfByText (OpenSpec.ofChange Rows.wholeDeniedSpec)=true:=by kernel_rfl
theorem c_looks:true=Tryz.prog.looks []:=by kernel_rfl
theorem c_stand:([9].all fun u=>!Tryz.prog.wantsStandIn u)=true:=by kernel_rfl
theorem c_goes:false=Rows.wholeDeniedRow.goesBy Tryz.prog:=by kernel_rfl
end Go.Proofs.YtalichkdeekdcaaGreatDoor.wholeDenied
namespace Go.Proofs.YtalichkdeekdcaaGreatDoor
theorem wholeDenied_holds:Rows.WholeDeniedCardSaid:=
 Claim7.holds_tied_plain_at (c:=Rows.wholeDeniedRow) .later [] _ true _ true
  wholeDenied.over (fun _ h=>by cases h) wholeDenied.c_wf (fun _ h=>by cases h) wholeDenied_row_tie rfl ⟨rfl,rfl⟩ main_is rfl
  (fun f fn hf hfn=>by
   obtain rfl:f=9:=Option.some.inj (wholeDenied.q_named.symm.trans hf) |>.symm
   obtain rfl:fn=Tryz.f9:=(Option.some.inj (Tryz.func9.symm.trans hfn)).symm
   exact ⟨wholeDenied.c_looks,fun j t ht=>by
    rw [Tryz.params9] at ht
    have hm:t∈[9]:=by simpa using Array.mem_of_getElem? ht
    exact (show Tryz.prog.wantsStandIn t=false by simpa using List.all_eq_true.1 wholeDenied.c_stand t hm)⟩)
  wholeDenied.c_goes
#print axioms wholeDenied_holds
end Go.Proofs.YtalichkdeekdcaaGreatDoor
