/- WholeKick: for every input the law answers true, and its arguments read as before. Conditions: none. -/
import Derived.BigQuiet
import Derived.Deep.DeepCutAuto
import Derived.Test.YtalichkdeekdcaaGreatDoorZd06
import Derived.Test.YtalichkdeekdcaaGreatDoorZd10
import Derived.Test.YtalichkdeekdcaaGreatDoorZd19
import Derived.Test.YtalichkdeekdcaaGreatDoorZd28
import Derived.Test.YtalichkdeekdcaaGreatDoorZd45
import Derived.Test.YtalichkdeekdcaaGreatDoorZd46
import Derived.Test.YtalichkdeekdcaaGreatDoorZd47
import Derived.Test.YtalichkdeekdcaaGreatDoorZd48
namespace Go.Proofs.YtalichkdeekdcaaGreatDoor.wholeKick
open Go.ChangeShapes Go.WideShapes Go.ChangeAt Go.RowKit
open Fr Bk
def AnyW (_:World):Prop:=True
theorem anyw (w:World):AnyW w:=trivial
theorem wpOp_value {P:Program} {ops:Array Oper} {Q:Exit→Act→World→Prop} {i:Nat} {o:Oper} {K:Act→World→Prop} {a:Act} {w w':World} {v:Value} (ho:ops[i]?=some o) (hg:o.guard=none)
  (hr:(execOp a.eval o).run P w = .ok (.value v) w') (h:K (a.put o.dst v) w'):wpOp P ops Q i K a w:=by
 unfold wpOp
 simp only [ho]
 rw [if_pos (by simp [Region.wanted,hg])]
 left
 unfold Oper.wp
 rw [hr]
 exact h
theorem kick_text (w:Nat) (hw:w≤9):(⟨#[107,105,99,107,32]⟩:ByteArray) ++ str [BitVec.ofNat 8 (48+w)]=str (kickS w):=by
 rw [kickS_is w hw]
 exact (str_app [107#8,105#8,99#8,107#8,32#8] [BitVec.ofNat 8 (48+w)]).symm
theorem closed_ok5:(closed 5).ok=true:=by decide
set_option maxRecDepth 100000 in
set_option maxHeartbeats 8000000 in
theorem walk (a0:Int) (a1:Int) (w:World) (w0:(Lit.int .i64 a0).wf=true) (w1:(Lit.int .i64 a1).wf=true) (ht:TI w) :
    Calls Tryz.prog 10 #[.int .i64 a0,.int .i64 a1] w fun e w'=>e = .returned (.bool true)∧Below w.heap.size w w':=by
  have HTI:=Lib.hid ht
  have hmix:Tryz.prog.follows .mixedOrders=true:=by kernel_rfl
  obtain ⟨q,hq7,hqa⟩:=bits_any a0 7 (by decide)
  obtain ⟨p,hp,hpe⟩:=rest_any a1 (2+(q:Int) - 1) (by omega) (by omega)
  have hand:bits .and .i64 a0 7=(q:Int):=hqa
  have HA0:=Lib.hid w0
  have HA1:=Lib.hid w1
  clear HA0 HA1 ht hqa w0 w1
  go_enter Tryz.func10,Tryz.ntmps10
  go_wp2_with fail
  refine (alive_any w HTI.out).mono ?_
  rintro r w1 ⟨rfl,hb1⟩
  have HB1:=Lib.hid hb1
  clear hb1
  go_upto_region 5 with fail
  obtain ⟨ms,hms⟩:∃ ms:Nat,2+q=ms:=⟨_,rfl⟩
  obtain ⟨ww,hww⟩:∃ ww:Nat,2+p=ww:=⟨_,rfl⟩
  have e1:(2:Int)+(q:Int)=(ms:Int):=by omega
  have e2:(2:Int)+(p:Int)=(ww:Int):=by omega
  simp only [e1,e2]
  have HM:=Lib.hid (show 2≤ww∧ww≤ms∧ms≤9 by omega)
  clear e1 e2 hms hww hp hpe hand hq7
  have HB2:=Lib.hid (HB1.out.trans (((Below.refl w1.heap.size w1).alloc (Nat.le_refl _) (.cells #[] 30)).mono HB1.out.size))
  have HR2:=Lib.hid (show EvRow w.heap.size (w1.alloc (.cells #[] 30)) (some ⟨w1.heap.size,0,none⟩) (2 * 0) 0 (kickL 0) from EvRow.empty w1 HB1.out.size)
  go_upto_region 6 with fail
  generalize w1.alloc (.cells #[] 30)=w2 at *
  obtain ⟨A2,hA2⟩:∃ A,(some ⟨w1.heap.size,0,none⟩:Option Addr)=A:=⟨_,rfl⟩
  rw [hA2] at HR2 ⊢
  clear hA2 HB1
  have hm9:=HM.out.2.2
  go_upto_region 7 with fail
  go_loopw [5,6] (fun s5 s6 wr=>∃ (i c:Nat) (A:Option Addr),s6 = .int .i64 ((i:Int)+1)∧s5 = .slice A (2 * i) c∧i≤ms∧EvRow w.heap.size wr A (2 * i) c (kickL i)∧Below w.heap.size w wr) (fun _ s _=>ms+1 - (intOf s).toNat)
  case atStart=>exact ⟨0,0,A2,rfl,rfl,Nat.zero_le _,HR2.out,HB2.out⟩
  case round =>
    obtain ⟨i,c,A,rfl,rfl,hi,hr,hb⟩:=hrel
    have HR:=Lib.hid hr
    have HB:=Lib.hid hb
    clear hr hb HR2 HB2
    by_cases him:i<ms
    · have d1:decide ((i:Int)+1≤(ms:Int))=true:=decide_eq_true (by omega)
      have HC:=Lib.hid (comes_any ((i:Int)+1) true 0 (by decide) (by decide) wr)
      go_wp2_with fail
      refine HC.out.mono ?_
      rintro r w3 ⟨A3,c3,rfl,hr3,hb3⟩
      have HB3:=Lib.hid (HB.out.trans (hb3.mono HB.out.size))
      have HR3:=Lib.hid (HR.out.below hb3)
      have HN3:=Lib.hid hr3.evin
      have hz3:=HB3.out.size
      clear hr3 hb3 HC HB HR
      go_wp2_with (first
        | (at_builtin
           refine wpList_eapp rfl (.tmp 33) (.tmp 35) rfl rfl HR3.out rfl HN3.out rfl (by omega) hz3 ?_
           intro A4 c4 w4 hr4 hb4
           have HR4:=Lib.hid (show EvRow w.heap.size w4 A4 (2 * (i+1)) c4 (kickL (i+1)) from hr4)
           have HB4:=Lib.hid (HB3.out.trans hb4)
           clear hr4 hb4 HR3 HN3 HB3 hz3
           go_wp2_with fail))
      go_roundw
      case rel=>exact ⟨i+1,c4,A4,by go_num,rfl,by omega,HR4.out,HB4.out⟩
      case measure=>simp [intOf]; omega
    obtain rfl:i=ms:=by omega
    have d1:decide ((i:Int)+1≤(i:Int))=false:=decide_eq_false (by omega)
    have hw29:=HM.out
    go_upto_region 10 with fail
    obtain ⟨x1,hx1⟩:∃ x1,enc (keys 1 (esc wFloor))=x1:=⟨_,rfl⟩
    obtain ⟨x2,hx2⟩:∃ x2,enc (keys 1 (esc (kickS ww)))=x2:=⟨_,rfl⟩
    have hv1:=Lib.hid (show evv (cmdE (ww:Nat) wFloor) = .agg #[.int .i64 1,.int .i64 (ww:Int),.int .i64 0,.string (str x1)] by rw [← hx1]; rfl)
    have hv2:=Lib.hid (show evv (cmdE 1 (kickS ww)) = .agg #[.int .i64 1,.int .i64 1,.int .i64 0,.string (str x2)] by rw [← hx2]; rfl)
    have hva:=Lib.hid (show evv (allE (ww:Nat)) = .agg #[.int .i64 2,.int .i64 (ww:Int),.int .i64 65536,.string ⟨#[]⟩] from rfl)
    have HNew:=Lib.hid (show ∀ W:World,w.heap.size≤W.heap.size→EvIn (W.alloc (.cells #[.int .i64 1,.int .i64 (ww:Int),.int .i64 0,.string (str x1),.int .i64 2,.int .i64 (ww:Int),.int .i64 65536,.string ⟨#[]⟩,.int .i64 1,.int .i64 1,.int .i64 0,.string (str x2),.int .i64 2,.int .i64 (ww:Int),.int .i64 65536,.string ⟨#[]⟩] 30)) (W.alloc (.cells #[.int .i64 1,.int .i64 (ww:Int),.int .i64 0,.string (str x1),.int .i64 2,.int .i64 (ww:Int),.int .i64 65536,.string ⟨#[]⟩,.int .i64 1,.int .i64 1,.int .i64 0,.string (str x2),.int .i64 2,.int .i64 (ww:Int),.int .i64 65536,.string ⟨#[]⟩] 30)).heap.size (some ⟨W.heap.size,0,none⟩) (kick4 ww) from fun W _=>(evrow_new (base:=0) W (Nat.zero_le _) (kick4 ww) _ (by rw [← hx1,← hx2]; rfl) (show 4≤1000000 by decide) (fun e he=>by
      have:=(Sc.rtE_in (kick4_right (by omega) e he)).2.2.2.2.2.2
      unfold maxLen
      omega)).evin)
    have HCf:=Lib.hid (show ∀ W,Calls Tryz.prog 20 #[.int .i64 (ww:Int),.string ⟨#[102,108,111,111,114]⟩] W fun r w'=>r = .returned (evv (cmdE (ww:Nat) wFloor))∧Below W.heap.size W w' from fun W=>command_any (ww:Nat) wFloor (by decide) W)
    have HCk:=Lib.hid (fun W=>command_any 1 (kickS ww) (by rw [kickS_is ww (by omega)]; show 6≤2000; decide) W)
    have HCa:=Lib.hid (fun W=>all_any (ww:Nat) W)
    have HKT:=Lib.hid (kick_text ww (by omega))
    clear hx1 hx2
    go_cut [5] (fun s5 wx=>∃ A5 c5,s5 = .slice A5 (2 * i+4) c5∧EvRow w.heap.size wx A5 (2 * i+4) c5 (kickL i ++ kick4 ww)∧Below w.heap.size w wx)
    case first =>
      go_wp2_with fail
      refine wp_region_held (S:=AnyW) hmix ?_
      change wpAnyH _ _ _ _ _ _ _ _ (World.drew _)
      have HR:=Lib.hid (HR.out.below (below_drew (Below.refl wr.heap.size wr)))
      have HB:=Lib.hid (below_drew HB.out)
      generalize wr.drew=wd at *
      refine wpAnyH_take (i:=0) (v:=.slice A (2 * i) c) rfl (by kernel_rfl) (by kernel_rfl) (by kernel_rfl) (fun _ _ _ h=>h) (.inl ⟨by kernel_rfl,fun W hW=>?_⟩) (anyw _) ?_
      · go_simp; try (first | rfl | omega | (rw [IntKind.wrap_u8]; omega) | (rw [IntKind.wrap_i64]; omega) | (rw [str_size]; show 5+1≤9223372036854775807; decide) | go_num | (intro hh; exfalso; omega))
      refine wpAnyH_take (i:=1) (v:=.int .i64 (ww:Int)) rfl (by kernel_rfl) (by kernel_rfl) (by kernel_rfl) (fun _ _ _ h=>h) (.inl ⟨by kernel_rfl,fun W hW=>?_⟩) (anyw _) ?_
      · go_simp; try (first | rfl | omega | (rw [IntKind.wrap_u8]; omega) | (rw [IntKind.wrap_i64]; omega) | (rw [str_size]; show 5+1≤9223372036854775807; decide) | go_num | (intro hh; exfalso; omega))
      refine wpAnyH_take (i:=3) (v:=.int .i64 (ww:Int)) rfl (by kernel_rfl) (by kernel_rfl) (by kernel_rfl) (fun _ _ _ h=>h) (.inl ⟨by kernel_rfl,fun W hW=>?_⟩) (anyw _) ?_
      · go_simp; try (first | rfl | omega | (rw [IntKind.wrap_u8]; omega) | (rw [IntKind.wrap_i64]; omega) | (rw [str_size]; show 5+1≤9223372036854775807; decide) | go_num | (intro hh; exfalso; omega))
      refine wpAnyH_take (i:=5) (v:=.int .i64 (ww:Int)) rfl (by kernel_rfl) (by kernel_rfl) (by kernel_rfl) (fun _ _ _ h=>h) (.inl ⟨by kernel_rfl,fun W hW=>?_⟩) (anyw _) ?_
      · go_simp; try (first | rfl | omega | (rw [IntKind.wrap_u8]; omega) | (rw [IntKind.wrap_i64]; omega) | (rw [str_size]; show 5+1≤9223372036854775807; decide) | go_num | (intro hh; exfalso; omega))
      refine wpAnyH_take (i:=6) (v:=.int .i64 (48+(ww:Int))) rfl (by kernel_rfl) (by kernel_rfl) (by kernel_rfl) (fun _ _ _ h=>h) (.inl ⟨by kernel_rfl,fun W hW=>?_⟩) (anyw _) ?_
      · go_simp; try (first | rfl | omega | (rw [IntKind.wrap_u8]; omega) | (rw [IntKind.wrap_i64]; omega) | (rw [str_size]; show 5+1≤9223372036854775807; decide) | go_num | (intro hh; exfalso; omega))
      refine wpAnyH_take (i:=7) (v:=.int .u8 (48+(ww:Int))) rfl (by kernel_rfl) (by kernel_rfl) (by kernel_rfl) (fun _ _ _ h=>h) (.inl ⟨by kernel_rfl,fun W hW=>?_⟩) (anyw _) ?_
      · go_simp; try (first | rfl | omega | (rw [IntKind.wrap_u8]; omega) | (rw [IntKind.wrap_i64]; omega) | (rw [str_size]; show 5+1≤9223372036854775807; decide) | go_num | (intro hh; exfalso; omega))
      refine wpAnyH_take (i:=12) (v:=.int .i64 (ww:Int)) rfl (by kernel_rfl) (by kernel_rfl) (by kernel_rfl) (fun _ _ _ h=>h) (.inl ⟨by kernel_rfl,fun W hW=>?_⟩) (anyw _) ?_
      · go_simp; try (first | rfl | omega | (rw [IntKind.wrap_u8]; omega) | (rw [IntKind.wrap_i64]; omega) | (rw [str_size]; show 5+1≤9223372036854775807; decide) | go_num | (intro hh; exfalso; omega))
      refine wpAnyH_all (rs:=[2,8]) (by kernel_rfl) (by simp) ?_
      intro z hz
      simp only [List.mem_cons,List.not_mem_nil,or_false] at hz
      rcases hz with rfl | rfl
      · skip
        unfold wpOp
        go_simp
        refine .inl ?_
        refine (HCf.out wd).mono ?_
        rintro r u1 ⟨rfl,hb⟩
        rw [hv1.out]
        have HB:=Lib.hid (HB.out.trans (hb.mono HB.out.size))
        have HR:=Lib.hid (HR.out.below hb)
        clear hb
        refine ⟨anyw _,?_⟩
        refine wpAnyH_all (rs:=[4,8]) (by kernel_rfl) (by simp) ?_
        intro z hz
        simp only [List.mem_cons,List.not_mem_nil,or_false] at hz
        rcases hz with rfl | rfl
        · skip
          unfold wpOp
          go_simp
          refine .inl ?_
          refine (HCa.out u1).mono ?_
          rintro r u2 ⟨rfl,hb⟩
          rw [hva.out]
          have HB:=Lib.hid (HB.out.trans (hb.mono HB.out.size))
          have HR:=Lib.hid (HR.out.below hb)
          clear hb
          refine ⟨anyw _,?_⟩
          refine wpAnyH_all (rs:=[8]) (by kernel_rfl) (by simp) ?_
          intro z hz
          simp only [List.mem_cons,List.not_mem_nil,or_false] at hz
          subst hz
          unfold wpOp
          go_simp
          refine .inl ⟨anyw _,?_⟩
          have HY:=Lib.hid (one_newv u2 (BitVec.ofNat 8 (48+ww)) (48+(ww:Int)) (by simp; omega))
          have hb:Below u2.heap.size u2 (u2.alloc (.cells #[.int .u8 (48+(ww:Int))] 5)):=(Below.refl _ _).alloc (Nat.le_refl _) _
          have HB:=Lib.hid (HB.out.trans (hb.mono HB.out.size))
          have HR:=Lib.hid (HR.out.below hb)
          have HQ:=Lib.hid (show u2.heap.size+1≤(u2.alloc (.cells #[.int .u8 (48+(ww:Int))] 5)).heap.size by simp)
          clear hb
          generalize u2.alloc (.cells #[.int .u8 (48+(ww:Int))] 5)=u3 at *
          refine wpAnyH_all (rs:=[9]) (by kernel_rfl) (by simp) ?_
          intro z hz
          simp only [List.mem_cons,List.not_mem_nil,or_false] at hz
          subst hz
          have hcv:=conv_str (cap:=1) HY.out
          unfold wpOp
          go_simp
          refine .inl ⟨anyw _,?_⟩
          clear hcv
          refine wpAnyH_take (i:=10) (v:=.string (str (kickS ww))) rfl (by kernel_rfl) (by kernel_rfl) (by kernel_rfl) (fun _ _ _ h=>h) (.inl ⟨by kernel_rfl,fun W hW=>?_⟩) (anyw _) ?_
          · have hk:=HKT.out; go_simp; try (first | rfl | omega | (rw [IntKind.wrap_u8]; omega) | (rw [IntKind.wrap_i64]; omega) | (rw [str_size]; show 5+1≤9223372036854775807; decide) | go_num | (intro hh; exfalso; omega))
          refine wpAnyH_all (rs:=[11]) (by kernel_rfl) (by simp) ?_
          intro z hz
          simp only [List.mem_cons,List.not_mem_nil,or_false] at hz
          subst hz
          unfold wpOp
          go_simp
          refine .inl ?_
          refine (HCk.out u3).mono ?_
          rintro r u5 ⟨rfl,hb⟩
          rw [hv2.out]
          have HB:=Lib.hid (HB.out.trans (hb.mono HB.out.size))
          have HR:=Lib.hid (HR.out.below hb)
          clear hb
          refine ⟨anyw _,?_⟩
          refine wpAnyH_all (rs:=[13]) (by kernel_rfl) (by simp) ?_
          intro z hz
          simp only [List.mem_cons,List.not_mem_nil,or_false] at hz
          subst hz
          unfold wpOp
          go_simp
          refine .inl ?_
          refine (HCa.out u5).mono ?_
          rintro r u6 ⟨rfl,hb⟩
          rw [hva.out]
          have HB:=Lib.hid (HB.out.trans (hb.mono HB.out.size))
          have HR:=Lib.hid (HR.out.below hb)
          clear hb
          refine ⟨anyw _,?_⟩
          refine wpAnyH_all (rs:=[14]) (by kernel_rfl) (by simp) ?_
          intro z hz
          simp only [List.mem_cons,List.not_mem_nil,or_false] at hz
          subst hz
          unfold wpOp
          go_simp
          refine .inl ⟨anyw _,?_⟩
          have hb:Below u6.heap.size u6 (u6.alloc (.cells #[.int .i64 1,.int .i64 (ww:Int),.int .i64 0,.string (str x1),.int .i64 2,.int .i64 (ww:Int),.int .i64 65536,.string ⟨#[]⟩,.int .i64 1,.int .i64 1,.int .i64 0,.string (str x2),.int .i64 2,.int .i64 (ww:Int),.int .i64 65536,.string ⟨#[]⟩] 30)):=(Below.refl _ _).alloc (Nat.le_refl _) _
          have HN:=Lib.hid (HNew.out u6 HB.out.size)
          have HB:=Lib.hid (HB.out.trans (hb.mono HB.out.size))
          have HR:=Lib.hid (HR.out.below hb)
          clear hb
          generalize u6.alloc (.cells #[.int .i64 1,.int .i64 (ww:Int),.int .i64 0,.string (str x1),.int .i64 2,.int .i64 (ww:Int),.int .i64 65536,.string ⟨#[]⟩,.int .i64 1,.int .i64 1,.int .i64 0,.string (str x2),.int .i64 2,.int .i64 (ww:Int),.int .i64 65536,.string ⟨#[]⟩] 30)=uz at *
          refine wpAnyH_all (rs:=[15]) (by kernel_rfl) (by simp) ?_
          intro z hz
          simp only [List.mem_cons,List.not_mem_nil,or_false] at hz
          subst hz
          obtain ⟨A5,c5,w5,hrun,hr5,hb5⟩:=run_eapp 25 HR.out (m:=4) (c2:=4) HN.out rfl (by omega) HB.out.size
          refine wpOp_value rfl rfl (exec_append (s:=.tmp 37) (x:=.tmp 51) (st:=25) rfl rfl rfl hrun) ⟨anyw _,?_⟩
          clear hrun
          refine wpAnyH_all (rs:=[16]) (by kernel_rfl) (by simp) ?_
          intro z hz
          simp only [List.mem_cons,List.not_mem_nil,or_false] at hz
          subst hz
          unfold wpOp
          go_simp
          refine .inl ⟨anyw _,?_⟩
          refine wpAnyH_done (by kernel_rfl) ?_ _
          go_simp
          go_wp2_with fail
          go_meet
          exact ⟨A5,c5,rfl,hr5,HB.out.trans hb5⟩
        · skip
          unfold wpOp
          go_simp
          refine .inl ⟨anyw _,?_⟩
          have HY:=Lib.hid (one_newv u1 (BitVec.ofNat 8 (48+ww)) (48+(ww:Int)) (by simp; omega))
          have hb:Below u1.heap.size u1 (u1.alloc (.cells #[.int .u8 (48+(ww:Int))] 5)):=(Below.refl _ _).alloc (Nat.le_refl _) _
          have HB:=Lib.hid (HB.out.trans (hb.mono HB.out.size))
          have HR:=Lib.hid (HR.out.below hb)
          have HQ:=Lib.hid (show u1.heap.size+1≤(u1.alloc (.cells #[.int .u8 (48+(ww:Int))] 5)).heap.size by simp)
          clear hb
          generalize u1.alloc (.cells #[.int .u8 (48+(ww:Int))] 5)=u7 at *
          refine wpAnyH_all (rs:=[4,9]) (by kernel_rfl) (by simp) ?_
          intro z hz
          simp only [List.mem_cons,List.not_mem_nil,or_false] at hz
          rcases hz with rfl | rfl
          · skip
            unfold wpOp
            go_simp
            refine .inl ?_
            refine (HCa.out u7).mono ?_
            rintro r u8 ⟨rfl,hb⟩
            rw [hva.out]
            have HB:=Lib.hid (HB.out.trans (hb.mono HB.out.size))
            have HR:=Lib.hid (HR.out.below hb)
            have HY:=Lib.hid (HY.out.below (hb.mono HQ.out))
            have HQ:=Lib.hid (Nat.le_trans HQ.out hb.size)
            clear hb
            refine ⟨anyw _,?_⟩
            refine wpAnyH_all (rs:=[9]) (by kernel_rfl) (by simp) ?_
            intro z hz
            simp only [List.mem_cons,List.not_mem_nil,or_false] at hz
            subst hz
            have hcv:=conv_str (cap:=1) HY.out
            unfold wpOp
            go_simp
            refine .inl ⟨anyw _,?_⟩
            clear hcv
            refine wpAnyH_take (i:=10) (v:=.string (str (kickS ww))) rfl (by kernel_rfl) (by kernel_rfl) (by kernel_rfl) (fun _ _ _ h=>h) (.inl ⟨by kernel_rfl,fun W hW=>?_⟩) (anyw _) ?_
            · have hk:=HKT.out; go_simp; try (first | rfl | omega | (rw [IntKind.wrap_u8]; omega) | (rw [IntKind.wrap_i64]; omega) | (rw [str_size]; show 5+1≤9223372036854775807; decide) | go_num | (intro hh; exfalso; omega))
            refine wpAnyH_all (rs:=[11]) (by kernel_rfl) (by simp) ?_
            intro z hz
            simp only [List.mem_cons,List.not_mem_nil,or_false] at hz
            subst hz
            unfold wpOp
            go_simp
            refine .inl ?_
            refine (HCk.out u8).mono ?_
            rintro r u10 ⟨rfl,hb⟩
            rw [hv2.out]
            have HB:=Lib.hid (HB.out.trans (hb.mono HB.out.size))
            have HR:=Lib.hid (HR.out.below hb)
            clear hb
            refine ⟨anyw _,?_⟩
            refine wpAnyH_all (rs:=[13]) (by kernel_rfl) (by simp) ?_
            intro z hz
            simp only [List.mem_cons,List.not_mem_nil,or_false] at hz
            subst hz
            unfold wpOp
            go_simp
            refine .inl ?_
            refine (HCa.out u10).mono ?_
            rintro r u11 ⟨rfl,hb⟩
            rw [hva.out]
            have HB:=Lib.hid (HB.out.trans (hb.mono HB.out.size))
            have HR:=Lib.hid (HR.out.below hb)
            clear hb
            refine ⟨anyw _,?_⟩
            refine wpAnyH_all (rs:=[14]) (by kernel_rfl) (by simp) ?_
            intro z hz
            simp only [List.mem_cons,List.not_mem_nil,or_false] at hz
            subst hz
            unfold wpOp
            go_simp
            refine .inl ⟨anyw _,?_⟩
            have hb:Below u11.heap.size u11 (u11.alloc (.cells #[.int .i64 1,.int .i64 (ww:Int),.int .i64 0,.string (str x1),.int .i64 2,.int .i64 (ww:Int),.int .i64 65536,.string ⟨#[]⟩,.int .i64 1,.int .i64 1,.int .i64 0,.string (str x2),.int .i64 2,.int .i64 (ww:Int),.int .i64 65536,.string ⟨#[]⟩] 30)):=(Below.refl _ _).alloc (Nat.le_refl _) _
            have HN:=Lib.hid (HNew.out u11 HB.out.size)
            have HB:=Lib.hid (HB.out.trans (hb.mono HB.out.size))
            have HR:=Lib.hid (HR.out.below hb)
            clear hb
            generalize u11.alloc (.cells #[.int .i64 1,.int .i64 (ww:Int),.int .i64 0,.string (str x1),.int .i64 2,.int .i64 (ww:Int),.int .i64 65536,.string ⟨#[]⟩,.int .i64 1,.int .i64 1,.int .i64 0,.string (str x2),.int .i64 2,.int .i64 (ww:Int),.int .i64 65536,.string ⟨#[]⟩] 30)=uz at *
            refine wpAnyH_all (rs:=[15]) (by kernel_rfl) (by simp) ?_
            intro z hz
            simp only [List.mem_cons,List.not_mem_nil,or_false] at hz
            subst hz
            obtain ⟨A5,c5,w5,hrun,hr5,hb5⟩:=run_eapp 25 HR.out (m:=4) (c2:=4) HN.out rfl (by omega) HB.out.size
            refine wpOp_value rfl rfl (exec_append (s:=.tmp 37) (x:=.tmp 51) (st:=25) rfl rfl rfl hrun) ⟨anyw _,?_⟩
            clear hrun
            refine wpAnyH_all (rs:=[16]) (by kernel_rfl) (by simp) ?_
            intro z hz
            simp only [List.mem_cons,List.not_mem_nil,or_false] at hz
            subst hz
            unfold wpOp
            go_simp
            refine .inl ⟨anyw _,?_⟩
            refine wpAnyH_done (by kernel_rfl) ?_ _
            go_simp
            go_wp2_with fail
            go_meet
            exact ⟨A5,c5,rfl,hr5,HB.out.trans hb5⟩
          · skip
            have hcv:=conv_str (cap:=1) HY.out
            unfold wpOp
            go_simp
            refine .inl ⟨anyw _,?_⟩
            clear hcv
            refine wpAnyH_take (i:=10) (v:=.string (str (kickS ww))) rfl (by kernel_rfl) (by kernel_rfl) (by kernel_rfl) (fun _ _ _ h=>h) (.inl ⟨by kernel_rfl,fun W hW=>?_⟩) (anyw _) ?_
            · have hk:=HKT.out; go_simp; try (first | rfl | omega | (rw [IntKind.wrap_u8]; omega) | (rw [IntKind.wrap_i64]; omega) | (rw [str_size]; show 5+1≤9223372036854775807; decide) | go_num | (intro hh; exfalso; omega))
            refine wpAnyH_all (rs:=[4]) (by kernel_rfl) (by simp) ?_
            intro z hz
            simp only [List.mem_cons,List.not_mem_nil,or_false] at hz
            subst hz
            unfold wpOp
            go_simp
            refine .inl ?_
            refine (HCa.out u7).mono ?_
            rintro r u13 ⟨rfl,hb⟩
            rw [hva.out]
            have HB:=Lib.hid (HB.out.trans (hb.mono HB.out.size))
            have HR:=Lib.hid (HR.out.below hb)
            clear hb
            refine ⟨anyw _,?_⟩
            refine wpAnyH_all (rs:=[11]) (by kernel_rfl) (by simp) ?_
            intro z hz
            simp only [List.mem_cons,List.not_mem_nil,or_false] at hz
            subst hz
            unfold wpOp
            go_simp
            refine .inl ?_
            refine (HCk.out u13).mono ?_
            rintro r u14 ⟨rfl,hb⟩
            rw [hv2.out]
            have HB:=Lib.hid (HB.out.trans (hb.mono HB.out.size))
            have HR:=Lib.hid (HR.out.below hb)
            clear hb
            refine ⟨anyw _,?_⟩
            refine wpAnyH_all (rs:=[13]) (by kernel_rfl) (by simp) ?_
            intro z hz
            simp only [List.mem_cons,List.not_mem_nil,or_false] at hz
            subst hz
            unfold wpOp
            go_simp
            refine .inl ?_
            refine (HCa.out u14).mono ?_
            rintro r u15 ⟨rfl,hb⟩
            rw [hva.out]
            have HB:=Lib.hid (HB.out.trans (hb.mono HB.out.size))
            have HR:=Lib.hid (HR.out.below hb)
            clear hb
            refine ⟨anyw _,?_⟩
            refine wpAnyH_all (rs:=[14]) (by kernel_rfl) (by simp) ?_
            intro z hz
            simp only [List.mem_cons,List.not_mem_nil,or_false] at hz
            subst hz
            unfold wpOp
            go_simp
            refine .inl ⟨anyw _,?_⟩
            have hb:Below u15.heap.size u15 (u15.alloc (.cells #[.int .i64 1,.int .i64 (ww:Int),.int .i64 0,.string (str x1),.int .i64 2,.int .i64 (ww:Int),.int .i64 65536,.string ⟨#[]⟩,.int .i64 1,.int .i64 1,.int .i64 0,.string (str x2),.int .i64 2,.int .i64 (ww:Int),.int .i64 65536,.string ⟨#[]⟩] 30)):=(Below.refl _ _).alloc (Nat.le_refl _) _
            have HN:=Lib.hid (HNew.out u15 HB.out.size)
            have HB:=Lib.hid (HB.out.trans (hb.mono HB.out.size))
            have HR:=Lib.hid (HR.out.below hb)
            clear hb
            generalize u15.alloc (.cells #[.int .i64 1,.int .i64 (ww:Int),.int .i64 0,.string (str x1),.int .i64 2,.int .i64 (ww:Int),.int .i64 65536,.string ⟨#[]⟩,.int .i64 1,.int .i64 1,.int .i64 0,.string (str x2),.int .i64 2,.int .i64 (ww:Int),.int .i64 65536,.string ⟨#[]⟩] 30)=uz at *
            refine wpAnyH_all (rs:=[15]) (by kernel_rfl) (by simp) ?_
            intro z hz
            simp only [List.mem_cons,List.not_mem_nil,or_false] at hz
            subst hz
            obtain ⟨A5,c5,w5,hrun,hr5,hb5⟩:=run_eapp 25 HR.out (m:=4) (c2:=4) HN.out rfl (by omega) HB.out.size
            refine wpOp_value rfl rfl (exec_append (s:=.tmp 37) (x:=.tmp 51) (st:=25) rfl rfl rfl hrun) ⟨anyw _,?_⟩
            clear hrun
            refine wpAnyH_all (rs:=[16]) (by kernel_rfl) (by simp) ?_
            intro z hz
            simp only [List.mem_cons,List.not_mem_nil,or_false] at hz
            subst hz
            unfold wpOp
            go_simp
            refine .inl ⟨anyw _,?_⟩
            refine wpAnyH_done (by kernel_rfl) ?_ _
            go_simp
            go_wp2_with fail
            go_meet
            exact ⟨A5,c5,rfl,hr5,HB.out.trans hb5⟩
      · skip
        unfold wpOp
        go_simp
        refine .inl ⟨anyw _,?_⟩
        have HY:=Lib.hid (one_newv wd (BitVec.ofNat 8 (48+ww)) (48+(ww:Int)) (by simp; omega))
        have hb:Below wd.heap.size wd (wd.alloc (.cells #[.int .u8 (48+(ww:Int))] 5)):=(Below.refl _ _).alloc (Nat.le_refl _) _
        have HB:=Lib.hid (HB.out.trans (hb.mono HB.out.size))
        have HR:=Lib.hid (HR.out.below hb)
        have HQ:=Lib.hid (show wd.heap.size+1≤(wd.alloc (.cells #[.int .u8 (48+(ww:Int))] 5)).heap.size by simp)
        clear hb
        generalize wd.alloc (.cells #[.int .u8 (48+(ww:Int))] 5)=u16 at *
        refine wpAnyH_all (rs:=[2,9]) (by kernel_rfl) (by simp) ?_
        intro z hz
        simp only [List.mem_cons,List.not_mem_nil,or_false] at hz
        rcases hz with rfl | rfl
        · skip
          unfold wpOp
          go_simp
          refine .inl ?_
          refine (HCf.out u16).mono ?_
          rintro r u17 ⟨rfl,hb⟩
          rw [hv1.out]
          have HB:=Lib.hid (HB.out.trans (hb.mono HB.out.size))
          have HR:=Lib.hid (HR.out.below hb)
          have HY:=Lib.hid (HY.out.below (hb.mono HQ.out))
          have HQ:=Lib.hid (Nat.le_trans HQ.out hb.size)
          clear hb
          refine ⟨anyw _,?_⟩
          refine wpAnyH_all (rs:=[4,9]) (by kernel_rfl) (by simp) ?_
          intro z hz
          simp only [List.mem_cons,List.not_mem_nil,or_false] at hz
          rcases hz with rfl | rfl
          · skip
            unfold wpOp
            go_simp
            refine .inl ?_
            refine (HCa.out u17).mono ?_
            rintro r u18 ⟨rfl,hb⟩
            rw [hva.out]
            have HB:=Lib.hid (HB.out.trans (hb.mono HB.out.size))
            have HR:=Lib.hid (HR.out.below hb)
            have HY:=Lib.hid (HY.out.below (hb.mono HQ.out))
            have HQ:=Lib.hid (Nat.le_trans HQ.out hb.size)
            clear hb
            refine ⟨anyw _,?_⟩
            refine wpAnyH_all (rs:=[9]) (by kernel_rfl) (by simp) ?_
            intro z hz
            simp only [List.mem_cons,List.not_mem_nil,or_false] at hz
            subst hz
            have hcv:=conv_str (cap:=1) HY.out
            unfold wpOp
            go_simp
            refine .inl ⟨anyw _,?_⟩
            clear hcv
            refine wpAnyH_take (i:=10) (v:=.string (str (kickS ww))) rfl (by kernel_rfl) (by kernel_rfl) (by kernel_rfl) (fun _ _ _ h=>h) (.inl ⟨by kernel_rfl,fun W hW=>?_⟩) (anyw _) ?_
            · have hk:=HKT.out; go_simp; try (first | rfl | omega | (rw [IntKind.wrap_u8]; omega) | (rw [IntKind.wrap_i64]; omega) | (rw [str_size]; show 5+1≤9223372036854775807; decide) | go_num | (intro hh; exfalso; omega))
            refine wpAnyH_all (rs:=[11]) (by kernel_rfl) (by simp) ?_
            intro z hz
            simp only [List.mem_cons,List.not_mem_nil,or_false] at hz
            subst hz
            unfold wpOp
            go_simp
            refine .inl ?_
            refine (HCk.out u18).mono ?_
            rintro r u20 ⟨rfl,hb⟩
            rw [hv2.out]
            have HB:=Lib.hid (HB.out.trans (hb.mono HB.out.size))
            have HR:=Lib.hid (HR.out.below hb)
            clear hb
            refine ⟨anyw _,?_⟩
            refine wpAnyH_all (rs:=[13]) (by kernel_rfl) (by simp) ?_
            intro z hz
            simp only [List.mem_cons,List.not_mem_nil,or_false] at hz
            subst hz
            unfold wpOp
            go_simp
            refine .inl ?_
            refine (HCa.out u20).mono ?_
            rintro r u21 ⟨rfl,hb⟩
            rw [hva.out]
            have HB:=Lib.hid (HB.out.trans (hb.mono HB.out.size))
            have HR:=Lib.hid (HR.out.below hb)
            clear hb
            refine ⟨anyw _,?_⟩
            refine wpAnyH_all (rs:=[14]) (by kernel_rfl) (by simp) ?_
            intro z hz
            simp only [List.mem_cons,List.not_mem_nil,or_false] at hz
            subst hz
            unfold wpOp
            go_simp
            refine .inl ⟨anyw _,?_⟩
            have hb:Below u21.heap.size u21 (u21.alloc (.cells #[.int .i64 1,.int .i64 (ww:Int),.int .i64 0,.string (str x1),.int .i64 2,.int .i64 (ww:Int),.int .i64 65536,.string ⟨#[]⟩,.int .i64 1,.int .i64 1,.int .i64 0,.string (str x2),.int .i64 2,.int .i64 (ww:Int),.int .i64 65536,.string ⟨#[]⟩] 30)):=(Below.refl _ _).alloc (Nat.le_refl _) _
            have HN:=Lib.hid (HNew.out u21 HB.out.size)
            have HB:=Lib.hid (HB.out.trans (hb.mono HB.out.size))
            have HR:=Lib.hid (HR.out.below hb)
            clear hb
            generalize u21.alloc (.cells #[.int .i64 1,.int .i64 (ww:Int),.int .i64 0,.string (str x1),.int .i64 2,.int .i64 (ww:Int),.int .i64 65536,.string ⟨#[]⟩,.int .i64 1,.int .i64 1,.int .i64 0,.string (str x2),.int .i64 2,.int .i64 (ww:Int),.int .i64 65536,.string ⟨#[]⟩] 30)=uz at *
            refine wpAnyH_all (rs:=[15]) (by kernel_rfl) (by simp) ?_
            intro z hz
            simp only [List.mem_cons,List.not_mem_nil,or_false] at hz
            subst hz
            obtain ⟨A5,c5,w5,hrun,hr5,hb5⟩:=run_eapp 25 HR.out (m:=4) (c2:=4) HN.out rfl (by omega) HB.out.size
            refine wpOp_value rfl rfl (exec_append (s:=.tmp 37) (x:=.tmp 51) (st:=25) rfl rfl rfl hrun) ⟨anyw _,?_⟩
            clear hrun
            refine wpAnyH_all (rs:=[16]) (by kernel_rfl) (by simp) ?_
            intro z hz
            simp only [List.mem_cons,List.not_mem_nil,or_false] at hz
            subst hz
            unfold wpOp
            go_simp
            refine .inl ⟨anyw _,?_⟩
            refine wpAnyH_done (by kernel_rfl) ?_ _
            go_simp
            go_wp2_with fail
            go_meet
            exact ⟨A5,c5,rfl,hr5,HB.out.trans hb5⟩
          · skip
            have hcv:=conv_str (cap:=1) HY.out
            unfold wpOp
            go_simp
            refine .inl ⟨anyw _,?_⟩
            clear hcv
            refine wpAnyH_take (i:=10) (v:=.string (str (kickS ww))) rfl (by kernel_rfl) (by kernel_rfl) (by kernel_rfl) (fun _ _ _ h=>h) (.inl ⟨by kernel_rfl,fun W hW=>?_⟩) (anyw _) ?_
            · have hk:=HKT.out; go_simp; try (first | rfl | omega | (rw [IntKind.wrap_u8]; omega) | (rw [IntKind.wrap_i64]; omega) | (rw [str_size]; show 5+1≤9223372036854775807; decide) | go_num | (intro hh; exfalso; omega))
            refine wpAnyH_all (rs:=[4]) (by kernel_rfl) (by simp) ?_
            intro z hz
            simp only [List.mem_cons,List.not_mem_nil,or_false] at hz
            subst hz
            unfold wpOp
            go_simp
            refine .inl ?_
            refine (HCa.out u17).mono ?_
            rintro r u23 ⟨rfl,hb⟩
            rw [hva.out]
            have HB:=Lib.hid (HB.out.trans (hb.mono HB.out.size))
            have HR:=Lib.hid (HR.out.below hb)
            clear hb
            refine ⟨anyw _,?_⟩
            refine wpAnyH_all (rs:=[11]) (by kernel_rfl) (by simp) ?_
            intro z hz
            simp only [List.mem_cons,List.not_mem_nil,or_false] at hz
            subst hz
            unfold wpOp
            go_simp
            refine .inl ?_
            refine (HCk.out u23).mono ?_
            rintro r u24 ⟨rfl,hb⟩
            rw [hv2.out]
            have HB:=Lib.hid (HB.out.trans (hb.mono HB.out.size))
            have HR:=Lib.hid (HR.out.below hb)
            clear hb
            refine ⟨anyw _,?_⟩
            refine wpAnyH_all (rs:=[13]) (by kernel_rfl) (by simp) ?_
            intro z hz
            simp only [List.mem_cons,List.not_mem_nil,or_false] at hz
            subst hz
            unfold wpOp
            go_simp
            refine .inl ?_
            refine (HCa.out u24).mono ?_
            rintro r u25 ⟨rfl,hb⟩
            rw [hva.out]
            have HB:=Lib.hid (HB.out.trans (hb.mono HB.out.size))
            have HR:=Lib.hid (HR.out.below hb)
            clear hb
            refine ⟨anyw _,?_⟩
            refine wpAnyH_all (rs:=[14]) (by kernel_rfl) (by simp) ?_
            intro z hz
            simp only [List.mem_cons,List.not_mem_nil,or_false] at hz
            subst hz
            unfold wpOp
            go_simp
            refine .inl ⟨anyw _,?_⟩
            have hb:Below u25.heap.size u25 (u25.alloc (.cells #[.int .i64 1,.int .i64 (ww:Int),.int .i64 0,.string (str x1),.int .i64 2,.int .i64 (ww:Int),.int .i64 65536,.string ⟨#[]⟩,.int .i64 1,.int .i64 1,.int .i64 0,.string (str x2),.int .i64 2,.int .i64 (ww:Int),.int .i64 65536,.string ⟨#[]⟩] 30)):=(Below.refl _ _).alloc (Nat.le_refl _) _
            have HN:=Lib.hid (HNew.out u25 HB.out.size)
            have HB:=Lib.hid (HB.out.trans (hb.mono HB.out.size))
            have HR:=Lib.hid (HR.out.below hb)
            clear hb
            generalize u25.alloc (.cells #[.int .i64 1,.int .i64 (ww:Int),.int .i64 0,.string (str x1),.int .i64 2,.int .i64 (ww:Int),.int .i64 65536,.string ⟨#[]⟩,.int .i64 1,.int .i64 1,.int .i64 0,.string (str x2),.int .i64 2,.int .i64 (ww:Int),.int .i64 65536,.string ⟨#[]⟩] 30)=uz at *
            refine wpAnyH_all (rs:=[15]) (by kernel_rfl) (by simp) ?_
            intro z hz
            simp only [List.mem_cons,List.not_mem_nil,or_false] at hz
            subst hz
            obtain ⟨A5,c5,w5,hrun,hr5,hb5⟩:=run_eapp 25 HR.out (m:=4) (c2:=4) HN.out rfl (by omega) HB.out.size
            refine wpOp_value rfl rfl (exec_append (s:=.tmp 37) (x:=.tmp 51) (st:=25) rfl rfl rfl hrun) ⟨anyw _,?_⟩
            clear hrun
            refine wpAnyH_all (rs:=[16]) (by kernel_rfl) (by simp) ?_
            intro z hz
            simp only [List.mem_cons,List.not_mem_nil,or_false] at hz
            subst hz
            unfold wpOp
            go_simp
            refine .inl ⟨anyw _,?_⟩
            refine wpAnyH_done (by kernel_rfl) ?_ _
            go_simp
            go_wp2_with fail
            go_meet
            exact ⟨A5,c5,rfl,hr5,HB.out.trans hb5⟩
        · skip
          have hcv:=conv_str (cap:=1) HY.out
          unfold wpOp
          go_simp
          refine .inl ⟨anyw _,?_⟩
          clear hcv
          refine wpAnyH_take (i:=10) (v:=.string (str (kickS ww))) rfl (by kernel_rfl) (by kernel_rfl) (by kernel_rfl) (fun _ _ _ h=>h) (.inl ⟨by kernel_rfl,fun W hW=>?_⟩) (anyw _) ?_
          · have hk:=HKT.out; go_simp; try (first | rfl | omega | (rw [IntKind.wrap_u8]; omega) | (rw [IntKind.wrap_i64]; omega) | (rw [str_size]; show 5+1≤9223372036854775807; decide) | go_num | (intro hh; exfalso; omega))
          refine wpAnyH_all (rs:=[2]) (by kernel_rfl) (by simp) ?_
          intro z hz
          simp only [List.mem_cons,List.not_mem_nil,or_false] at hz
          subst hz
          unfold wpOp
          go_simp
          refine .inl ?_
          refine (HCf.out u16).mono ?_
          rintro r u27 ⟨rfl,hb⟩
          rw [hv1.out]
          have HB:=Lib.hid (HB.out.trans (hb.mono HB.out.size))
          have HR:=Lib.hid (HR.out.below hb)
          clear hb
          refine ⟨anyw _,?_⟩
          refine wpAnyH_all (rs:=[4]) (by kernel_rfl) (by simp) ?_
          intro z hz
          simp only [List.mem_cons,List.not_mem_nil,or_false] at hz
          subst hz
          unfold wpOp
          go_simp
          refine .inl ?_
          refine (HCa.out u27).mono ?_
          rintro r u28 ⟨rfl,hb⟩
          rw [hva.out]
          have HB:=Lib.hid (HB.out.trans (hb.mono HB.out.size))
          have HR:=Lib.hid (HR.out.below hb)
          clear hb
          refine ⟨anyw _,?_⟩
          refine wpAnyH_all (rs:=[11]) (by kernel_rfl) (by simp) ?_
          intro z hz
          simp only [List.mem_cons,List.not_mem_nil,or_false] at hz
          subst hz
          unfold wpOp
          go_simp
          refine .inl ?_
          refine (HCk.out u28).mono ?_
          rintro r u29 ⟨rfl,hb⟩
          rw [hv2.out]
          have HB:=Lib.hid (HB.out.trans (hb.mono HB.out.size))
          have HR:=Lib.hid (HR.out.below hb)
          clear hb
          refine ⟨anyw _,?_⟩
          refine wpAnyH_all (rs:=[13]) (by kernel_rfl) (by simp) ?_
          intro z hz
          simp only [List.mem_cons,List.not_mem_nil,or_false] at hz
          subst hz
          unfold wpOp
          go_simp
          refine .inl ?_
          refine (HCa.out u29).mono ?_
          rintro r u30 ⟨rfl,hb⟩
          rw [hva.out]
          have HB:=Lib.hid (HB.out.trans (hb.mono HB.out.size))
          have HR:=Lib.hid (HR.out.below hb)
          clear hb
          refine ⟨anyw _,?_⟩
          refine wpAnyH_all (rs:=[14]) (by kernel_rfl) (by simp) ?_
          intro z hz
          simp only [List.mem_cons,List.not_mem_nil,or_false] at hz
          subst hz
          unfold wpOp
          go_simp
          refine .inl ⟨anyw _,?_⟩
          have hb:Below u30.heap.size u30 (u30.alloc (.cells #[.int .i64 1,.int .i64 (ww:Int),.int .i64 0,.string (str x1),.int .i64 2,.int .i64 (ww:Int),.int .i64 65536,.string ⟨#[]⟩,.int .i64 1,.int .i64 1,.int .i64 0,.string (str x2),.int .i64 2,.int .i64 (ww:Int),.int .i64 65536,.string ⟨#[]⟩] 30)):=(Below.refl _ _).alloc (Nat.le_refl _) _
          have HN:=Lib.hid (HNew.out u30 HB.out.size)
          have HB:=Lib.hid (HB.out.trans (hb.mono HB.out.size))
          have HR:=Lib.hid (HR.out.below hb)
          clear hb
          generalize u30.alloc (.cells #[.int .i64 1,.int .i64 (ww:Int),.int .i64 0,.string (str x1),.int .i64 2,.int .i64 (ww:Int),.int .i64 65536,.string ⟨#[]⟩,.int .i64 1,.int .i64 1,.int .i64 0,.string (str x2),.int .i64 2,.int .i64 (ww:Int),.int .i64 65536,.string ⟨#[]⟩] 30)=uz at *
          refine wpAnyH_all (rs:=[15]) (by kernel_rfl) (by simp) ?_
          intro z hz
          simp only [List.mem_cons,List.not_mem_nil,or_false] at hz
          subst hz
          obtain ⟨A5,c5,w5,hrun,hr5,hb5⟩:=run_eapp 25 HR.out (m:=4) (c2:=4) HN.out rfl (by omega) HB.out.size
          refine wpOp_value rfl rfl (exec_append (s:=.tmp 37) (x:=.tmp 51) (st:=25) rfl rfl rfl hrun) ⟨anyw _,?_⟩
          clear hrun
          refine wpAnyH_all (rs:=[16]) (by kernel_rfl) (by simp) ?_
          intro z hz
          simp only [List.mem_cons,List.not_mem_nil,or_false] at hz
          subst hz
          unfold wpOp
          go_simp
          refine .inl ⟨anyw _,?_⟩
          refine wpAnyH_done (by kernel_rfl) ?_ _
          go_simp
          go_wp2_with fail
          go_meet
          exact ⟨A5,c5,rfl,hr5,HB.out.trans hb5⟩
    case rest =>
      obtain ⟨A5,c5,rfl,hr5,hb5⟩:=hcut
      have HR5:=Lib.hid hr5
      have HB5:=Lib.hid hb5
      have HB:=Lib.hid True.intro
      clear hr5 hb5 HR HB HCf HCk HCa HKT HNew hv1 hv2 hva d1
      go_wp2_with fail
      refine (default_any wc).mono ?_
      rintro r w12 ⟨rfl,hb12⟩
      have HB12:=Lib.hid (HB5.out.trans (hb12.mono HB5.out.size))
      obtain ⟨hm2,hm3,hm4⟩:=HM.out
      have hln:(kickL i ++ kick4 ww).length=2 * i+4:=by rw [List.length_append,kickL_len]; rfl
      have hrr:∀ x∈kickL i ++ kick4 ww,Sc.rtE x=true:=fun x hx=>by
        rcases List.mem_append.1 hx with hx | hx
        · exact kickL_right i (by omega) x hx
        · exact kick4_right (by omega) x hx
      have hel:(Sc.evs (kickL i ++ kick4 ww)).length≤262000:=by have:=evs_le hrr; omega
      have hts:tsum (kickL i ++ kick4 ww)≤1000000:=by have:=tsum_le (kickL i ++ kick4 ww); omega
      have HPl:=Lib.hid (show Calls Tryz.prog 16 #[.agg #[.int .i64 4096,.int .i64 512,.int .i64 2048,.int .i64 256,.int .i64 3,.int .i64 100,.int .i64 0,.int .i64 80],.slice A5 (2 * i+4) c5] w12 (PLGives cfd (kickL i ++ kick4 ww) w12) from played_any cfd_rt8 cfd_ok (kickL i ++ kick4 ww) hrr (by omega) hts hel A5 (2 * i+4) c5 w12 (HTI.out.below HB12.out) (HR5.out.below hb12).evin hln)
      have HEV:=Lib.hid (ev_from cfd_ok (kickL i ++ kick4 ww) hts)
      clear hb12 HB5 HR5 hrr hel
      unfold cv
      go_wp2_with fail
      refine HPl.out.mono ?_
      rintro r w13 ⟨g,n0,a,c,rfl,hn0,hls,hrow,_,hb13⟩
      have HN0:=Lib.hid (Nat.le_trans HB12.out.size hn0)
      rw [hln] at hrow ⊢
      obtain ⟨hr1,hr7⟩:=kick_run (m:=i) (w:=ww) hm4 hm2 hm3
      obtain ⟨_,_,_,_,_,z1,z2,z3,z4⟩:=kick_is (kick_at i hm4) hm4 hm2 hm3
      rw [hr1] at hls HEV
      obtain ⟨kb,hkb⟩:∃ kb,kb4 (prun (bnew cfd) (kickL i)) ww=kb:=⟨_,rfl⟩
      rw [hkb] at hls HEV z1 z2 z3 z4
      obtain ⟨bb,off,rfl,hlt,hc⟩:=hrow.otin (by rw [pouts_len,hln]; omega)
      have k8:=(hc (2 * i+3) _ hr7).2
      obtain ⟨xo,hxo⟩:∃ xo,enc (closed 5)=xo:=⟨_,rfl⟩
      rw [hxo] at k8
      have HXo:=Lib.hid hxo
      have HB13:=Lib.hid (HB12.out.trans (hb13.mono HB12.out.size))
      have HLs:=Lib.hid (show LBx n0 g w13 kb from hls.lbx)
      have HZ:=Lib.hid (And.intro z1 (And.intro z2 (And.intro z3 z4)))
      clear hls hrow hb13 hc hxo hr1 hr7 HPl HB12 hts hkb z1 z2 z3 z4
      go_upto_region 14 with fail
      obtain ⟨cy,wy,hcy,hyy,hby,hly,hsy⟩:=conv_tob w13 xo
      have HBy:=Lib.hid (HB13.out.trans (hby.mono HB13.out.size))
      have hxl:xo.length=11:=by rw [← HXo.out,closed_len]
      have hMo:∀ m∈[closed 5],m.ok=true:=fun m hm=>by rw [List.mem_singleton.1 hm]; exact closed_ok5
      have HMs:=Lib.hid (lmessages_any [closed 5] hMo wy (show Bytes wy (w13.heap.size+1) (some ⟨w13.heap.size,0,none⟩) xo.length (encs [closed 5]) from by rw [encs_one,HXo.out]; exact hyy) hsy hly (by omega))
      have HLy:=Lib.hid (HLs.out.below hby)
      clear hyy hby hly hsy hMo HB13 hlt HLs
      go_wp2_with fail
      have HWF:=Lib.hid (show wf64 ((ww:Nat):Int) from wf_id (by omega))
      rw [hxl] at HMs
      refine HMs.out.mono ?_
      rintro r w14 ⟨R,rc,rfl,hrow,hb14⟩
      rw [show ([closed 5]).length=1 from rfl] at hrow ⊢
      have HB14:=Lib.hid (HBy.out.trans (hb14.mono HBy.out.size))
      have HL14:=Lib.hid (HLy.out.below hb14)
      have HRw:=Lib.hid hrow
      clear hrow hb14 HMs HBy HLy k8
      go_wp2_with fail
      refine (lb_role HL14.out HEV.out.ok (ww:Nat) HWF.out).mono ?_
      rintro e w15 ⟨rfl,hl15,hb15⟩
      rw [HZ.out.2.1]
      have HL15:=Lib.hid hl15
      have HB15:=Lib.hid (HB14.out.trans (hb15.mono HB14.out.size))
      have HRw:=Lib.hid (HRw.out.msin.below hb15)
      obtain ⟨mb,mo,rfl,_,hmc⟩:=HRw.out.outer (show 0<1 by decide)
      obtain ⟨a0,a1,a2,a3⟩:=hmc 0 (closed 5) rfl
      replace a0:w15.cell? ⟨mb,mo+0 * 4,none⟩=some (.int .i64 13):=a0
      replace a1:w15.cell? ⟨mb,mo+0 * 4+1,none⟩=some (.int .i64 5):=a1
      replace a2:w15.cell? ⟨mb,mo+0 * 4+2,none⟩=some (.int .i64 0):=a2
      replace a3:w15.cell? ⟨mb,mo+0 * 4+3,none⟩=some (.string ⟨#[]⟩):=a3
      rw [Nat.zero_mul,Nat.add_zero] at a0 a1 a2 a3
      clear hl15 hb15 HL14 HB14 hmc HRw
      go_wp2_with fail
      refine (lb_holder HL15.out HEV.out.ok).mono ?_
      rintro r w16 ⟨rfl,hl16,hb16⟩
      rw [HZ.out.1]
      have HL16:=Lib.hid hl16
      have HB16:=Lib.hid (HB15.out.trans (hb16.mono HB15.out.size))
      clear hl16 hb16 HL15 HB15 a0 a1 a2 a3
      go_wp2_with fail
      refine (lb_users HL16.out HEV.out.ok).mono ?_
      rintro r w17 ⟨au,nu,cu,rfl,hl17,hb17,hnu,_,_⟩
      have hnu1:(nu:Int)=(i:Int) - 1:=by rw [hnu,HZ.out.2.2.1]; omega
      have du:((nu:Int) == (i:Int) - 1)=true:=by simp; omega
      have du2:decide ((nu:Int)=(i:Int) - 1)=true:=decide_eq_true hnu1
      have HL17:=Lib.hid hl17
      have HB17:=Lib.hid (HB16.out.trans (hb17.mono HN0.out))
      clear hl17 hb17 HL16 HB16 hnu
      have HNU:=Lib.hid hnu1
      clear hnu1
      go_wp2_with fail
      refine (lb_conns HL17.out).mono ?_
      rintro r w18 ⟨av,nv,cv,rfl,_,hb18,hnv,_,_⟩
      have hnv1:(nv:Int)=(i:Int) - 1:=by rw [hnv,HZ.out.2.2.2]; omega
      have dv:((nv:Int) == (i:Int) - 1)=true:=by simp; omega
      have dv2:decide ((nv:Int)=(i:Int) - 1)=true:=decide_eq_true hnv1
      have HB18:=Lib.hid (HB17.out.trans (hb18.mono HB17.out.size))
      have HNV:=Lib.hid hnv1
      clear hb18 HL17 HB17 hnv hnv1
      go_wp2
      go_ret
      exact ⟨rfl,HB18.out⟩
theorem w_in:Tryz.checked.prog.inits.idxOf? 10=none:=by kernel_rfl
theorem w_ok (os:Os):Input.okWideB Tryz.prog ((World.doorLaid Tryz.prog 400 os).forCall (fun _ _=>0) ⟨#[],#[.int .i64 0,.int .i64 0],[]⟩) 10 ⟨#[],#[.int .i64 0,.int .i64 0],[]⟩=true:=by kernel_rfl
theorem w_pre (os:Os) (H:Type) (enc:TypeId×Value→H):Rows.wholeKickSpec.preB enc Tryz.prog Tryz.f10 [] false ((World.doorLaid Tryz.prog 400 os).forCall (fun _ _=>0) ⟨#[],#[.int .i64 0,.int .i64 0],[]⟩).memory #[.int .i64 0,.int .i64 0] 8=true:=by kernel_rfl
theorem w_sz (os:Os) (H:Type) (enc:TypeId×Value→H):Rows.wholeKickSpec.sizedB enc Tryz.prog Tryz.f10 false ((World.doorLaid Tryz.prog 400 os).forCall (fun _ _=>0) ⟨#[],#[.int .i64 0,.int .i64 0],[]⟩).memory #[.int .i64 0,.int .i64 0] 8=true:=by kernel_rfl
set_option maxRecDepth 100000 in
theorem lifted (os:Os) (started:os.Started) (H:Type) (enc:TypeId×Value→H) :
  ReturnsInHanded {} Tryz.checked os 10 .any (fun w args=>(Rows.wholeKickSpec.pre enc Tryz.prog Tryz.f10 [] false w args∧laidMetH Tryz.prog laidL w)∧sizedMet enc Tryz.prog Tryz.f10 (OpenSpec.ofChange Rows.wholeKickSpec) false w args)
   (Rows.wholeKickSpec.post enc Tryz.prog Tryz.f10 false true false false):=by
 refine returnsInHanded_of_change_and (C:=Tryz.checked) (X:=fun w _=>laidMetH Tryz.prog laidL w) (fun _ _ _ hh h=>h.of_heap hh) own started w_in Tryz.func10
  (ChangeSpec.witness_shaped (enc:=enc) (C:=Tryz.checked) (os:=os) (X:=fun w _=>laidMetH Tryz.prog laidL w) false (World.doorLaid Tryz.prog 400 os) #[.int .i64 0,.int .i64 0] 8 rfl (door_shaped os _) (w_ok os) (w_pre os H enc) (w_sz os H enc) (door_met os _)) ?_
 intro W base args ds gs before hval0 hW hcnd hsz0 hL _
 have hti:=ti_of hL
 have hval:∀ (j:Nat) t v,Tryz.f10.params[j]?=some t→args[j]?=some v→Value.okWide Tryz.prog W .any base t v:=hval0
 have hW':=hW
 obtain ⟨p,q,hA0,hV,rfl,hfz,hnd⟩:=hW
 have hsz:(DataW.weightsEach Tryz.prog (Tryz.f10.params.toList ++ Rows.wholeKickSpec.plain.varTypes Tryz.prog) (ds ++ gs)).all (·≤reachBytes)=true:=hsz0
 have hA:DataW.TrodAll enc Tryz.prog W 0 (fun _=>true) true Tryz.f10.params.toList args.toList ds p:=hA0
 rw [Tryz.params10] at hA hval hsz
 obtain ⟨v0,vs0,d0,ds0,p0,q0,hargs,rfl,rfl,h0,r0⟩:=trodAll_cons hA
 obtain ⟨v1,vs1,d1,ds1,p1,q1,rfl,rfl,rfl,h1,r1⟩:=trodAll_cons r0
 obtain ⟨rfl,rfl,rfl⟩:=trodAll_nil r1
 obtain rfl:args = #[v0,v1]:=by cases args; simp_all
 obtain ⟨rfl,rfl⟩:=trodVars_none hV
 obtain ⟨a0,rfl,rfl,rfl,w0⟩:=open_int Tryz.underlying3 (hval 0 3 v0 rfl rfl) h0
 obtain ⟨a1,rfl,rfl,rfl,w1⟩:=open_int Tryz.underlying3 (hval 1 3 v1 rfl rfl) h1
 clear hA0 hval0 hsz hsz0
 refine (walk a0 a1 W w0 w1 hti).mono fun e W' ⟨he,bel⟩=>?_
 subst he
 exact ⟨_,rfl,_,_,_,[],_,[],hW',trodAll_mk1 (shut_bool Tryz.underlying4 _),(trodAll_cons_mk (shut_int Tryz.underlying3 w0) (trodAll_cons_mk (shut_int Tryz.underlying3 w1) trodAll_mk0)),rfl,bel.frame _,fun h=>by cases h⟩
theorem q0:(Rows.wholeKickRow.wf (OpenSpec.ofChange Rows.wholeKickSpec))=true:=by kernel_rfl
theorem q3:(Tryz.f10.params.all (Tryz.prog.readableRec ·))=true:=by kernel_rfl
theorem q4:(namedTie Tryz.prog Rows.wholeKickRow.named Rows.wholeKickSpec.vars)=true:=by kernel_rfl
theorem q5:((Rows.wholeKickRow.stops == []))=true:=by kernel_rfl
theorem q7:((Rows.wholeKickRow.knobs == []))=true:=by kernel_rfl
theorem q9:((Rows.wholeKickRow.inPlace == Tryz.prog.inPlace 10))=true:=by kernel_rfl
theorem q10:((Rows.wholeKickRow.unfollowed == Tryz.prog.unfollowed 10))=true:=by kernel_rfl
theorem q11:((Rows.wholeKickRow.recurses == Tryz.prog.recurses 10))=true:=by kernel_rfl
theorem q12:((Rows.wholeKickRow.named == Tryz.prog.varsNamed 10))=true:=by kernel_rfl
theorem q13:((Rows.wholeKickRow.maps == (Tryz.f10.params.toList ++ Rows.wholeKickSpec.plain.varTypes Tryz.prog).any (Tryz.prog.mapsRec ·)))=true:=by kernel_rfl
theorem q14:((Rows.wholeKickRow.ifaces == (Tryz.f10.params.toList ++ Rows.wholeKickSpec.plain.varTypes Tryz.prog).any (Tryz.prog.ifacesRec ·)))=true:=by kernel_rfl
theorem q15:((Rows.wholeKickRow.mapsOut == Tryz.prog.mapsAmong Tryz.f10.resultTypes.toList))=true:=by kernel_rfl
theorem q16:((Rows.wholeKickRow.loops == (Tryz.f10.params.toList ++ Rows.wholeKickSpec.plain.varTypes Tryz.prog).any (Tryz.prog.loopsFrom ·)))=true:=by kernel_rfl
theorem q17:((Rows.wholeKickRow.wideKeys == (Tryz.f10.params.toList ++ Rows.wholeKickSpec.plain.varTypes Tryz.prog ++ Tryz.f10.resultTypes.toList).any (Tryz.prog.wideKeysFrom ·)))=true:=by kernel_rfl
theorem q18:(Rows.wholeKickSpec.vars.all (Tryz.prog.varReadable ·))=true:=by kernel_rfl
theorem q19:(Tryz.f10.resultTypes.all (fun t=>Tryz.prog.readableRec t && decide (t<Tryz.prog.types.size)))=true:=by kernel_rfl
theorem q20:((Rows.wholeKickRow.ifacesOut == Tryz.f10.resultTypes.toList.any (Tryz.prog.ifacesRec ·)))=true:=by kernel_rfl
theorem q21:((Rows.wholeKickRow.loopsOut == Tryz.f10.resultTypes.toList.any (Tryz.prog.loopsFrom ·)))=true:=by kernel_rfl
theorem q22:((Rows.wholeKickRow.plainKeys == Tryz.prog.plainKeys))=true:=(show Rows.wholeKickRow.plainKeys=Rows.wholeTilesRow.plainKeys from rfl) ▸ pq22
theorem q23:(Rows.wholeKickRow.shortTexts.isNone)=true:=by kernel_rfl
theorem q26:((Rows.wholeKickRow.lifted == Tryz.prog.liftsFinal))=true:=(show Rows.wholeKickRow.lifted=Rows.wholeTilesRow.lifted from rfl) ▸ pq26
theorem q27:((Tryz.prog.make == some Rows.wholeKickRow.make))=true:=(show Rows.wholeKickRow.make=Rows.wholeTilesRow.make from rfl) ▸ pq27
theorem q28:kindsAre Tryz.prog Rows.wholeKickRow Tryz.f10=true:=by kernel_rfl
theorem q29:((Rows.wholeKickRow.pinned == Rows.wholeKickRow.pinnedBy))=true:=by kernel_rfl
theorem q30:((Rows.wholeKickRow.veiled == (Tryz.f10.params.toList ++ Rows.wholeKickSpec.plain.varTypes Tryz.prog ++ Tryz.f10.resultTypes.toList).any (Tryz.prog.veiledRec ·)))=true:=by kernel_rfl
theorem q31:(Rows.wholeKickRow.veiledFits Tryz.prog Tryz.f10.params.toList (Tryz.f10.params.toList ++ Rows.wholeKickSpec.plain.varTypes Tryz.prog ++ Tryz.f10.resultTypes.toList))=true:=by kernel_rfl
theorem q_named:Tryz.prog.funcNamed Rows.wholeKickRow.func=some 10:=by kernel_rfl
theorem q_inst:Tryz.f10.isInstance Tryz.prog Rows.wholeKickRow.origin Rows.wholeKickRow.targs:=of_decide_eq_true (by kernel_rfl)
theorem q_wrap:Tryz.f10.isWrapper Tryz.prog Rows.wholeKickRow.wrapper Rows.wholeKickRow.mainSum:=by unfold Func.isWrapper; first | (rw [if_pos (by decide +kernel)]; kernel_rfl) | (rw [if_neg (by decide +kernel)]; exact ⟨rfl,rfl⟩)
set_option maxRecDepth 100000 in
theorem q_all:joinedFacts Tryz.prog 10 Tryz.f10 Rows.wholeKickSpec Rows.wholeKickRow=true:=joined_of (P:=Tryz.prog) (f:=10) (fn:=Tryz.f10) (s:=Rows.wholeKickSpec) (c:=Rows.wholeKickRow) q0 pq1 pq2 q3 q4 q5 pq6 q7 pq8 q9 q10 q11 q12 q13 q14 q15 q16 q17 q18 q19 q20 q21 q22 q23 pq24 pq25 q26 q27 q28 q29 q30 q31
theorem over:Rows.WholeKickSaid:=
 OpenClaim.holds_of_wide 10 Tryz.f10 rfl rfl rfl rfl rfl rfl rfl ⟨rfl,rfl,rfl,rfl,rfl⟩ rfl rfl rfl rfl rfl q_named Tryz.func10 q_all q_inst q_wrap
  (fun os started H enc _=>lifted os started H enc)
theorem c_wf:Rows.wholeKickRow.wfByText (OpenSpec.ofChange Rows.wholeKickSpec)=true:=by kernel_rfl
theorem c_looks:true=Tryz.prog.looks []:=by kernel_rfl
theorem c_stand:([3,3].all fun u=>!Tryz.prog.wantsStandIn u)=true:=by kernel_rfl
theorem c_goes:false=Rows.wholeKickRow.goesBy Tryz.prog:=by kernel_rfl
end Go.Proofs.YtalichkdeekdcaaGreatDoor.wholeKick
namespace Go.Proofs.YtalichkdeekdcaaGreatDoor
theorem wholeKick_holds:Rows.WholeKickCardSaid:=
 Claim7.holds_tied_plain_at (c:=Rows.wholeKickRow) .later [] _ true _ true
  wholeKick.over (fun _ h=>by cases h) wholeKick.c_wf (fun _ h=>by cases h) wholeKick_row_tie rfl ⟨rfl,rfl⟩ main_is rfl
  (fun f fn hf hfn=>by
   obtain rfl:f=10:=Option.some.inj (wholeKick.q_named.symm.trans hf) |>.symm
   obtain rfl:fn=Tryz.f10:=(Option.some.inj (Tryz.func10.symm.trans hfn)).symm
   exact ⟨wholeKick.c_looks,fun j t ht=>by
    rw [Tryz.params10] at ht
    have hm:t∈[3,3]:=by simpa using Array.mem_of_getElem? ht
    exact (show Tryz.prog.wantsStandIn t=false by simpa using List.all_eq_true.1 wholeKick.c_stand t hm)⟩)
  wholeKick.c_goes
#print axioms wholeKick_holds
end Go.Proofs.YtalichkdeekdcaaGreatDoor
