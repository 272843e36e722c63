/- WholeWaits: for every input the law answers true, and its arguments read as before. Conditions: none. -/
import Derived.BigQuiet
import Derived.Test.YtalichkdeekdcaaGreatDoorZd10
import Derived.Test.YtalichkdeekdcaaGreatDoorZd28
import Derived.Test.YtalichkdeekdcaaGreatDoorZd32
import Derived.Test.YtalichkdeekdcaaGreatDoorZd46
import Derived.Test.YtalichkdeekdcaaGreatDoorZd47
import Derived.Test.YtalichkdeekdcaaGreatDoorZd48
namespace Go.Proofs.YtalichkdeekdcaaGreatDoor.wholeWaits
open Go.ChangeShapes Go.WideShapes Go.ChangeAt Go.RowKit
open Fr Bk
set_option maxRecDepth 100000 in
set_option maxHeartbeats 8000000 in
theorem walk (a0:Int) (a1:Int) (a2:Option Addr) (len2 cap2:Nat) (T2:List Sc.Ev) (w:World) (w0:(Lit.int .i64 a0).wf=true) (w1:(Lit.int .i64 a1).wf=true) (w2:EvIn w w.heap.size a2 T2) (g2:T2.length=len2∧len2≤cap2∧cap2≤maxLen) (ht:TI w) :
    Calls Tryz.prog 8 #[.int .i64 a0,.int .i64 a1,.slice a2 len2 cap2] w fun e w'=>e = .returned (.bool true)∧Below w.heap.size w w':=by
  have HTI:=Lib.hid ht
  have hmix:Tryz.prog.follows .mixedOrders=true:=by kernel_rfl
  have HEV:=Lib.hid w2
  have hln:T2.length=len2:=g2.1
  have hlc:len2≤cap2:=g2.2.1
  have h63:len2≤9223372036854775807:=by have:=g2.2.2; unfold maxLen at this; omega
  obtain ⟨p,hp7,hpa⟩:=bits_any a0 7 (by decide)
  obtain ⟨q,hq7,hqa⟩:=bits_any a1 7 (by decide)
  have hand:bits .and .i64 a0 7=(p:Int):=hpa
  have hand2:bits .and .i64 a1 7=(q:Int):=hqa
  have HA0:=Lib.hid w0
  have HA1:=Lib.hid w1
  clear HA0 HA1 ht hpa hqa w0 w1 w2 g2
  obtain ⟨gm,hgm⟩:∃ gm,w.heap.size=gm:=⟨_,rfl⟩
  have HG:=Lib.hid hgm
  rw [hgm] at HEV
  clear hgm
  go_enter Tryz.func8,Tryz.ntmps8
  go_wp2_with fail
  refine (alive_any w HTI.out).mono ?_
  rintro r w1 ⟨rfl,hb1⟩
  have HB1:=Lib.hid (show Below gm w w1 from HG.out ▸ hb1)
  have HS1:=Lib.hid (show gm≤w1.heap.size from by rw [← HG.out]; exact hb1.size)
  clear hb1
  have HF:=Lib.hid (tfew_any a2 len2 cap2 T2 w1 ((HEV.out.below HB1.out).more HS1.out) hln h63)
  go_wp2_with fail
  refine HF.out.mono ?_
  rintro e w2 ⟨f,rfl,hyes,hb2⟩
  have HB2:=Lib.hid (HB1.out.trans (hb2.mono HS1.out))
  have HS2:=Lib.hid (Nat.le_trans HS1.out hb2.size)
  clear hb2 HB1 HS1 HF
  rcases f with _ | _
  · go_wp2
    go_ret
    exact ⟨rfl,by rw [HG.out]; exact HB2.out⟩
  obtain ⟨hev,h120,h6⟩:=hyes rfl
  have HRt:=Lib.hid hev
  clear hyes hev h6
  go_wp2_with fail
  refine (default_any w2).mono ?_
  rintro r w3 ⟨rfl,hb3⟩
  have HB3:=Lib.hid (HB2.out.trans (hb3.mono HS2.out))
  have HS3:=Lib.hid (Nat.le_trans HS2.out hb3.size)
  clear hb3 HB2 HS2
  unfold cv
  go_upto_region 6 with fail
  have hx4:=Bx.new w3 _ rfl #[.int .i64 4096,.int .i64 512,.int .i64 2048,.int .i64 256,.int .i64 3,.int .i64 100,.int .i64 0,.int .i64 80] 23
  have hb4:Below w3.heap.size w3 (w3.alloc (.cells #[.int .i64 4096,.int .i64 512,.int .i64 2048,.int .i64 256,.int .i64 3,.int .i64 100,.int .i64 0,.int .i64 80] 23)):=(Below.refl _ _).alloc (Nat.le_refl _) _
  generalize w3.alloc (.cells #[.int .i64 4096,.int .i64 512,.int .i64 2048,.int .i64 256,.int .i64 3,.int .i64 100,.int .i64 0,.int .i64 80] 23)=w4 at *
  obtain ⟨gc,hgc⟩:∃ gc,w3.heap.size=gc:=⟨_,rfl⟩
  rw [hgc] at hx4 hb4 ⊢
  have hS3:gm≤gc:=by rw [← hgc]; exact HS3.out
  have HB4:=Lib.hid (HB3.out.trans (hb4.mono hS3))
  obtain ⟨l,hl⟩:∃ l:Nat,1+p=l:=⟨_,rfl⟩
  obtain ⟨us,hus⟩:∃ us:Nat,2+q=us:=⟨_,rfl⟩
  have e1:(1:Int)+(p:Int)=(l:Int):=by omega
  have e2:(2:Int)+(q:Int)=(us:Int):=by omega
  have HM:=Lib.hid (show 1≤l∧l≤8∧2≤us∧us≤9 by omega)
  have f5:=hx4.free 5
  have f2:=hx4.free 2
  have c5:=hx4.cell 5 (.int .i64 100) rfl
  have c2:=hx4.cell 2 (.int .i64 2048) rfl
  have hx5:=(hx4.set 5 (.int .i64 (l:Int))).set 2 (.int .i64 60000)
  have hb5:Below gm w ((w4.setCell ⟨gc,5,none⟩ (.int .i64 (l:Int))).setCell ⟨gc,2,none⟩ (.int .i64 60000)):=(HB4.out.setCell (p:=⟨gc,5,none⟩) hS3 _).setCell (p:=⟨gc,2,none⟩) hS3 _
  have HX5:=Lib.hid (show Bx gc ((w4.setCell ⟨gc,5,none⟩ (.int .i64 (l:Int))).setCell ⟨gc,2,none⟩ (.int .i64 60000)) #[.int .i64 4096,.int .i64 512,.int .i64 60000,.int .i64 256,.int .i64 3,.int .i64 (l:Int),.int .i64 0,.int .i64 80] from hx5)
  have HB5:=Lib.hid hb5
  clear hgc hx4 hb4 hx5 hb5 HB3 HS3 HB4
  go_upto_region 9 with fail
  generalize World.setCell _ _ _=w5 at *
  clear f5 f2 c5 c2 e1 e2 hl hus hand hand2 hp7 hq7
  have hgw:gc<w5.heap.size:=HX5.out.room
  have HX6:=Lib.hid (HX5.out.go ((Below.refl _ w5).alloc (Nat.le_refl _) (.cells #[] 30)) hgw)
  have HB6:=Lib.hid (HB5.out.trans (((Below.refl w5.heap.size w5).alloc (Nat.le_refl _) (.cells #[] 30)).mono (by omega)))
  have HR6:=Lib.hid (show EvRow (gc+1) (w5.alloc (.cells #[] 30)) (some ⟨w5.heap.size,0,none⟩) (3 * 0) 0 (askL 0) from EvRow.empty w5 (by omega))
  go_upto_region 10 with fail
  generalize w5.alloc (.cells #[] 30)=w6 at *
  obtain ⟨A6,hA6⟩:∃ A,(some ⟨w5.heap.size,0,none⟩:Option Addr)=A:=⟨_,rfl⟩
  rw [hA6] at HR6 ⊢
  clear hA6 HB5 HX5 hgw
  have hus9:=HM.out.2.2.2
  have hus2:=HM.out.2.2.1
  go_upto_region 11 with fail
  go_loopw [8,9] (fun s8 s9 wr=>∃ (i c:Nat) (A:Option Addr),s9 = .int .i64 ((i:Int)+1)∧s8 = .slice A (3 * i) c∧i≤us∧EvRow (gc+1) wr A (3 * i) c (askL i)∧Bx gc wr #[.int .i64 4096,.int .i64 512,.int .i64 60000,.int .i64 256,.int .i64 3,.int .i64 (l:Int),.int .i64 0,.int .i64 80]∧Below gm w wr) (fun _ s _=>us+1 - (intOf s).toNat)
  case atStart=>exact ⟨0,0,A6,rfl,rfl,Nat.zero_le _,HR6.out,HX6.out,HB6.out⟩
  case round =>
    obtain ⟨i,c,A,rfl,rfl,hi,hr,hx,hb⟩:=hrel
    have HR:=Lib.hid hr
    have HX:=Lib.hid hx
    have HB:=Lib.hid hb
    have hgr:gc<wr.heap.size:=hx.room
    clear hr hx hb HR6 HX6 HB6
    by_cases him:i<us
    · have d1:decide ((i:Int)+1≤(us:Int))=true:=decide_eq_true (by omega)
      have HC:=Lib.hid (comes_any ((i:Int)+1) true 0 (by decide) (by decide) wr)
      go_wp2_with fail
      refine HC.out.mono ?_
      rintro r w7 ⟨A3,c3,rfl,hr3,hb3⟩
      have HX7:=Lib.hid (HX.out.go hb3 hgr)
      have HB7:=Lib.hid (HB.out.trans (hb3.mono (by omega)))
      have HR7:=Lib.hid (HR.out.below hb3)
      have HN7:=Lib.hid hr3.evin
      have hz7:gc+1≤w7.heap.size:=by have:=hb3.size; omega
      clear hr3 hb3 HC HB HR HX
      go_wp2_with (first
        | (at_builtin
           refine wpList_eapp rfl (.tmp 41) (.tmp 43) rfl rfl HR7.out rfl HN7.out rfl (by omega) hz7 ?_
           intro A4 c4 w8 hr4 hb4
           have HR8:=Lib.hid (show EvRow (gc+1) w8 A4 (3 * i+2) c4 (askL i ++ comesL ((i:Int)+1) true 0) from hr4)
           have HX8:=Lib.hid (HX7.out.go hb4 (Nat.lt_succ_self gc))
           have HB8:=Lib.hid (HB7.out.trans (hb4.mono (by omega)))
           have hz8:gc+1≤w8.heap.size:=Nat.le_trans hz7 hb4.size
           clear hr4 hb4 HR7 HN7 HB7 HX7 hz7
           go_wp2_with fail))
      obtain ⟨x1,hx1⟩:∃ x1,enc (keys 1 (esc wFloor))=x1:=⟨_,rfl⟩
      have hv1:=Lib.hid (show evv (cmdE ((i:Int)+1) wFloor) = .agg #[.int .i64 1,.int .i64 ((i:Int)+1),.int .i64 0,.string (str x1)] by rw [← hx1]; rfl)
      have HCm:=Lib.hid (show Calls Tryz.prog 20 #[.int .i64 ((i:Int)+1),.string ⟨#[102,108,111,111,114]⟩] w8 fun r w'=>r = .returned (evv (cmdE ((i:Int)+1) wFloor))∧Below w8.heap.size w8 w' from command_any ((i:Int)+1) wFloor (by decide) w8)
      have HEo:=Lib.hid (show ∀ W:World,EvIn (W.alloc (.cells #[.int .i64 1,.int .i64 ((i:Int)+1),.int .i64 0,.string (str x1)] 30)) (W.heap.size+1) (some ⟨W.heap.size,0,none⟩) [cmdE ((i:Int)+1) wFloor] from fun W=>by
        rw [← hx1]
        exact ev_one W (cmdE ((i:Int)+1) wFloor) (by show (enc (keys 1 (esc wFloor))).length≤maxLen; rw [enc_len5]; decide) _)
      clear hx1
      refine HCm.out.mono ?_
      rintro r w9 ⟨rfl,hb9⟩
      rw [hv1.out]
      have HX9:=Lib.hid (HX8.out.go hb9 (by omega))
      have HB9:=Lib.hid (HB8.out.trans (hb9.mono (by omega)))
      have HR9:=Lib.hid (HR8.out.below hb9)
      have hz9:gc+1≤w9.heap.size:=by have:=hb9.size; omega
      have hba:Below w9.heap.size w9 (w9.alloc (.cells #[.int .i64 1,.int .i64 ((i:Int)+1),.int .i64 0,.string (str x1)] 30)):=(Below.refl _ _).alloc (Nat.le_refl _) _
      have HXa:=Lib.hid (HX9.out.go hba (by omega))
      have HBa:=Lib.hid (HB9.out.trans (hba.mono (by omega)))
      have HRa:=Lib.hid (HR9.out.below hba)
      have HNa:=Lib.hid (HEo.out w9)
      have hza:gc+1≤(w9.alloc (.cells #[.int .i64 1,.int .i64 ((i:Int)+1),.int .i64 0,.string (str x1)] 30)).heap.size:=by simp; omega
      clear hb9 hba HCm HEo HX8 HB8 HR8 HX9 HB9 HR9 hv1 hz8 hz9
      go_wp2_with (first
        | (at_builtin
           refine wpList_eapp rfl (.tmp 45) (.tmp 48) rfl rfl HRa.out rfl HNa.out rfl (by omega) hza ?_
           intro A5 c5 wb hr5 hb5
           have HRb:=Lib.hid (show EvRow (gc+1) wb A5 (3 * (i+1)) c5 (askL (i+1)) from hr5)
           have HXb:=Lib.hid (HXa.out.go hb5 (Nat.lt_succ_self gc))
           have HBb:=Lib.hid (HBa.out.trans (hb5.mono (by omega)))
           clear hr5 hb5 HRa HXa HBa HNa hza
           go_wp2_with fail))
      go_roundw
      case rel=>exact ⟨i+1,c5,A5,by go_num,rfl,by omega,HRb.out,HXb.out,HBb.out⟩
      case measure=>simp [intOf]; omega
    obtain rfl:i=us:=by omega
    have d1:decide ((i:Int)+1≤(i:Int))=false:=decide_eq_false (by omega)
    have z0:=HX.out.cell 0 (.int .i64 4096) rfl
    have z1:=HX.out.cell 1 (.int .i64 512) rfl
    have z2:=HX.out.cell 2 (.int .i64 60000) rfl
    have z3:=HX.out.cell 3 (.int .i64 256) rfl
    have z4:=HX.out.cell 4 (.int .i64 3) rfl
    have z5:=HX.out.cell 5 (.int .i64 (l:Int)) rfl
    have z6:=HX.out.cell 6 (.int .i64 0) rfl
    have z7:=HX.out.cell 7 (.int .i64 80) rfl
    have hl1:=HM.out.1
    have hl8:=HM.out.2.1
    have HCF:=Lib.hid (And.intro (cfW_rt8 hl1 hl8) (cfW_ev l))
    have hlen:=askL_len i
    have hrr:=askL_right i hus9
    have hel:(Sc.evs (askL i)).length≤262000:=by have:=evs_le hrr; omega
    have hts:tsum (askL i)≤1000000:=by have:=tsum_le (askL i); omega
    have hgr0:gm≤wr.heap.size:=by omega
    have HPl:=Lib.hid (show Calls Tryz.prog 16 #[.agg #[.int .i64 4096,.int .i64 512,.int .i64 60000,.int .i64 256,.int .i64 3,.int .i64 (l:Int),.int .i64 0,.int .i64 80],.slice A (3 * i) c] wr (PLGives (cfW l) (askL i) wr) from played_any HCF.out.1 HCF.out.2 (askL i) hrr (by omega) hts hel A (3 * i) c wr (HTI.out.below (by rw [HG.out]; exact HB.out)) HR.out.evin hlen)
    have HAs:=Lib.hid (AskAt.turn (ask_at hl1 hl8 i hus9) (by omega) hus9 (by omega))
    have HAl:=Lib.hid ((ask_at hl1 hl8 i hus9).len)
    clear hrr hel hts
    go_wp2_with fail
    refine HPl.out.mono ?_
    rintro r w13 ⟨g,n0,a,c13,rfl,hn0,hls,_,_,hb13⟩
    have hX13:=HX.out.go hb13 hgr
    have hB13:=HB.out.trans (hb13.mono hgr0)
    have HN0:=Lib.hid (Nat.le_trans hgr0 hn0)
    have hgn0:gc<n0:=by omega
    have HL13:=Lib.hid (show LBx n0 g w13 (prun (bnew (cfW l)) (askL i)) from hls.lbx)
    have HX13:=Lib.hid hX13
    have HB13:=Lib.hid hB13
    obtain ⟨hg13,hng⟩:=hls.lt
    clear hX13 hB13 hls hb13 HPl HX HB HR hn0 z0 z1 z2 z3 z4 z5 z6 z7
    have hba:Below w13.heap.size w13 (w13.alloc (.cells #[] 30)):=(Below.refl _ _).alloc (Nat.le_refl _) _
    obtain ⟨N,hN⟩:∃ N,w13.heap.size=N:=⟨_,rfl⟩
    have HR14:=Lib.hid (show EvRow N (w13.alloc (.cells #[] 30)) (some ⟨w13.heap.size,0,none⟩) 0 0 (noiseL (T2.take 0)) from EvRow.empty w13 (by omega))
    have HX14:=Lib.hid (HX13.out.go hba (by omega))
    have HB14:=Lib.hid (HB13.out.trans (hba.mono (by omega)))
    have HL14:=Lib.hid (show LS n0 (In (some ⟨w13.heap.size,0,none⟩)) g (w13.alloc (.cells #[] 30)) (prun (bnew (cfW l)) (askL i)) from HL13.out.ls hba (fun x hx=>by obtain ⟨p,hp,hx⟩:=hx; injection hp with hp; subst hp; subst hx; exact ⟨Nat.le_refl _,by simp⟩))
    clear hba HX13 HB13 HL13
    go_upto_region 19 with fail
    generalize w13.alloc (.cells #[] 30)=w14 at *
    rw [hN] at HR14 HL14 hg13
    have hS14:N≤w14.heap.size:=by have:=HR14.out.lt (p:=⟨N,0,none⟩) rfl; show N≤_; have h2:N<w14.heap.size:=this.2; omega
    obtain ⟨A14,hA14⟩:∃ A,(some ⟨N,0,none⟩:Option Addr)=A:=⟨_,rfl⟩
    rw [hA14] at HR14 HL14 ⊢
    clear hA14 hN
    obtain ⟨b0,hb0⟩:∃ b0,prun (bnew (cfW l)) (askL i)=b0:=⟨_,rfl⟩
    rw [hb0] at HL14 HAs HAl
    have HB0:=Lib.hid hb0
    clear hb0
    have hgmN:gm≤N:=by have:=HN0.out; omega
    go_wp2_with fail
    go_loopw [13,62] (fun s13 s62 wr=>∃ (j k c:Nat) (A:Option Addr),s13 = .slice A k c∧s62 = .int .i64 (j:Nat)∧j≤len2∧EvRow N wr A k c (noiseL (T2.take j))∧LS n0 (In A) g wr b0∧Bx gc wr #[.int .i64 4096,.int .i64 512,.int .i64 60000,.int .i64 256,.int .i64 3,.int .i64 (l:Int),.int .i64 0,.int .i64 80]∧Below gm w wr∧N≤wr.heap.size) (fun _ s _=>len2 - (intOf s).toNat)
    case atStart=>exact ⟨0,0,0,A14,rfl,rfl,Nat.zero_le _,HR14.out,HL14.out,HX14.out,HB14.out,hS14⟩
    case round =>
      obtain ⟨j,k,c,A,rfl,rfl,hj,hr,hls,hx,hb,hNr⟩:=hrel
      have HR:=Lib.hid hr
      have HLS:=Lib.hid hls
      have HX:=Lib.hid hx
      have HB:=Lib.hid hb
      have hkl:=hr.len
      have hk120:k≤120:=by have h1:=noise_len (T2.take j); rw [List.length_take] at h1; omega
      clear hr hls hx hb HR14 HL14 HX14 HB14
      by_cases hjl:j<len2
      rotate_left
      · obtain rfl:j=len2:=by omega
        have dj:decide ((j:Int)<(j:Int))=false:=by simp
        rw [show T2.take j=T2 from List.take_of_length_le (by omega)] at HR hkl
        obtain ⟨NL,hNL⟩:∃ NL,noiseL T2=NL:=⟨_,rfl⟩
        rw [hNL] at HR hkl
        have HNI:=Lib.hid (show ∀ (m:Nat) (e:Sc.Ev),NL[m]?=some e→isNoise e=true from fun m e h=>noise_in (by rw [hNL]; exact h))
        have HRow:=Lib.hid HR.out
        clear hNL HEV HRt
        go_wp2_with fail
        go_loopw [16,17] (fun s16 s17 wr=>∃ (m h:Nat) (M:List Sc.Ev),s16 = .int .i64 (m:Nat)∧s17 = .int .i64 ((h:Int)+1)∧h≤i∧m≤k∧M.length≤27+16 * h∧LS n0 (In A) g wr (prun (bnew (cfW l)) M)∧Hid ((prun (bnew (cfW l)) M).fl.roles.length=i∧(h<i→Turn l i (h+1) 0 (prun (bnew (cfW l)) M).fl)∧(h=i→fhold (prun (bnew (cfW l)) M).fl=i))∧EvRow N wr A k c NL∧Bx gc wr #[.int .i64 4096,.int .i64 512,.int .i64 60000,.int .i64 256,.int .i64 3,.int .i64 (l:Int),.int .i64 0,.int .i64 80]∧Below gm w wr) (fun _ s _=>i+1 - (intOf s).toNat)
        case atStart=>exact ⟨0,0,askL i,rfl,rfl,by omega,by omega,by rw [hlen]; omega,by rw [HB0.out]; exact HLS.out,Lib.hid ⟨by rw [HB0.out]; exact HAl.out,fun _=>by rw [HB0.out]; exact HAs.out.2 HAl.out,fun h=>by omega⟩,HRow.out,HX.out,HB.out⟩
        case round =>
          obtain ⟨m,h,M,rfl,rfl,hh,hm,hM,hls,HTu,hr,hx,hb⟩:=hrel
          have HL:=Lib.hid hls
          have HRw:=Lib.hid hr
          have HXw:=Lib.hid hx
          have HBw:=Lib.hid hb
          clear hls hr hx hb HLS HRow HX HB HR
          by_cases hhi:h<i
          rotate_left
          · obtain rfl:h=i:=by omega
            have dh:decide ((h:Int)+1≤(h:Int))=false:=decide_eq_false (by omega)
            have hev:=run_ok HCF.out.2 M (by omega)
            have HH:=Lib.hid (lb_holder HL.out.lbx hev)
            have hf:=HTu.out.2.2 rfl
            rw [hf] at HH
            have dq:((h:Int) == (h:Int))=true:=by simp
            have dq2:decide ((h:Int)=(h:Int))=true:=by simp
            clear hev hf HTu
            go_wp2_with fail
            refine HH.out.mono ?_
            rintro r w20 ⟨rfl,_,hb20⟩
            have HB20:=Lib.hid (HBw.out.trans (hb20.mono (by rw [← HG.out]; exact HBw.out.size)))
            clear hb20
            go_wp2
            go_ret
            exact ⟨rfl,by rw [HG.out]; exact HB20.out⟩
          have dh:decide ((h:Int)+1≤(i:Int))=true:=decide_eq_true (by omega)
          have hTi:=HTu.out.2.1 hhi
          have hTl:=HTu.out.1
          have HTi:=Lib.hid (And.intro hTl hTi)
          clear hTi hTl HTu
          go_wp2_with fail
          go_loopw [16,18] (fun s16 s18 wr=>∃ (m t:Nat) (M:List Sc.Ev),s16 = .int .i64 (m:Nat)∧s18 = .int .i64 (t:Nat)∧t≤l∧m≤k∧M.length≤27+16 * h+2 * t∧LS n0 (In A) g wr (prun (bnew (cfW l)) M)∧Hid ((prun (bnew (cfW l)) M).fl.roles.length=i∧Turn l i (h+1) t (prun (bnew (cfW l)) M).fl)∧EvRow N wr A k c NL∧Bx gc wr #[.int .i64 4096,.int .i64 512,.int .i64 60000,.int .i64 256,.int .i64 3,.int .i64 (l:Int),.int .i64 0,.int .i64 80]∧Below gm w wr) (fun _ s _=>l - (intOf s).toNat)
          case atStart=>exact ⟨m,0,M,rfl,rfl,by omega,hm,by omega,HL.out,HTi,HRw.out,HXw.out,HBw.out⟩
          case round =>
            clear HL HTi HRw HXw HBw hM hm
            obtain ⟨m,t,M,rfl,rfl,ht,hm,hM,hls,HTu,hr,hx,hb⟩:=hrel
            have HL:=Lib.hid hls
            have HRw:=Lib.hid hr
            have HXw:=Lib.hid hx
            have HBw:=Lib.hid hb
            have hgw:gm≤wr.heap.size:=by rw [← HG.out]; exact hb.size
            have z5:=hx.cell 5 (.int .i64 (l:Int)) rfl
            clear hls hr hx hb
            by_cases htl:t<l
            rotate_left
            · obtain rfl:t=l:=by omega
              have dt:decide ((t:Int)<(t:Int))=false:=by simp
              have hTl:=HTu.out.1
              have hTk:=HTu.out.2
              have HTo:=Lib.hid (show (prun (bnew (cfW t)) M).fl.roles.length=i∧(h+1<i→Turn t i (h+1+1) 0 (prun (bnew (cfW t)) M).fl)∧(h+1=i→fhold (prun (bnew (cfW t)) M).fl=i) from ⟨hTl,fun h2=>hTk.next (by omega) h2,fun h2=>by rw [h2] at hTk; exact hTk.last⟩)
              clear hTl hTk HTu
              go_wp2
              go_roundw
              case rel=>exact ⟨m,h+1,M,rfl,by go_num,by omega,hm,by omega,HL.out,HTo,HRw.out,HXw.out,HBw.out⟩
              case measure=>simp [intOf]; omega
            have dt:decide ((t:Int)<(l:Int))=true:=decide_eq_true (by omega)
            have hev:=run_ok HCF.out.2 M (by omega)
            have HH:=Lib.hid (lb_holder HL.out.lbx hev)
            have hf:fhold (prun (bnew (cfW l)) M).fl=(h:Int)+1:=HTu.out.2.hold htl
            rw [hf] at HH
            have dne:((h:Int)+1 != (h:Int)+1)=false:=by simp
            have HLn0:=Lib.hid (show Bk.Ln i (Turn l i (h+1) t) (prun (bnew (cfW l)) M) from ⟨Nat.le_of_eq HTu.out.1,fun _=>HTu.out.2⟩)
            clear hev hf HTu
            go_wp2_with fail
            refine HH.out.mono ?_
            rintro r w20 ⟨rfl,_,hb20⟩
            have HL20:=Lib.hid (HL.out.quiet (only_of_below hb20))
            have HR20:=Lib.hid (HRw.out.below hb20)
            have HX20:=Lib.hid (HXw.out.go hb20 HXw.out.room)
            have HB20:=Lib.hid (HBw.out.trans (hb20.mono hgw))
            clear hb20 HL HRw HXw HBw HH z5
            by_cases hmk:m<k
            · have dmk:decide ((m:Int)<(k:Int))=true:=decide_eq_true (by omega)
              obtain ⟨e,he⟩:∃ e,NL[m]?=some e:=⟨_,List.getElem?_eq_getElem (by omega)⟩
              have hise:=HNI.out m e he
              obtain ⟨bb,off,rfl,hbB,hc⟩:=HR20.out.evin.outer (by omega)
              obtain ⟨hc0,hc1,hc2,hc3⟩:=hc m e he
              have HDo:=Lib.hid (run_pdoS HCF.out.2 M (by omega) HL20.out e)
              have HLn:=Lib.hid (show Bk.Ln i (Turn l i (h+1) t) (prun (bnew (cfW l)) (M ++ [e])) from by
                rw [prun_app]
                exact Bk.Ln.noise HLn0.out hise)
              clear hc he hise HLn0
              go_wp2_with fail
              refine HDo.out.mono ?_
              rintro r w21 ⟨rfl,hl21,hO21⟩
              have hg20:gm≤w20.heap.size:=by rw [← HG.out]; exact HB20.out.size
              have HL21:=Lib.hid hl21
              have HR21:=Lib.hid (HR20.out.only hO21 (fun p hp hx=>hx.2 ⟨p,hp,rfl⟩))
              have HX21:=Lib.hid (HX20.out.keep hO21 (fun hx=>by have:=hx.1; omega))
              have HB21:=Lib.hid (HB20.out.trans (hO21.below (B:=gm) hg20 (fun y hy hx=>by have:=hx.1; have:=HN0.out; omega)))
              have hM2l:(M ++ [e]).length≤27+16 * h+2 * t+1:=by rw [List.length_append]; show M.length+1≤_; omega
              obtain ⟨M2,hM2⟩:∃ M2,M ++ [e]=M2:=⟨_,rfl⟩
              rw [hM2] at HL21 HLn hM2l
              clear hl21 hO21 HDo HL20 HR20 HX20 HB20 hM2 hc0 hc1 hc2 hc3
              have hev:=run_ok HCF.out.2 M2 (by omega)
              have HRo:=Lib.hid (lb_role HL21.out.lbx hev ((h:Int)+1) (show wf64 ((h:Int)+1) from wf_id (k:=h+1) (by omega)))
              clear hev
              go_wp2_with fail
              refine HRo.out.mono ?_
              rintro r w22 ⟨rfl,_,hb22⟩
              have hg22:gm≤w21.heap.size:=by rw [← HG.out]; exact HB21.out.size
              have HL22:=Lib.hid (HL21.out.quiet (only_of_below hb22))
              have HR22:=Lib.hid (HR21.out.below hb22)
              have HX22:=Lib.hid (HX21.out.go hb22 HX21.out.room)
              have HB22:=Lib.hid (HB21.out.trans (hb22.mono hg22))
              clear hb22 HL21 HR21 HX21 HB21 HRo hg22
              obtain ⟨qr,hqr⟩:∃ qr,rhas (prun (bnew (cfW l)) M2).fl.roles ((h:Int)+1)=qr:=⟨_,rfl⟩
              obtain ⟨ro,hro⟩:∃ ro,rrole (prun (bnew (cfW l)) M2).fl.roles ((h:Int)+1)=ro:=⟨_,rfl⟩
              rw [hqr,hro]
              clear hqr hro
              cases qr
              · go_wp2
                go_ret
                exact ⟨rfl,by rw [HG.out]; exact HB22.out⟩
              have HDt:=Lib.hid (show Calls Tryz.prog 27 #[.pointer (some (at0 g)),.agg #[.int .i64 5,.int .i64 0,.int .i64 0,.string ⟨#[]⟩]] w22 (fun r w'=>r = .returned (.agg #[.int .i64 (pE (prun (bnew (cfW l)) M2) ticE:Nat),.string (str (pT (prun (bnew (cfW l)) M2) ticE))])∧LS n0 (In (some ⟨bb,off,none⟩)) g w' (prun (bnew (cfW l)) (M2 ++ [ticE]))∧Only (fun x=>n0≤x∧¬ In (some ⟨bb,off,none⟩) x) w22 w') from run_pdoS HCF.out.2 M2 (by omega) HL22.out ticE)
              go_wp2_with fail
              refine HDt.out.mono ?_
              rintro r w23 ⟨rfl,hl23,hO23⟩
              have hg22:gm≤w22.heap.size:=by rw [← HG.out]; exact HB22.out.size
              have HL23:=Lib.hid hl23
              have HR23:=Lib.hid (HR22.out.only hO23 (fun p hp hx=>hx.2 ⟨p,hp,rfl⟩))
              have HX23:=Lib.hid (HX22.out.keep hO23 (fun hx=>by have:=hx.1; omega))
              have HB23:=Lib.hid (HB22.out.trans (hO23.below (B:=gm) hg22 (fun y hy hx=>by have:=hx.1; have:=HN0.out; omega)))
              have HLt:=Lib.hid (show Bk.Ln i (Turn l i (h+1) (t+1)) (prun (bnew (cfW l)) (M2 ++ [ticE])) from by
                rw [prun_app]
                exact Ln.tick HLn.out (fun s hs=>hs.tick htl (by omega)))
              have hM3:(M2 ++ [ticE]).length≤27+16 * h+2 * (t+1):=by rw [List.length_append]; show M2.length+1≤_; omega
              obtain ⟨M3,hM3e⟩:∃ M3,M2 ++ [ticE]=M3:=⟨_,rfl⟩
              rw [hM3e] at HL23 HLt hM3
              clear hl23 hO23 HDt HL22 HR22 HX22 HB22 HLn hM3e
              have hev:=run_ok HCF.out.2 M3 (by omega)
              have HUs:=Lib.hid (ls_users HL23.out hev)
              clear hev
              go_wp2_with fail
              refine HUs.out.mono ?_
              rintro r w24 ⟨au,nu,cu,rfl,hl24,hO24,hnu⟩
              have hg23:gm≤w23.heap.size:=by rw [← HG.out]; exact HB23.out.size
              have HL24:=Lib.hid hl24
              have HR24:=Lib.hid (HR23.out.only hO24 (fun p hp hx=>hx.2 ⟨p,hp,rfl⟩))
              have HX24:=Lib.hid (HX23.out.keep hO24 (fun hx=>by have:=hx.1; omega))
              have HB24:=Lib.hid (HB23.out.trans (hO24.below (B:=gm) hg23 (fun y hy hx=>by have:=hx.1; have:=HN0.out; omega)))
              clear hl24 hO24 HUs HL23 HR23 HX23 HB23
              by_cases hni:nu=i
              · have HTn:=Lib.hid (show (prun (bnew (cfW l)) M3).fl.roles.length=i∧Turn l i (h+1) (t+1) (prun (bnew (cfW l)) M3).fl from ⟨by rw [← hnu]; exact hni,HLt.out.2 (by rw [← hnu]; exact hni)⟩)
                clear HLt hnu
                have dni:((nu:Int) != (i:Int))=false:=by simp [hni]
                go_wp2_with fail
                go_roundw
                case rel=>exact ⟨m+1,t+1,M3,by go_num,by go_num,by omega,by omega,hM3,HL24.out,HTn,HR24.out,HX24.out,HB24.out⟩
                case measure=>simp [intOf]; omega
              · have dni:((nu:Int) != (i:Int))=true:=by simp; omega
                clear HLt hnu
                go_wp2
                go_ret
                exact ⟨rfl,by rw [HG.out]; exact HB24.out⟩
            have dmk:decide ((m:Int)<(k:Int))=false:=decide_eq_false (by omega)
            have hM2l:M.length≤27+16 * h+2 * t+1:=by omega
            obtain ⟨M2,hM2⟩:∃ M2,M=M2:=⟨_,rfl⟩
            rw [hM2] at HL20 HLn0 hM2l
            have HLn:=HLn0
            clear hM2 HLn0
            have hev:=run_ok HCF.out.2 M2 (by omega)
            have HRo:=Lib.hid (lb_role HL20.out.lbx hev ((h:Int)+1) (show wf64 ((h:Int)+1) from wf_id (k:=h+1) (by omega)))
            clear hev
            go_wp2_with fail
            refine HRo.out.mono ?_
            rintro r w22 ⟨rfl,_,hb22⟩
            have hg22:gm≤w20.heap.size:=by rw [← HG.out]; exact HB20.out.size
            have HL22:=Lib.hid (HL20.out.quiet (only_of_below hb22))
            have HR22:=Lib.hid (HR20.out.below hb22)
            have HX22:=Lib.hid (HX20.out.go hb22 HX20.out.room)
            have HB22:=Lib.hid (HB20.out.trans (hb22.mono hg22))
            clear hb22 HL20 HR20 HX20 HB20 HRo hg22
            obtain ⟨qr,hqr⟩:∃ qr,rhas (prun (bnew (cfW l)) M2).fl.roles ((h:Int)+1)=qr:=⟨_,rfl⟩
            obtain ⟨ro,hro⟩:∃ ro,rrole (prun (bnew (cfW l)) M2).fl.roles ((h:Int)+1)=ro:=⟨_,rfl⟩
            rw [hqr,hro]
            clear hqr hro
            cases qr
            · go_wp2
              go_ret
              exact ⟨rfl,by rw [HG.out]; exact HB22.out⟩
            have HDt:=Lib.hid (show Calls Tryz.prog 27 #[.pointer (some (at0 g)),.agg #[.int .i64 5,.int .i64 0,.int .i64 0,.string ⟨#[]⟩]] w22 (fun r w'=>r = .returned (.agg #[.int .i64 (pE (prun (bnew (cfW l)) M2) ticE:Nat),.string (str (pT (prun (bnew (cfW l)) M2) ticE))])∧LS n0 (In A) g w' (prun (bnew (cfW l)) (M2 ++ [ticE]))∧Only (fun x=>n0≤x∧¬ In A x) w22 w') from run_pdoS HCF.out.2 M2 (by omega) HL22.out ticE)
            go_wp2_with fail
            refine HDt.out.mono ?_
            rintro r w23 ⟨rfl,hl23,hO23⟩
            have hg22:gm≤w22.heap.size:=by rw [← HG.out]; exact HB22.out.size
            have HL23:=Lib.hid hl23
            have HR23:=Lib.hid (HR22.out.only hO23 (fun p hp hx=>hx.2 ⟨p,hp,rfl⟩))
            have HX23:=Lib.hid (HX22.out.keep hO23 (fun hx=>by have:=hx.1; omega))
            have HB23:=Lib.hid (HB22.out.trans (hO23.below (B:=gm) hg22 (fun y hy hx=>by have:=hx.1; have:=HN0.out; omega)))
            have HLt:=Lib.hid (show Bk.Ln i (Turn l i (h+1) (t+1)) (prun (bnew (cfW l)) (M2 ++ [ticE])) from by
              rw [prun_app]
              exact Ln.tick HLn.out (fun s hs=>hs.tick htl (by omega)))
            have hM3:(M2 ++ [ticE]).length≤27+16 * h+2 * (t+1):=by rw [List.length_append]; show M2.length+1≤_; omega
            obtain ⟨M3,hM3e⟩:∃ M3,M2 ++ [ticE]=M3:=⟨_,rfl⟩
            rw [hM3e] at HL23 HLt hM3
            clear hl23 hO23 HDt HL22 HR22 HX22 HB22 HLn hM3e
            have hev:=run_ok HCF.out.2 M3 (by omega)
            have HUs:=Lib.hid (ls_users HL23.out hev)
            clear hev
            go_wp2_with fail
            refine HUs.out.mono ?_
            rintro r w24 ⟨au,nu,cu,rfl,hl24,hO24,hnu⟩
            have hg23:gm≤w23.heap.size:=by rw [← HG.out]; exact HB23.out.size
            have HL24:=Lib.hid hl24
            have HR24:=Lib.hid (HR23.out.only hO24 (fun p hp hx=>hx.2 ⟨p,hp,rfl⟩))
            have HX24:=Lib.hid (HX23.out.keep hO24 (fun hx=>by have:=hx.1; omega))
            have HB24:=Lib.hid (HB23.out.trans (hO24.below (B:=gm) hg23 (fun y hy hx=>by have:=hx.1; have:=HN0.out; omega)))
            clear hl24 hO24 HUs HL23 HR23 HX23 HB23
            by_cases hni:nu=i
            · have HTn:=Lib.hid (show (prun (bnew (cfW l)) M3).fl.roles.length=i∧Turn l i (h+1) (t+1) (prun (bnew (cfW l)) M3).fl from ⟨by rw [← hnu]; exact hni,HLt.out.2 (by rw [← hnu]; exact hni)⟩)
              clear HLt hnu
              have dni:((nu:Int) != (i:Int))=false:=by simp [hni]
              go_wp2_with fail
              go_roundw
              case rel=>exact ⟨m,t+1,M3,by go_num,by go_num,by omega,by omega,hM3,HL24.out,HTn,HR24.out,HX24.out,HB24.out⟩
              case measure=>simp [intOf]; omega
            · have dni:((nu:Int) != (i:Int))=true:=by simp; omega
              clear HLt hnu
              go_wp2
              go_ret
              exact ⟨rfl,by rw [HG.out]; exact HB24.out⟩
      have dj:decide ((j:Int)<(len2:Int))=true:=decide_eq_true (by omega)
      obtain ⟨e,he⟩:∃ e,T2[j]?=some e:=⟨_,List.getElem?_eq_getElem (by omega)⟩
      have HNx:=Lib.hid (noise_next T2 j e he)
      have HEN:=Lib.hid (show e.t.length≤maxLen from by
        have:=(Sc.rtE_in (HRt.out e (List.mem_of_getElem? he))).2.2.2.2.2.2
        unfold maxLen
        omega)
      obtain ⟨bl,ol,rfl,hltl,hcl⟩:=(HEV.out.below HB.out).outer (by omega)
      obtain ⟨v0,v1,v2,v3⟩:=hcl j e he
      have hba:Below wr.heap.size wr (wr.alloc (.cells #[.int .i64 e.k,.int .i64 e.i,.int .i64 e.n,.string (str e.t)] 30)):=(Below.refl _ _).alloc (Nat.le_refl _) _
      have HE:=Lib.hid (Bx.new wr wr.heap.size rfl #[.int .i64 e.k,.int .i64 e.i,.int .i64 e.n,.string (str e.t)] 30)
      have HR5:=Lib.hid (HR.out.below hba)
      have HL5:=Lib.hid (HLS.out.quiet (only_of_below hba))
      have HX5:=Lib.hid (HX.out.go hba HX.out.room)
      have HB5:=Lib.hid (HB.out.trans (hba.mono (by omega)))
      have hN5:N≤(wr.alloc (.cells #[.int .i64 e.k,.int .i64 e.i,.int .i64 e.n,.string (str e.t)] 30)).heap.size:=by simp; omega
      clear hcl he hba HR HLS HX HB
      go_upto_region 22 with fail
      generalize wr.alloc (.cells #[.int .i64 e.k,.int .i64 e.i,.int .i64 e.n,.string (str e.t)] 30)=w5 at *
      clear v0 v1 v2 v3
      have hgc5:gc<w5.heap.size:=HX5.out.room
      obtain ⟨m0,m1,m2,m3⟩:=HE.out.ev
      by_cases hk3:e.k=3
      · have d3:(e.k == 3)=true:=by simp [hk3]
        have hise:isNoise e=true:=by unfold isNoise; rw [hk3]; rfl
        clear hk3
        have hno:noiseL (T2.take (j+1))=noiseL (T2.take j) ++ [e]:=by rw [HNx.out,if_pos hise]
        have HNo:=Lib.hid hno
        clear hno hise
        obtain ⟨v0,v1,v2,v3⟩:=HE.out.ev
        have hba:Below w5.heap.size w5 (w5.alloc (.cells #[.int .i64 e.k,.int .i64 e.i,.int .i64 e.n,.string (str e.t)] 30)):=(Below.refl _ _).alloc (Nat.le_refl _) _
        have HR6:=Lib.hid (HR5.out.below hba)
        have HN6:=Lib.hid (ev_one w5 e HEN.out 30)
        have HX6:=Lib.hid (HX5.out.go hba (by omega))
        have HB6:=Lib.hid (HB5.out.trans (hba.mono (by omega)))
        have HL6:=Lib.hid (HL5.out.quiet (only_of_below hba))
        have hz6:N≤(w5.alloc (.cells #[.int .i64 e.k,.int .i64 e.i,.int .i64 e.n,.string (str e.t)] 30)).heap.size:=by simp; omega
        clear hba
        go_wp2_with (first
          | (at_builtin
             refine wpList_eappg rfl (.tmp 79) (.tmp 81) rfl rfl HR6.out rfl HN6.out rfl (by omega) hz6 ?_
             intro A2 c2 w8 hr2 hO2 hA2
             have HR8:=Lib.hid (show EvRow N w8 A2 (k+1) c2 (noiseL (T2.take (j+1))) by rw [HNo.out]; exact hr2)
             have hlt:=fun p hp=>HR6.out.lt (p:=p) hp
             have HX8:=Lib.hid (HX6.out.keep hO2 (fun ⟨p,hp,hx⟩=>by have:=(hlt p hp).1; omega))
             have HB8:=Lib.hid (HB6.out.trans (hO2.below (B:=gm) (by omega) (fun y hy ⟨p,hp,hx⟩=>by have:=(hlt p hp).1; omega)))
             have HL8:=Lib.hid (HL6.out.turn hO2 (fun x ⟨p,hp,hx⟩=>by have:=(hlt p hp).1; omega) (T:=In A2) (fun x ⟨p,hp,hx⟩=>⟨hx ▸ hA2 p hp,by have:=(hr2.lt hp).2; omega⟩))
             have hN8:N≤w8.heap.size:=Nat.le_trans hz6 hO2.size
             clear hr2 hO2 hA2 hlt))
        go_roundw
        case rel=>exact ⟨j+1,k+1,c2,A2,rfl,by go_num,by omega,HR8.out,HL8.out,HX8.out,HB8.out,hN8⟩
        case measure=>simp [intOf]; omega
      have d3:(e.k == 3)=false:=by simpa using hk3
      by_cases hk2:e.k=2
      · have d2:(e.k == 2)=true:=by simp [hk2]
        have hise:isNoise e=true:=by unfold isNoise; rw [hk2]; rfl
        clear hk2
        have hno:noiseL (T2.take (j+1))=noiseL (T2.take j) ++ [e]:=by rw [HNx.out,if_pos hise]
        have HNo:=Lib.hid hno
        clear hno hise
        obtain ⟨v0,v1,v2,v3⟩:=HE.out.ev
        have hba:Below w5.heap.size w5 (w5.alloc (.cells #[.int .i64 e.k,.int .i64 e.i,.int .i64 e.n,.string (str e.t)] 30)):=(Below.refl _ _).alloc (Nat.le_refl _) _
        have HR6:=Lib.hid (HR5.out.below hba)
        have HN6:=Lib.hid (ev_one w5 e HEN.out 30)
        have HX6:=Lib.hid (HX5.out.go hba (by omega))
        have HB6:=Lib.hid (HB5.out.trans (hba.mono (by omega)))
        have HL6:=Lib.hid (HL5.out.quiet (only_of_below hba))
        have hz6:N≤(w5.alloc (.cells #[.int .i64 e.k,.int .i64 e.i,.int .i64 e.n,.string (str e.t)] 30)).heap.size:=by simp; omega
        clear hba
        go_wp2_with (first
          | (at_builtin
             refine wpList_eappg rfl (.tmp 79) (.tmp 81) rfl rfl HR6.out rfl HN6.out rfl (by omega) hz6 ?_
             intro A2 c2 w8 hr2 hO2 hA2
             have HR8:=Lib.hid (show EvRow N w8 A2 (k+1) c2 (noiseL (T2.take (j+1))) by rw [HNo.out]; exact hr2)
             have hlt:=fun p hp=>HR6.out.lt (p:=p) hp
             have HX8:=Lib.hid (HX6.out.keep hO2 (fun ⟨p,hp,hx⟩=>by have:=(hlt p hp).1; omega))
             have HB8:=Lib.hid (HB6.out.trans (hO2.below (B:=gm) (by omega) (fun y hy ⟨p,hp,hx⟩=>by have:=(hlt p hp).1; omega)))
             have HL8:=Lib.hid (HL6.out.turn hO2 (fun x ⟨p,hp,hx⟩=>by have:=(hlt p hp).1; omega) (T:=In A2) (fun x ⟨p,hp,hx⟩=>⟨hx ▸ hA2 p hp,by have:=(hr2.lt hp).2; omega⟩))
             have hN8:N≤w8.heap.size:=Nat.le_trans hz6 hO2.size
             clear hr2 hO2 hA2 hlt))
        go_roundw
        case rel=>exact ⟨j+1,k+1,c2,A2,rfl,by go_num,by omega,HR8.out,HL8.out,HX8.out,HB8.out,hN8⟩
        case measure=>simp [intOf]; omega
      have d2:(e.k == 2)=false:=by simpa using hk2
      by_cases hk4:e.k=4
      · have d4:(e.k == 4)=true:=by simp [hk4]
        have hise:isNoise e=true:=by unfold isNoise; rw [hk4]; rfl
        clear hk4
        have hno:noiseL (T2.take (j+1))=noiseL (T2.take j) ++ [e]:=by rw [HNx.out,if_pos hise]
        have HNo:=Lib.hid hno
        clear hno hise
        obtain ⟨v0,v1,v2,v3⟩:=HE.out.ev
        have hba:Below w5.heap.size w5 (w5.alloc (.cells #[.int .i64 e.k,.int .i64 e.i,.int .i64 e.n,.string (str e.t)] 30)):=(Below.refl _ _).alloc (Nat.le_refl _) _
        have HR6:=Lib.hid (HR5.out.below hba)
        have HN6:=Lib.hid (ev_one w5 e HEN.out 30)
        have HX6:=Lib.hid (HX5.out.go hba (by omega))
        have HB6:=Lib.hid (HB5.out.trans (hba.mono (by omega)))
        have HL6:=Lib.hid (HL5.out.quiet (only_of_below hba))
        have hz6:N≤(w5.alloc (.cells #[.int .i64 e.k,.int .i64 e.i,.int .i64 e.n,.string (str e.t)] 30)).heap.size:=by simp; omega
        clear hba
        go_wp2_with (first
          | (at_builtin
             refine wpList_eappg rfl (.tmp 79) (.tmp 81) rfl rfl HR6.out rfl HN6.out rfl (by omega) hz6 ?_
             intro A2 c2 w8 hr2 hO2 hA2
             have HR8:=Lib.hid (show EvRow N w8 A2 (k+1) c2 (noiseL (T2.take (j+1))) by rw [HNo.out]; exact hr2)
             have hlt:=fun p hp=>HR6.out.lt (p:=p) hp
             have HX8:=Lib.hid (HX6.out.keep hO2 (fun ⟨p,hp,hx⟩=>by have:=(hlt p hp).1; omega))
             have HB8:=Lib.hid (HB6.out.trans (hO2.below (B:=gm) (by omega) (fun y hy ⟨p,hp,hx⟩=>by have:=(hlt p hp).1; omega)))
             have HL8:=Lib.hid (HL6.out.turn hO2 (fun x ⟨p,hp,hx⟩=>by have:=(hlt p hp).1; omega) (T:=In A2) (fun x ⟨p,hp,hx⟩=>⟨hx ▸ hA2 p hp,by have:=(hr2.lt hp).2; omega⟩))
             have hN8:N≤w8.heap.size:=Nat.le_trans hz6 hO2.size
             clear hr2 hO2 hA2 hlt))
        go_roundw
        case rel=>exact ⟨j+1,k+1,c2,A2,rfl,by go_num,by omega,HR8.out,HL8.out,HX8.out,HB8.out,hN8⟩
        case measure=>simp [intOf]; omega
      have d4:(e.k == 4)=false:=by simpa using hk4
      have hise:isNoise e=false:=by unfold isNoise; rw [d3,d2,d4]; rfl
      have HNo:=Lib.hid (show noiseL (T2.take (j+1))=noiseL (T2.take j) from by rw [HNx.out,hise]; exact List.append_nil _)
      clear hise
      go_wp2_with fail
      go_roundw
      case rel=>exact ⟨j+1,k,c,A,rfl,by go_num,by omega,by rw [HNo.out]; exact HR5.out,HL5.out,HX5.out,HB5.out,hN5⟩
      case measure=>simp [intOf]; omega
theorem w_in:Tryz.checked.prog.inits.idxOf? 8=none:=by kernel_rfl
theorem w_ok (os:Os):Input.okWideB Tryz.prog ((World.doorLaid Tryz.prog 400 os).forCall (fun _ _=>0) ⟨#[],#[.int .i64 0,.int .i64 0,.slice none 0 0],[]⟩) 8 ⟨#[],#[.int .i64 0,.int .i64 0,.slice none 0 0],[]⟩=true:=by kernel_rfl
theorem w_pre (os:Os) (H:Type) (enc:TypeId×Value→H):Rows.wholeWaitsSpec.preB enc Tryz.prog Tryz.f8 [] false ((World.doorLaid Tryz.prog 400 os).forCall (fun _ _=>0) ⟨#[],#[.int .i64 0,.int .i64 0,.slice none 0 0],[]⟩).memory #[.int .i64 0,.int .i64 0,.slice none 0 0] 8=true:=by kernel_rfl
theorem w_sz (os:Os) (H:Type) (enc:TypeId×Value→H):Rows.wholeWaitsSpec.sizedB enc Tryz.prog Tryz.f8 false ((World.doorLaid Tryz.prog 400 os).forCall (fun _ _=>0) ⟨#[],#[.int .i64 0,.int .i64 0,.slice none 0 0],[]⟩).memory #[.int .i64 0,.int .i64 0,.slice none 0 0] 8=true:=by kernel_rfl
set_option maxRecDepth 100000 in
theorem lifted (os:Os) (started:os.Started) (H:Type) (enc:TypeId×Value→H) :
  ReturnsInHanded {} Tryz.checked os 8 .any (fun w args=>(Rows.wholeWaitsSpec.pre enc Tryz.prog Tryz.f8 [] false w args∧laidMetH Tryz.prog laidL w)∧sizedMet enc Tryz.prog Tryz.f8 (OpenSpec.ofChange Rows.wholeWaitsSpec) false w args)
   (Rows.wholeWaitsSpec.post enc Tryz.prog Tryz.f8 false true false false):=by
 refine returnsInHanded_of_change_and (C:=Tryz.checked) (X:=fun w _=>laidMetH Tryz.prog laidL w) (fun _ _ _ hh h=>h.of_heap hh) own started w_in Tryz.func8
  (ChangeSpec.witness_shaped (enc:=enc) (C:=Tryz.checked) (os:=os) (X:=fun w _=>laidMetH Tryz.prog laidL w) false (World.doorLaid Tryz.prog 400 os) #[.int .i64 0,.int .i64 0,.slice none 0 0] 8 rfl (door_shaped os _) (w_ok os) (w_pre os H enc) (w_sz os H enc) (door_met os _)) ?_
 intro W base args ds gs before hval0 hW hcnd hsz0 hL _
 have hti:=ti_of hL
 have hval:∀ (j:Nat) t v,Tryz.f8.params[j]?=some t→args[j]?=some v→Value.okWide Tryz.prog W .any base t v:=hval0
 have hW':=hW
 obtain ⟨p,q,hA0,hV,rfl,hfz,hnd⟩:=hW
 have hsz:(DataW.weightsEach Tryz.prog (Tryz.f8.params.toList ++ Rows.wholeWaitsSpec.plain.varTypes Tryz.prog) (ds ++ gs)).all (·≤reachBytes)=true:=hsz0
 have hA:DataW.TrodAll enc Tryz.prog W 0 (fun _=>true) true Tryz.f8.params.toList args.toList ds p:=hA0
 rw [Tryz.params8] at hA hval hsz
 obtain ⟨v0,vs0,d0,ds0,p0,q0,hargs,rfl,rfl,h0,r0⟩:=trodAll_cons hA
 obtain ⟨v1,vs1,d1,ds1,p1,q1,rfl,rfl,rfl,h1,r1⟩:=trodAll_cons r0
 obtain ⟨v2,vs2,d2,ds2,p2,q2,rfl,rfl,rfl,h2,r2⟩:=trodAll_cons r1
 obtain ⟨rfl,rfl,rfl⟩:=trodAll_nil r2
 obtain rfl:args = #[v0,v1,v2]:=by cases args; simp_all
 obtain ⟨rfl,rfl⟩:=trodVars_none hV
 obtain ⟨a0,rfl,rfl,rfl,w0⟩:=open_int Tryz.underlying3 (hval 0 3 v0 rfl rfl) h0
 obtain ⟨a1,rfl,rfl,rfl,w1⟩:=open_int Tryz.underlying3 (hval 1 3 v1 rfl rfl) h1
 obtain ⟨a2,len2,cap2,rfl⟩:=okWide_slice Tryz.underlying25 (hval 2 25 v2 rfl rfl)
 have k2:=h2
 have lt2:∀ x∈p2,x.block<W.heap.size:=by obtain ⟨m,hm⟩:=k2; exact DataW.trod_lt m _ _ _ hm
 obtain ⟨T2,w2,g2⟩:∃ T,EvIn W W.heap.size a2 T∧T.length=len2∧len2≤cap2∧cap2≤maxLen:=by
  obtain ⟨fuel,hf⟩:=h2
  exact open_events hf
 clear hA0 hval0 hsz hsz0
 refine (walk a0 a1 a2 len2 cap2 T2 W w0 w1 w2 g2 hti).mono fun e W' ⟨he,bel⟩=>?_
 subst he
 exact ⟨_,rfl,_,_,_,[],_,[],hW',trodAll_mk1 (shut_bool Tryz.underlying4 _),(trodAll_cons_mk (shut_int Tryz.underlying3 w0) (trodAll_cons_mk (shut_int Tryz.underlying3 w1) (trodAll_cons_mk (Below.trod laidOut (by kernel_rfl) (of_decide_eq_true (by kernel_rfl)) k2 bel lt2) trodAll_mk0))),rfl,bel.frame _,fun h=>by cases h⟩
theorem q0:(Rows.wholeWaitsRow.wf (OpenSpec.ofChange Rows.wholeWaitsSpec))=true:=by kernel_rfl
theorem q3:(Tryz.f8.params.all (Tryz.prog.readableRec ·))=true:=by kernel_rfl
theorem q4:(namedTie Tryz.prog Rows.wholeWaitsRow.named Rows.wholeWaitsSpec.vars)=true:=by kernel_rfl
theorem q5:((Rows.wholeWaitsRow.stops == []))=true:=by kernel_rfl
theorem q7:((Rows.wholeWaitsRow.knobs == []))=true:=by kernel_rfl
theorem q9:((Rows.wholeWaitsRow.inPlace == Tryz.prog.inPlace 8))=true:=by kernel_rfl
theorem q10:((Rows.wholeWaitsRow.unfollowed == Tryz.prog.unfollowed 8))=true:=by kernel_rfl
theorem q11:((Rows.wholeWaitsRow.recurses == Tryz.prog.recurses 8))=true:=by kernel_rfl
theorem q12:((Rows.wholeWaitsRow.named == Tryz.prog.varsNamed 8))=true:=by kernel_rfl
theorem q13:((Rows.wholeWaitsRow.maps == (Tryz.f8.params.toList ++ Rows.wholeWaitsSpec.plain.varTypes Tryz.prog).any (Tryz.prog.mapsRec ·)))=true:=by kernel_rfl
theorem q14:((Rows.wholeWaitsRow.ifaces == (Tryz.f8.params.toList ++ Rows.wholeWaitsSpec.plain.varTypes Tryz.prog).any (Tryz.prog.ifacesRec ·)))=true:=by kernel_rfl
theorem q15:((Rows.wholeWaitsRow.mapsOut == Tryz.prog.mapsAmong Tryz.f8.resultTypes.toList))=true:=by kernel_rfl
theorem q16:((Rows.wholeWaitsRow.loops == (Tryz.f8.params.toList ++ Rows.wholeWaitsSpec.plain.varTypes Tryz.prog).any (Tryz.prog.loopsFrom ·)))=true:=by kernel_rfl
theorem q17:((Rows.wholeWaitsRow.wideKeys == (Tryz.f8.params.toList ++ Rows.wholeWaitsSpec.plain.varTypes Tryz.prog ++ Tryz.f8.resultTypes.toList).any (Tryz.prog.wideKeysFrom ·)))=true:=by kernel_rfl
theorem q18:(Rows.wholeWaitsSpec.vars.all (Tryz.prog.varReadable ·))=true:=by kernel_rfl
theorem q19:(Tryz.f8.resultTypes.all (fun t=>Tryz.prog.readableRec t && decide (t<Tryz.prog.types.size)))=true:=by kernel_rfl
theorem q20:((Rows.wholeWaitsRow.ifacesOut == Tryz.f8.resultTypes.toList.any (Tryz.prog.ifacesRec ·)))=true:=by kernel_rfl
theorem q21:((Rows.wholeWaitsRow.loopsOut == Tryz.f8.resultTypes.toList.any (Tryz.prog.loopsFrom ·)))=true:=by kernel_rfl
theorem q22:((Rows.wholeWaitsRow.plainKeys == Tryz.prog.plainKeys))=true:=(show Rows.wholeWaitsRow.plainKeys=Rows.wholeTilesRow.plainKeys from rfl) ▸ pq22
theorem q23:(Rows.wholeWaitsRow.shortTexts.isNone)=true:=by kernel_rfl
theorem q26:((Rows.wholeWaitsRow.lifted == Tryz.prog.liftsFinal))=true:=(show Rows.wholeWaitsRow.lifted=Rows.wholeTilesRow.lifted from rfl) ▸ pq26
theorem q27:((Tryz.prog.make == some Rows.wholeWaitsRow.make))=true:=(show Rows.wholeWaitsRow.make=Rows.wholeTilesRow.make from rfl) ▸ pq27
theorem q28:kindsAre Tryz.prog Rows.wholeWaitsRow Tryz.f8=true:=by kernel_rfl
theorem q29:((Rows.wholeWaitsRow.pinned == Rows.wholeWaitsRow.pinnedBy))=true:=by kernel_rfl
theorem q30:((Rows.wholeWaitsRow.veiled == (Tryz.f8.params.toList ++ Rows.wholeWaitsSpec.plain.varTypes Tryz.prog ++ Tryz.f8.resultTypes.toList).any (Tryz.prog.veiledRec ·)))=true:=by kernel_rfl
theorem q31:(Rows.wholeWaitsRow.veiledFits Tryz.prog Tryz.f8.params.toList (Tryz.f8.params.toList ++ Rows.wholeWaitsSpec.plain.varTypes Tryz.prog ++ Tryz.f8.resultTypes.toList))=true:=by kernel_rfl
theorem q_named:Tryz.prog.funcNamed Rows.wholeWaitsRow.func=some 8:=by kernel_rfl
theorem q_inst:Tryz.f8.isInstance Tryz.prog Rows.wholeWaitsRow.origin Rows.wholeWaitsRow.targs:=of_decide_eq_true (by kernel_rfl)
theorem q_wrap:Tryz.f8.isWrapper Tryz.prog Rows.wholeWaitsRow.wrapper Rows.wholeWaitsRow.mainSum:=by unfold Func.isWrapper; first | (rw [if_pos (by decide +kernel)]; kernel_rfl) | (rw [if_neg (by decide +kernel)]; exact ⟨rfl,rfl⟩)
set_option maxRecDepth 100000 in
theorem q_all:joinedFacts Tryz.prog 8 Tryz.f8 Rows.wholeWaitsSpec Rows.wholeWaitsRow=true:=joined_of (P:=Tryz.prog) (f:=8) (fn:=Tryz.f8) (s:=Rows.wholeWaitsSpec) (c:=Rows.wholeWaitsRow) q0 pq1 pq2 q3 q4 q5 pq6 q7 pq8 q9 q10 q11 q12 q13 q14 q15 q16 q17 q18 q19 q20 q21 q22 q23 pq24 pq25 q26 q27 q28 q29 q30 q31
theorem over:Rows.WholeWaitsSaid:=
 OpenClaim.holds_of_wide 8 Tryz.f8 rfl rfl rfl rfl rfl rfl rfl ⟨rfl,rfl,rfl,rfl,rfl⟩ rfl rfl rfl rfl rfl q_named Tryz.func8 q_all q_inst q_wrap
  (fun os started H enc _=>lifted os started H enc)
theorem c_wf:Rows.wholeWaitsRow.wfByText (OpenSpec.ofChange Rows.wholeWaitsSpec)=true:=by kernel_rfl
theorem c_looks:true=Tryz.prog.looks []:=by kernel_rfl
theorem c_stand:([3,3,25].all fun u=>!Tryz.prog.wantsStandIn u)=true:=by kernel_rfl
theorem c_goes:false=Rows.wholeWaitsRow.goesBy Tryz.prog:=by kernel_rfl
end Go.Proofs.YtalichkdeekdcaaGreatDoor.wholeWaits
namespace Go.Proofs.YtalichkdeekdcaaGreatDoor
theorem wholeWaits_holds:Rows.WholeWaitsCardSaid:=
 Claim7.holds_tied_plain_at (c:=Rows.wholeWaitsRow) .later [] _ true _ true
  wholeWaits.over (fun _ h=>by cases h) wholeWaits.c_wf (fun _ h=>by cases h) wholeWaits_row_tie rfl ⟨rfl,rfl⟩ main_is rfl
  (fun f fn hf hfn=>by
   obtain rfl:f=8:=Option.some.inj (wholeWaits.q_named.symm.trans hf) |>.symm
   obtain rfl:fn=Tryz.f8:=(Option.some.inj (Tryz.func8.symm.trans hfn)).symm
   exact ⟨wholeWaits.c_looks,fun j t ht=>by
    rw [Tryz.params8] at ht
    have hm:t∈[3,3,25]:=by simpa using Array.mem_of_getElem? ht
    exact (show Tryz.prog.wantsStandIn t=false by simpa using List.all_eq_true.1 wholeWaits.c_stand t hm)⟩)
  wholeWaits.c_goes
#print axioms wholeWaits_holds
end Go.Proofs.YtalichkdeekdcaaGreatDoor
