/- WholeApart: for every input the law answers true, and its arguments read as before. Conditions: none. -/
import Derived.IntWalk
import Derived.BigQuiet
import Derived.Test.YtalichkdeekdcaaGreatDoorZd10
import Derived.Test.YtalichkdeekdcaaGreatDoorZd28
import Derived.Test.YtalichkdeekdcaaGreatDoorZd31
import Derived.Test.YtalichkdeekdcaaGreatDoorZd32
import Derived.Test.YtalichkdeekdcaaGreatDoorZd46
import Derived.Test.YtalichkdeekdcaaGreatDoorZd47
import Derived.Test.YtalichkdeekdcaaGreatDoorZd48
namespace Go.Proofs.YtalichkdeekdcaaGreatDoor.wholeApart
open Go.ChangeShapes Go.WideShapes Go.ChangeAt Go.RowKit
open Fr Bk
def Cs (l:List (Addr×Value)) (W:World):Prop:=∀ p∈l,W.cell? p.1=some p.2
theorem otin_more {w:World} {B B':Nat} {a:Option Addr} {L:List Ot} (h:OtIn w B a L) (hB:B≤B'):OtIn w B' a L:=fun hn=>by
 obtain ⟨b,off,e,hlt,hc⟩:=h hn
 exact ⟨b,off,e,Nat.lt_of_lt_of_le hlt hB,hc⟩
set_option maxRecDepth 100000 in
set_option maxHeartbeats 8000000 in
theorem walk (a0:Option Addr) (len0 cap0:Nat) (T0:List Sc.Ev) (t1:Bs) (w:World) (w0:EvIn w w.heap.size a0 T0) (g0:T0.length=len0∧len0≤cap0∧cap0≤maxLen) (w1:t1.length≤maxLen) (ht:TI w) :
    Calls Tryz.prog 6 #[.slice a0 len0 cap0,.string (str t1)] w fun e w'=>e = .returned (.bool true)∧Below w.heap.size w w':=by
  have HTI:=Lib.hid ht
  have hmix:Tryz.prog.follows .mixedOrders=true:=by kernel_rfl
  have HEV:=Lib.hid w0
  have hln:T0.length=len0:=g0.1
  have hlc:len0≤cap0:=g0.2.1
  have h63:len0≤9223372036854775807:=by have:=g0.2.2; unfold maxLen at this; omega
  have hjm:t1.length≤9223372036854775807:=by unfold maxLen at w1; omega
  have hsj:=str_size t1
  clear ht w0 g0 w1
  obtain ⟨gm,hgm⟩:∃ gm,w.heap.size=gm:=⟨_,rfl⟩
  have HG:=Lib.hid hgm
  rw [hgm] at HEV
  clear hgm
  go_enter Tryz.func6,Tryz.ntmps6
  go_wp2_with fail
  refine (alive_any w HTI.out).mono ?_
  rintro r w1 ⟨rfl,hb1⟩
  have HB1:=Lib.hid (show Below gm w w1 from HG.out ▸ hb1)
  have HS1:=Lib.hid (show gm≤w1.heap.size from by rw [← HG.out]; exact hb1.size)
  clear hb1
  have HF:=Lib.hid (tfew_any a0 len0 cap0 T0 w1 ((HEV.out.below HB1.out).more HS1.out) hln h63)
  go_wp2_with fail
  refine HF.out.mono ?_
  rintro e w2 ⟨f,rfl,hyes,hb2⟩
  have HB2:=Lib.hid (HB1.out.trans (hb2.mono HS1.out))
  have HS2:=Lib.hid (Nat.le_trans HS1.out hb2.size)
  clear hb2 HB1 HS1 HF
  rcases f with _ | _
  · go_wp2
    go_ret
    exact ⟨rfl,by rw [HG.out]; exact HB2.out⟩
  obtain ⟨hev,h120,h6⟩:=hyes rfl
  have HRt:=Lib.hid hev
  have H6:=Lib.hid h6
  clear hyes hev h6
  by_cases hj:t1.length≤100
  rotate_left
  · have dj:decide ((t1.length:Int) > 100)=true:=by simp; omega
    have dj2:decide ((100:Int)<(t1.length:Int))=true:=by simp; omega
    go_wp2
    go_ret
    exact ⟨rfl,by rw [HG.out]; exact HB2.out⟩
  have dj:decide ((t1.length:Int) > 100)=false:=by simp; omega
  have dj2:decide ((100:Int)<(t1.length:Int))=false:=by simp; omega
  have HC9:=Lib.hid (comes_any 9 true 0 (by decide) (by decide) w2)
  go_wp2_with fail
  refine HC9.out.mono ?_
  rintro r w3 ⟨A3,c3,rfl,hr3,hb3⟩
  have HB3:=Lib.hid (HB2.out.trans (hb3.mono HS2.out))
  have HS3:=Lib.hid (Nat.le_trans HS2.out hb3.size)
  have HR3:=Lib.hid hr3
  have hz3:=hb3.size
  have HC1:=Lib.hid (comes_any 1 true 0 (by decide) (by decide) w3)
  clear hb3 hr3 HC9 HB2 dj dj2
  go_wp2_with fail
  refine HC1.out.mono ?_
  rintro r w4 ⟨A4,c4,rfl,hr4,hb4⟩
  have HB4:=Lib.hid (HB3.out.trans (hb4.mono HS3.out))
  have HS4:=Lib.hid (Nat.le_trans HS3.out hb4.size)
  have HR4:=Lib.hid (HR3.out.below hb4)
  have HN4:=Lib.hid hr4.evin
  have hz4:=hb4.size
  have hz42:w2.heap.size≤w4.heap.size:=Nat.le_trans hz3 hz4
  clear hb4 hr4 HC1 HB3 HR3
  go_upto_region 6 with (first
    | (at_builtin
       refine wpList_eapp rfl (.tmp 30) (.tmp 31) rfl rfl HR4.out rfl HN4.out rfl (by omega) hz42 ?_
       intro A5 c5 w5 hr5 hb5
       have HR5:=Lib.hid (show EvRow w2.heap.size w5 A5 4 c5 apHead from hr5)
       have HB5:=Lib.hid (HB4.out.trans (hb5.mono HS2.out))
       have HS5:=Lib.hid (Nat.le_trans HS4.out hb5.size)
       clear hr5 hb5 HR4 HN4 HB4 HS4
       go_upto_region 6 with fail))
  have HA5:=Lib.hid (show EvIn w5 w5.heap.size A5 apHead from HR5.out.evin)
  obtain ⟨jk,hjk⟩:∃ jk:Bs,0#8 :: 0#8 :: t1=jk:=⟨_,rfl⟩
  have hcat:(⟨#[0,0]⟩:ByteArray) ++ str t1=str jk:=by rw [← hjk]; exact (str_app [0#8,0#8] t1).symm
  have hv:¬ (9223372036854775807<2+t1.length):=by omega
  have HMd:=Lib.hid (show midE t1=⟨1,9,0,jk⟩ by rw [← hjk]; rfl)
  have hjl:jk.length≤102:=by rw [← hjk]; show t1.length+2≤102; omega
  have hb6:Below w5.heap.size w5 (w5.alloc (.cells #[.int .i64 1,.int .i64 9,.int .i64 0,.string (str jk)] 30)):=(Below.refl _ _).alloc (Nat.le_refl _) _
  have HR6:=Lib.hid (show EvIn (w5.alloc (.cells #[.int .i64 1,.int .i64 9,.int .i64 0,.string (str jk)] 30)) (w5.heap.size+1) (some ⟨w5.heap.size,0,none⟩) [midE t1] from by
    rw [HMd.out]
    exact ev_one w5 ⟨1,9,0,jk⟩ (by show jk.length≤maxLen; unfold maxLen; omega) 30)
  have hz6:(w5.alloc (.cells #[.int .i64 1,.int .i64 9,.int .i64 0,.string (str jk)] 30)).heap.size=w5.heap.size+1:=by simp
  clear hjk
  go_upto_region 7 with fail
  generalize w5.alloc (.cells #[.int .i64 1,.int .i64 9,.int .i64 0,.string (str jk)] 30)=w6 at *
  obtain ⟨z5,hz5⟩:∃ z5,w5.heap.size=z5:=⟨_,rfl⟩
  rw [hz5] at HR6 hb6 hz6 HA5 HS5
  have HB6:=Lib.hid (HB5.out.trans (hb6.mono HS5.out))
  have HS6:=Lib.hid (show gm≤w6.heap.size from by have:=HS5.out; omega)
  have HA6:=Lib.hid ((HA5.out.below hb6).more (show z5≤w6.heap.size by omega))
  have HR6':=Lib.hid (HR6.out.more (show z5+1≤w6.heap.size by omega))
  obtain ⟨M6,hM6⟩:∃ M6,(some ⟨z5,0,none⟩:Option Addr)=M6:=⟨_,rfl⟩
  rw [hM6] at HR6'
  have HM6:=Lib.hid hM6
  clear hcat hv hb6 hz6 HB5 HA5 HR5 HS5 HR6 hM6 hjl
  have HSa:=Lib.hid (show Calls Tryz.prog 22 #[.int .i64 9,.agg #[.int .i64 4,.int .i64 0,.int .i64 0,.string ⟨#[]⟩]] w6 (fun r w'=>r = .returned (evv (sayE 9 bye))∧Below w6.heap.size w6 w') from said_any 9 bye bye_ok w6)
  go_wp2_with fail
  refine HSa.out.mono ?_
  rintro r w7 ⟨rfl,hb7⟩
  obtain ⟨bk,hbk⟩:∃ bk,enc bye=bk:=⟨_,rfl⟩
  have hv7:evv (sayE 9 bye) = .agg #[.int .i64 1,.int .i64 9,.int .i64 0,.string (str bk)]:=by rw [← hbk]; rfl
  have HBy:=Lib.hid (show byeE=⟨1,9,0,bk⟩ by rw [← hbk]; rfl)
  have hbl:bk.length≤102:=by rw [← hbk,enc_len5]; show 6 * 0+0+5≤102; decide
  rw [hv7]
  have HB7:=Lib.hid (HB6.out.trans (hb7.mono HS6.out))
  have HS7:=Lib.hid (Nat.le_trans HS6.out hb7.size)
  have HA7:=Lib.hid ((HA6.out.below hb7).more hb7.size)
  have HM7:=Lib.hid ((HR6'.out.below hb7).more hb7.size)
  have hb8:Below w7.heap.size w7 (w7.alloc (.cells #[.int .i64 1,.int .i64 9,.int .i64 0,.string (str bk)] 30)):=(Below.refl _ _).alloc (Nat.le_refl _) _
  have HY8:=Lib.hid (show EvIn (w7.alloc (.cells #[.int .i64 1,.int .i64 9,.int .i64 0,.string (str bk)] 30)) (w7.heap.size+1) (some ⟨w7.heap.size,0,none⟩) [byeE] from by
    rw [HBy.out]
    exact ev_one w7 ⟨1,9,0,bk⟩ (by show bk.length≤maxLen; unfold maxLen; omega) 30)
  have hz8:(w7.alloc (.cells #[.int .i64 1,.int .i64 9,.int .i64 0,.string (str bk)] 30)).heap.size=w7.heap.size+1:=by simp
  clear hb7 hbk hv7 hbl HSa HB6 HS6 HA6 HR6'
  go_upto_region 8 with fail
  generalize w7.alloc (.cells #[.int .i64 1,.int .i64 9,.int .i64 0,.string (str bk)] 30)=w8 at *
  obtain ⟨z7,hz7⟩:∃ z7,w7.heap.size=z7:=⟨_,rfl⟩
  rw [hz7] at HY8 hb8 hz8 HA7 HS7 HM7
  have HB8:=Lib.hid (HB7.out.trans (hb8.mono HS7.out))
  have hS8:gm≤w8.heap.size:=by have:=HS7.out; omega
  have HA8:=Lib.hid ((HA7.out.below hb8).more (show z7≤w8.heap.size by omega))
  have HM8:=Lib.hid ((HM7.out.below hb8).more (show z7≤w8.heap.size by omega))
  have HY8':=Lib.hid (HY8.out.more (show z7+1≤w8.heap.size by omega))
  obtain ⟨Y8,hY8⟩:∃ Y8,(some ⟨z7,0,none⟩:Option Addr)=Y8:=⟨_,rfl⟩
  rw [hY8] at HY8'
  have HYe:=Lib.hid hY8
  clear hb8 hz8 HB7 HA7 HM7 HS7 HY8 hY8
  obtain ⟨N,hN⟩:∃ N,w8.heap.size=N:=⟨_,rfl⟩
  rw [hN] at HA8 HM8 HY8' hS8
  have hb9:Below w8.heap.size w8 (w8.alloc (.cells #[] 30)):=(Below.refl _ _).alloc (Nat.le_refl _) _
  have HR9:=Lib.hid (show EvRow N (w8.alloc (.cells #[] 30)) (some ⟨w8.heap.size,0,none⟩) 0 0 (restL (T0.take 0)) from EvRow.empty w8 (by omega))
  have hz9:(w8.alloc (.cells #[] 30)).heap.size=w8.heap.size+1:=by simp
  rw [hN] at hb9 HR9 hz9
  have HBN:=Lib.hid hb9
  have HB9:=Lib.hid (HB8.out.trans (hb9.mono hS8))
  clear HB8 hb9
  go_upto_region 9 with fail
  generalize w8.alloc (.cells #[] 30)=w9 at *
  have HW8:=Lib.hid (show w8.heap.size=N from hN)
  have HZ7:=Lib.hid hz7
  clear hN hz7 hz5
  go_wp2_with fail
  go_loopw [8,43] (fun s8 s43 wr=>∃ (j k c:Nat) (A:Option Addr),s8 = .slice A k c∧s43 = .int .i64 (j:Nat)∧j≤len0∧EvRow N wr A k c (restL (T0.take j))∧Below N w8 wr∧Below gm w wr) (fun _ s _=>len0 - (intOf s).toNat)
  case atStart=>exact ⟨0,0,0,_,rfl,rfl,Nat.zero_le _,HR9.out,HBN.out,HB9.out⟩
  case round =>
    obtain ⟨j,k,c,A,rfl,rfl,hj2,hr,hbN,hb⟩:=hrel
    have HR:=Lib.hid hr
    have HBn:=Lib.hid hbN
    have HB:=Lib.hid hb
    have hkl:=hr.len
    have hk120:k≤120:=by have h1:=rest_len (T0.take j); rw [List.length_take] at h1; omega
    have hNr:N≤wr.heap.size:=by have:=hbN.size; have:=HW8.out; omega
    clear hr hbN hb HR9 HBN HB9
    by_cases hjl:j<len0
    · have dk:decide ((j:Int)<(len0:Int))=true:=decide_eq_true (by omega)
      obtain ⟨e,he⟩:∃ e,T0[j]?=some e:=⟨_,List.getElem?_eq_getElem (by omega)⟩
      have HNx:=Lib.hid (rest_next T0 j e he)
      have HEN:=Lib.hid (show e.t.length≤maxLen from by
        have:=(Sc.rtE_in (HRt.out e (List.mem_of_getElem? he))).2.2.2.2.2.2
        unfold maxLen
        omega)
      obtain ⟨bl,ol,rfl,hltl,hcl⟩:=(HEV.out.below HB.out).outer (by omega)
      obtain ⟨v0,v1,v2,v3⟩:=hcl j e he
      have hba:Below wr.heap.size wr (wr.alloc (.cells #[.int .i64 e.k,.int .i64 e.i,.int .i64 e.n,.string (str e.t)] 30)):=(Below.refl _ _).alloc (Nat.le_refl _) _
      have HE:=Lib.hid (Bx.new wr wr.heap.size rfl #[.int .i64 e.k,.int .i64 e.i,.int .i64 e.n,.string (str e.t)] 30)
      have HR5:=Lib.hid (HR.out.below hba)
      have HBn5:=Lib.hid (HBn.out.trans (hba.mono hNr))
      have HB5:=Lib.hid (HB.out.trans (hba.mono (by omega)))
      have hN5:N≤(wr.alloc (.cells #[.int .i64 e.k,.int .i64 e.i,.int .i64 e.n,.string (str e.t)] 30)).heap.size:=by simp; omega
      clear hcl he hba HR HBn HB
      go_upto_region 12 with fail
      generalize wr.alloc (.cells #[.int .i64 e.k,.int .i64 e.i,.int .i64 e.n,.string (str e.t)] 30)=w5 at *
      clear v0 v1 v2 v3
      obtain ⟨m0,m1,m2,m3⟩:=HE.out.ev
      by_cases hi9:e.i=9
      · have d9:(e.i != 9)=false:=by simp [hi9]
        have HNo:=Lib.hid (show restL (T0.take (j+1))=restL (T0.take j) from by rw [HNx.out,if_neg (fun h=>h hi9)]; exact List.append_nil _)
        clear hi9
        go_wp2_with fail
        go_roundw
        case rel=>exact ⟨j+1,k,c,A,rfl,by go_num,by omega,by rw [HNo.out]; exact HR5.out,HBn5.out,HB5.out⟩
        case measure=>simp [intOf]; omega
      have d9:(e.i != 9)=true:=by simpa using hi9
      have HNo:=Lib.hid (show restL (T0.take (j+1))=restL (T0.take j) ++ [e] from by rw [HNx.out,if_pos hi9])
      clear hi9
      have hba:Below w5.heap.size w5 (w5.alloc (.cells #[.int .i64 e.k,.int .i64 e.i,.int .i64 e.n,.string (str e.t)] 30)):=(Below.refl _ _).alloc (Nat.le_refl _) _
      have HR6:=Lib.hid (HR5.out.below hba)
      have HN6:=Lib.hid (ev_one w5 e HEN.out 30)
      have HBn6:=Lib.hid (HBn5.out.trans (hba.mono hN5))
      have HB6:=Lib.hid (HB5.out.trans (hba.mono (by omega)))
      have hz6:N≤(w5.alloc (.cells #[.int .i64 e.k,.int .i64 e.i,.int .i64 e.n,.string (str e.t)] 30)).heap.size:=by simp; omega
      clear hba
      go_wp2_with (first
        | (at_builtin
           refine wpList_eapp rfl (.tmp 50) (.tmp 52) rfl rfl HR6.out rfl HN6.out rfl (by omega) hz6 ?_
           intro A2 c2 wz hr2 hb2
           have HR8:=Lib.hid (show EvRow N wz A2 (k+1) c2 (restL (T0.take (j+1))) by rw [HNo.out]; exact hr2)
           have HBn8:=Lib.hid (HBn6.out.trans hb2)
           have HB8:=Lib.hid (HB6.out.trans (hb2.mono hS8))
           clear hr2 hb2))
      go_roundw
      case rel=>exact ⟨j+1,k+1,c2,A2,rfl,by go_num,by omega,HR8.out,HBn8.out,HB8.out⟩
      case measure=>simp [intOf]; omega
    obtain rfl:j=len0:=by omega
    have dk:decide ((j:Int)<(j:Int))=false:=by simp
    rw [show T0.take j=T0 from List.take_of_length_le (by omega)] at HR hkl
    have HA:=Lib.hid ((HA8.out.below HBn.out).more hNr)
    have HM:=Lib.hid ((HM8.out.below HBn.out).more hNr)
    have HY:=Lib.hid ((HY8'.out.below HBn.out).more hNr)
    have HRs:=Lib.hid (show EvIn wr wr.heap.size A (restL T0) from HR.out.evin)
    have hrr:∀ x∈restL T0,Sc.rtE x=true:=fun x hx=>HRt.out x (rest_in hx).1
    have HXr:=Lib.hid (show ∀ x∈apX t1 T0,Sc.rtE x=true from fun x hx=>by
      rcases List.mem_append.1 hx with hx | hx
      · rcases List.mem_append.1 hx with hx | hx
        · exact ap_right.1 x (by simpa using hx)
        · rw [List.mem_singleton.1 hx]; exact rt_mid hj
      · exact hrr x hx)
    have HYr:=Lib.hid (show ∀ x∈apY T0,Sc.rtE x=true from fun x hx=>by
      rcases List.mem_append.1 hx with hx | hx
      · rcases List.mem_append.1 hx with hx | hx
        · exact ap_right.1 x (by simpa using hx)
        · rw [List.mem_singleton.1 hx]; exact ap_right.2
      · exact hrr x hx)
    have hxl:(apX t1 T0).length=5+k:=by unfold apX; rw [List.length_append,hkl]; rfl
    have hyl:(apY T0).length=5+k:=by unfold apY; rw [List.length_append,hkl]; rfl
    have HSm:=Lib.hid (ap_same hj T0)
    clear hrr HR HBn HA8 HM8 HY8' HEV HRt
    have hba:Below wr.heap.size wr (wr.alloc (.cells #[] 30)):=(Below.refl _ _).alloc (Nat.le_refl _) _
    have HRx:=Lib.hid (show EvRow wr.heap.size (wr.alloc (.cells #[] 30)) (some ⟨wr.heap.size,0,none⟩) 0 0 [] from EvRow.empty wr (Nat.le_refl _))
    have HAx:=Lib.hid (HA.out.below hba)
    have HMx:=Lib.hid (HM.out.below hba)
    have HYx:=Lib.hid (HY.out.below hba)
    have HRsx:=Lib.hid (HRs.out.below hba)
    have HBx:=Lib.hid (HB.out.trans (hba.mono (show gm≤wr.heap.size by omega)))
    have hzx:wr.heap.size≤(wr.alloc (.cells #[] 30)).heap.size:=hba.size
    clear hba HA HM HY HRs HB
    go_upto_region 16 with (first
      | (at_builtin
         refine wpList_eapp rfl (.tmp 55) (.tmp 56) rfl rfl HRx.out rfl HAx.out rfl (by omega) hzx ?_
         intro A2 c2 wa hr2 hb2
         have HRa:=Lib.hid hr2
         have HMa:=Lib.hid (HMx.out.below hb2)
         have HYa:=Lib.hid (HYx.out.below hb2)
         have HAa:=Lib.hid (HAx.out.below hb2)
         have HRsa:=Lib.hid (HRsx.out.below hb2)
         have HBa:=Lib.hid (HBx.out.trans (hb2.mono (show gm≤wr.heap.size by omega)))
         have hza:wr.heap.size≤wa.heap.size:=Nat.le_trans hzx hb2.size
         clear hr2 hb2 HRx HMx HYx HAx HRsx HBx
         go_upto_region 16 with (first
           | (at_builtin
              refine wpList_eapp rfl (.tmp 57) (.tmp 58) rfl rfl HRa.out rfl (HM6.out ▸ HMa.out) rfl (by omega) hza ?_
              intro A3 c3 wb hr3 hb3
              have HRb:=Lib.hid hr3
              have HYb:=Lib.hid (HYa.out.below hb3)
              have HAb:=Lib.hid (HAa.out.below hb3)
              have HMb:=Lib.hid (HMa.out.below hb3)
              have HRsb:=Lib.hid (HRsa.out.below hb3)
              have HBb:=Lib.hid (HBa.out.trans (hb3.mono (show gm≤wr.heap.size by omega)))
              have hzb:wr.heap.size≤wb.heap.size:=Nat.le_trans hza hb3.size
              clear hr3 hb3 HRa HYa HAa HMa HRsa HBa
              go_upto_region 16 with (first
                | (at_builtin
                   refine wpList_eapp rfl (.tmp 59) (.tmp 60) rfl rfl HRb.out rfl HRsb.out hkl (by omega) hzb ?_
                   intro A4 c4 wc hr4 hb4
                   have HRc:=Lib.hid (show EvRow wr.heap.size wc A4 (5+k) c4 (apX t1 T0) from hr4)
                   have HYc:=Lib.hid (HYb.out.below hb4)
                   have HAc:=Lib.hid (HAb.out.below hb4)
                   have HRsc:=Lib.hid (HRsb.out.below hb4)
                   have HBc:=Lib.hid (HBb.out.trans (hb4.mono (show gm≤wr.heap.size by omega)))
                   have hzc:wr.heap.size≤wc.heap.size:=Nat.le_trans hzb hb4.size
                   clear hr4 hb4 HRb HYb HAb HRsb HBb
                   go_upto_region 16 with fail))))))
    have HXe:=Lib.hid (show EvIn wc wc.heap.size A4 (apX t1 T0) from HRc.out.evin)
    have hzr:gm≤wc.heap.size:=by omega
    clear HRc
    have hba:Below wc.heap.size wc (wc.alloc (.cells #[] 30)):=(Below.refl _ _).alloc (Nat.le_refl _) _
    have HRx:=Lib.hid (show EvRow wc.heap.size (wc.alloc (.cells #[] 30)) (some ⟨wc.heap.size,0,none⟩) 0 0 [] from EvRow.empty wc (Nat.le_refl _))
    have HAx:=Lib.hid ((HAc.out.more hzc).below hba)
    have HYx:=Lib.hid (show EvIn (wc.alloc (.cells #[] 30)) wc.heap.size (some ⟨w7.heap.size,0,none⟩) [byeE] from by
      rw [HZ7.out,HYe.out]
      exact (HYc.out.more hzc).below hba)
    have HRsx:=Lib.hid ((HRsc.out.more hzc).below hba)
    have HXx:=Lib.hid (HXe.out.below hba)
    have HBx:=Lib.hid (HBc.out.trans (hba.mono hzr))
    have hzx:wc.heap.size≤(wc.alloc (.cells #[] 30)).heap.size:=hba.size
    clear hba HAc HYc HRsc HXe HBc
    go_upto_region 17 with (first
      | (at_builtin
         refine wpList_eapp rfl (.tmp 62) (.tmp 63) rfl rfl HRx.out rfl HAx.out rfl (by omega) hzx ?_
         intro A5 c5 wa hr2 hb2
         have HRa:=Lib.hid hr2
         have HYa:=Lib.hid (HYx.out.below hb2)
         have HXa:=Lib.hid (HXx.out.below hb2)
         have HRsa:=Lib.hid (HRsx.out.below hb2)
         have HBa:=Lib.hid (HBx.out.trans (hb2.mono hzr))
         have hza:wc.heap.size≤wa.heap.size:=Nat.le_trans hzx hb2.size
         clear hr2 hb2 HRx HYx HAx HXx HRsx HBx
         go_upto_region 17 with (first
           | (at_builtin
              refine wpList_eapp rfl (.tmp 64) (.tmp 65) rfl rfl HRa.out rfl HYa.out rfl (by omega) hza ?_
              intro A6 c6 wb hr3 hb3
              have HRb:=Lib.hid hr3
              have HXb:=Lib.hid (HXa.out.below hb3)
              have HRsb:=Lib.hid (HRsa.out.below hb3)
              have HBb:=Lib.hid (HBa.out.trans (hb3.mono hzr))
              have hzb:wc.heap.size≤wb.heap.size:=Nat.le_trans hza hb3.size
              clear hr3 hb3 HRa HYa HXa HRsa HBa
              go_upto_region 17 with (first
                | (at_builtin
                   refine wpList_eapp rfl (.tmp 66) (.tmp 67) rfl rfl HRb.out rfl HRsb.out hkl (by omega) hzb ?_
                   intro A7 c7 wd hr4 hb4
                   have HRd:=Lib.hid (show EvRow wc.heap.size wd A7 (5+k) c7 (apY T0) from hr4)
                   have HXd:=Lib.hid (HXb.out.below hb4)
                   have HBd:=Lib.hid (HBb.out.trans (hb4.mono hzr))
                   have hzd:wc.heap.size≤wd.heap.size:=Nat.le_trans hzb hb4.size
                   clear hr4 hb4 HRb HXb HRsb HBb
                   go_upto_region 17 with fail))))))
    have hel:(Sc.evs (apX t1 T0)).length≤262000∧(Sc.evs (apY T0)).length≤262000:=by
      have h1:∀ (l:List Sc.Ev),(∀ x∈l,Sc.rtE x=true)→(l.map fun e=>e.t.length).sum≤4000 * l.length:=fun l=>by
        induction l with
        | nil=>intro _; exact Nat.le_refl _
        | cons x l ih =>
          intro hx
          have h2:=ih fun y hy=>hx y (List.mem_cons_of_mem _ hy)
          have h3:=(Sc.rtE_in (hx x List.mem_cons_self)).2.2.2.2.2.2
          simp only [List.map_cons,List.sum_cons,List.length_cons]
          omega
      have h6:=H6.out
      unfold tot at h6
      have hsum:((restL T0).map fun e=>e.t.length).sum≤(T0.map fun e=>e.t.length).sum:=by
        have:∀ l:List Sc.Ev,((restL l).map fun e=>e.t.length).sum≤(l.map fun e=>e.t.length).sum:=fun l=>by
          unfold restL
          induction l with
          | nil=>exact Nat.le_refl _
          | cons x l ih =>
            by_cases hx:x.i≠9
            · rw [List.filter_cons_of_pos (by simpa using hx)]
              simp only [List.map_cons,List.sum_cons]
              omega
            · rw [List.filter_cons_of_neg (by simpa using hx)]
              simp only [List.map_cons,List.sum_cons]
              omega
        exact this T0
      have hX:=h1 (([] ++ apHead) ++ [midE t1]) fun x hx=>HXr.out x (List.mem_append_left _ hx)
      have hY:=h1 (([] ++ apHead) ++ [byeE]) fun x hx=>HYr.out x (List.mem_append_left _ hx)
      have e5:(([] ++ apHead) ++ [midE t1]).length=5:=rfl
      have e6:(([] ++ apHead) ++ [byeE]).length=5:=rfl
      rw [e5] at hX
      rw [e6] at hY
      have sX:((apX t1 T0).map fun (e:Sc.Ev)=>e.t.length).sum=((([] ++ apHead) ++ [midE t1]).map fun (e:Sc.Ev)=>e.t.length).sum+((restL T0).map fun (e:Sc.Ev)=>e.t.length).sum:=by unfold apX; rw [List.map_append,List.sum_append]
      have sY:((apY T0).map fun (e:Sc.Ev)=>e.t.length).sum=((([] ++ apHead) ++ [byeE]).map fun (e:Sc.Ev)=>e.t.length).sum+((restL T0).map fun (e:Sc.Ev)=>e.t.length).sum:=by unfold apY; rw [List.map_append,List.sum_append]
      rw [Sc.evs_len,Sc.evs_len,hxl,hyl,sX,sY]
      omega
    have hts:tsum (apX t1 T0)≤1000000∧tsum (apY T0)≤1000000:=by have h1:=tsum_le (apX t1 T0); have h2:=tsum_le (apY T0); omega
    have HSz:=Lib.hid (And.intro hel hts)
    clear hel hts
    go_wp2_with fail
    refine (default_any wd).mono ?_
    rintro r we ⟨rfl,hbe⟩
    have HXf:=Lib.hid ((HXd.out.more hzd).below hbe)
    have HYf:=Lib.hid (HRd.out.evin.below hbe)
    have HBe:=Lib.hid (HBd.out.trans (hbe.mono (by omega)))
    have hze:wd.heap.size≤we.heap.size:=hbe.size
    clear hbe HXd HRd HBd
    have HPl:=Lib.hid (show Calls Tryz.prog 16 #[.agg #[.int .i64 4096,.int .i64 512,.int .i64 2048,.int .i64 256,.int .i64 3,.int .i64 100,.int .i64 0,.int .i64 80],.slice A4 (5+k) c4] we (PLGives cfd (apX t1 T0) we) from played_any cfd_rt8 cfd_ok (apX t1 T0) HXr.out (by omega) HSz.out.2.1 HSz.out.1.1 A4 (5+k) c4 we (HTI.out.below (by rw [HG.out]; exact HBe.out)) (HXf.out.more hze) hxl)
    unfold cv
    go_wp2_with fail
    refine HPl.out.mono ?_
    rintro r wf ⟨g1,n1,a1,o1,rfl,_,_,hrow1,_,hbf⟩
    rw [hxl] at hrow1 ⊢
    have HO1:=Lib.hid (show OtIn wf wf.heap.size a1 (pouts (bnew cfd) (apX t1 T0)) from hrow1.otin)
    have HYg:=Lib.hid ((HYf.out.more hze).below hbf)
    have HBf:=Lib.hid (HBe.out.trans (hbf.mono (by omega)))
    have hzf:we.heap.size≤wf.heap.size:=hbf.size
    clear hrow1 hbf HPl HXf HYf HBe
    go_wp2_with fail
    refine (default_any wf).mono ?_
    rintro r wg ⟨rfl,hbg⟩
    have HO1g:=Lib.hid ((HO1.out.below hbg))
    have HYh:=Lib.hid ((HYg.out.more hzf).below hbg)
    have HBg:=Lib.hid (HBf.out.trans (hbg.mono (by omega)))
    have hzg:wf.heap.size≤wg.heap.size:=hbg.size
    clear hbg HO1 HYg HBf
    have HPl:=Lib.hid (show Calls Tryz.prog 16 #[.agg #[.int .i64 4096,.int .i64 512,.int .i64 2048,.int .i64 256,.int .i64 3,.int .i64 100,.int .i64 0,.int .i64 80],.slice A7 (5+k) c7] wg (PLGives cfd (apY T0) wg) from played_any cfd_rt8 cfd_ok (apY T0) HYr.out (by omega) HSz.out.2.2 HSz.out.1.2 A7 (5+k) c7 wg (HTI.out.below (by rw [HG.out]; exact HBg.out)) (HYh.out.more hzg) hyl)
    unfold cv
    go_wp2_with fail
    refine HPl.out.mono ?_
    rintro r wh ⟨g2,n2,a2,o2,rfl,_,_,hrow2,_,hbh⟩
    rw [hyl,HSm.out] at hrow2
    rw [hyl]
    obtain ⟨O,hO⟩:∃ O,pouts (bnew cfd) (apX t1 T0)=O:=⟨_,rfl⟩
    have hOl:O.length=5+k:=by rw [← hO,pouts_len,hxl]
    rw [hO] at hrow2 HO1g
    have HA7:=Lib.hid (show OtIn wh wh.heap.size a2 O from hrow2.otin)
    have HA9:=Lib.hid (show OtIn wh wh.heap.size a1 O from otin_more ((otin_more HO1g.out hzg).below hbh) hbh.size)
    have HBh:=Lib.hid (HBg.out.trans (hbh.mono (by omega)))
    have HOl:=Lib.hid hOl
    obtain ⟨Z,hZ⟩:∃ Z,wh.heap.size=Z:=⟨_,rfl⟩
    rw [hZ] at HA7 HA9
    clear hrow2 hbh HPl HYh HBg HO1g hO hOl hxl hyl HSm HXr HYr HSz hZ
    have dnn:(((5+k:Nat):Int) != ((5+k:Nat):Int))=false:=by simp
    obtain ⟨n9,hn9⟩:∃ n9,5+k=n9:=⟨_,rfl⟩
    have HN9:=Lib.hid hn9
    rw [hn9] at HOl
    simp only [hn9] at dnn ⊢
    have hn9l:n9≤125:=by omega
    clear hn9
    go_wp2_with fail
    go_loopw [91] (fun s wz=>∃ r:Nat,s = .int .i64 (r:Nat)∧r≤n9∧OtIn wz Z a2 O∧OtIn wz Z a1 O∧Below gm w wz) (fun s _=>n9 - (intOf s).toNat)
    case atStart=>exact ⟨0,rfl,Nat.zero_le _,HA7.out,HA9.out,HBh.out⟩
    case round =>
      obtain ⟨r,rfl,hr,ho7,ho9,hb⟩:=hrel
      have HA7:=Lib.hid ho7
      have HA9:=Lib.hid ho9
      have HBz:=Lib.hid hb
      clear ho7 ho9 hb HBh
      by_cases hrn:r<n9
      rotate_left
      · obtain rfl:r=n9:=by omega
        have dr:decide ((r:Int)<(r:Int))=false:=by simp
        go_wp2
        go_ret
        exact ⟨rfl,by rw [HG.out]; exact HBz.out⟩
      have dr:decide ((r:Int)<(n9:Int))=true:=decide_eq_true (by omega)
      obtain ⟨o,ho⟩:∃ o,O[r]?=some o:=⟨_,List.getElem?_eq_getElem (by rw [HOl.out]; exact hrn)⟩
      have hfr:=HA7.out
      obtain ⟨b7,o7,rfl,_,hc7⟩:=hfr (by rw [HOl.out]; omega)
      obtain ⟨p0,p1⟩:=hc7 r o ho
      have hfr:=HA9.out
      obtain ⟨b9,o9,rfl,_,hc9⟩:=hfr (by rw [HOl.out]; omega)
      obtain ⟨q0,q1⟩:=hc9 r o ho
      obtain ⟨cl,hcl⟩:∃ cl:List (Addr×Value),[(⟨b7,o7+r * 2,none⟩,.int .i64 (o.e:Nat)),(⟨b7,o7+r * 2+1,none⟩,.string (str o.t)),(⟨b9,o9+r * 2,none⟩,.int .i64 (o.e:Nat)),(⟨b9,o9+r * 2+1,none⟩,.string (str o.t))]=cl:=⟨_,rfl⟩
      have HCs:=Lib.hid (show Cs cl wr.drew from by
        rw [← hcl]
        intro p hp
        simp only [List.mem_cons,List.not_mem_nil,or_false] at hp
        rcases hp with rfl | rfl | rfl | rfl
        · exact p0
        · exact p1
        · exact q0
        · exact q1)
      have HGet:=Lib.hid (show ∀ W,Cs cl W→(W.cell? ⟨b7,o7+r * 2,none⟩=some (.int .i64 (o.e:Nat))∧W.cell? ⟨b7,o7+r * 2+1,none⟩=some (.string (str o.t)))∧W.cell? ⟨b9,o9+r * 2,none⟩=some (.int .i64 (o.e:Nat))∧W.cell? ⟨b9,o9+r * 2+1,none⟩=some (.string (str o.t)) from fun W h=>by
        rw [← hcl] at h
        exact ⟨⟨h _ (.head _),h _ (.tail _ (.head _))⟩,h _ (.tail _ (.tail _ (.head _))),h _ (.tail _ (.tail _ (.tail _ (.head _))))⟩)
      clear hcl p0 p1 q0 q1 hc7 hc9 hfr ho
      go_upto_region 24 with fail
      go_wp2_with fail
      refine wp_region_held (S:=fun W=>Cs cl W) hmix ?_
      change wpAnyH _ _ _ _ _ _ _ _ (World.drew _)
      refine wpAnyH_take (i:=0) (v:=.slice (some ⟨b9,o9,none⟩) n9 o1) rfl (by kernel_rfl) (by kernel_rfl) (by kernel_rfl) (fun _ _ _ h=>h) (.inl ⟨by kernel_rfl,fun W hW=>?_⟩) HCs.out ?_
      · go_simp; try (first | rfl | omega | (intro hh; exfalso; omega))
      refine wpAnyH_take (i:=1) (v:=.int .i64 (r:Nat)) rfl (by kernel_rfl) (by kernel_rfl) (by kernel_rfl) (fun _ _ _ h=>h) (.inl ⟨by kernel_rfl,fun W hW=>?_⟩) HCs.out ?_
      · go_simp; try (first | rfl | omega | (intro hh; exfalso; omega))
      refine wpAnyH_take (i:=2) (v:=.pointer (some ⟨b9,o9+r * 2,none⟩)) rfl (by kernel_rfl) (by kernel_rfl) (by kernel_rfl) (fun _ _ _ h=>h) (.inl ⟨by kernel_rfl,fun W hW=>?_⟩) HCs.out ?_
      · go_simp; try (first | rfl | omega | (intro hh; exfalso; omega))
      refine wpAnyH_take (i:=3) (v:=.agg #[.int .i64 (o.e:Nat),.string (str o.t)]) rfl (by kernel_rfl) (by kernel_rfl) (by kernel_rfl) (fun _ _ _ h=>h) (.inl ⟨by kernel_rfl,fun W hW=>?_⟩) HCs.out ?_
      · have l0:=(HGet.out W hW).2.1; have l1:=(HGet.out W hW).2.2; go_simp; try (first | rfl | omega | (intro hh; exfalso; omega))
      refine wpAnyH_take (i:=4) (v:=.slice (some ⟨b7,o7,none⟩) n9 o2) rfl (by kernel_rfl) (by kernel_rfl) (by kernel_rfl) (fun _ _ _ h=>h) (.inl ⟨by kernel_rfl,fun W hW=>?_⟩) HCs.out ?_
      · go_simp; try (first | rfl | omega | (intro hh; exfalso; omega))
      refine wpAnyH_take (i:=5) (v:=.int .i64 (r:Nat)) rfl (by kernel_rfl) (by kernel_rfl) (by kernel_rfl) (fun _ _ _ h=>h) (.inl ⟨by kernel_rfl,fun W hW=>?_⟩) HCs.out ?_
      · go_simp; try (first | rfl | omega | (intro hh; exfalso; omega))
      refine wpAnyH_take (i:=6) (v:=.pointer (some ⟨b7,o7+r * 2,none⟩)) rfl (by kernel_rfl) (by kernel_rfl) (by kernel_rfl) (fun _ _ _ h=>h) (.inl ⟨by kernel_rfl,fun W hW=>?_⟩) HCs.out ?_
      · go_simp; try (first | rfl | omega | (intro hh; exfalso; omega))
      refine wpAnyH_take (i:=7) (v:=.agg #[.int .i64 (o.e:Nat),.string (str o.t)]) rfl (by kernel_rfl) (by kernel_rfl) (by kernel_rfl) (fun _ _ _ h=>h) (.inl ⟨by kernel_rfl,fun W hW=>?_⟩) HCs.out ?_
      · have l0:=(HGet.out W hW).1.1; have l1:=(HGet.out W hW).1.2; go_simp; try (first | rfl | omega | (intro hh; exfalso; omega))
      refine wpAnyH_take (i:=8) (v:=.bool false) rfl (by kernel_rfl) (by kernel_rfl) (by kernel_rfl) (fun _ _ _ h=>h) (.inl ⟨by kernel_rfl,fun W hW=>?_⟩) HCs.out ?_
      · go_simp; try (first | rfl | omega | (intro hh; exfalso; omega))
      refine wpAnyH_done (by kernel_rfl) ?_ _
      go_simp
      go_wp2
      go_roundw
      case rel=>exact ⟨r+1,by go_num,by omega,fun h=>HA7.out h,fun h=>HA9.out h,below_drew HBz.out⟩
      case measure=>simp [intOf]; omega
theorem w_in:Tryz.checked.prog.inits.idxOf? 6=none:=by kernel_rfl
theorem w_ok (os:Os):Input.okWideB Tryz.prog ((World.doorLaid Tryz.prog 400 os).forCall (fun _ _=>0) ⟨#[],#[.slice none 0 0,.string ⟨#[]⟩],[]⟩) 6 ⟨#[],#[.slice none 0 0,.string ⟨#[]⟩],[]⟩=true:=by kernel_rfl
theorem w_pre (os:Os) (H:Type) (enc:TypeId×Value→H):Rows.wholeApartSpec.preB enc Tryz.prog Tryz.f6 [] false ((World.doorLaid Tryz.prog 400 os).forCall (fun _ _=>0) ⟨#[],#[.slice none 0 0,.string ⟨#[]⟩],[]⟩).memory #[.slice none 0 0,.string ⟨#[]⟩] 8=true:=by kernel_rfl
theorem w_sz (os:Os) (H:Type) (enc:TypeId×Value→H):Rows.wholeApartSpec.sizedB enc Tryz.prog Tryz.f6 false ((World.doorLaid Tryz.prog 400 os).forCall (fun _ _=>0) ⟨#[],#[.slice none 0 0,.string ⟨#[]⟩],[]⟩).memory #[.slice none 0 0,.string ⟨#[]⟩] 8=true:=by kernel_rfl
set_option maxRecDepth 100000 in
theorem lifted (os:Os) (started:os.Started) (H:Type) (enc:TypeId×Value→H) :
  ReturnsInHanded {} Tryz.checked os 6 .any (fun w args=>(Rows.wholeApartSpec.pre enc Tryz.prog Tryz.f6 [] false w args∧laidMetH Tryz.prog laidL w)∧sizedMet enc Tryz.prog Tryz.f6 (OpenSpec.ofChange Rows.wholeApartSpec) false w args)
   (Rows.wholeApartSpec.post enc Tryz.prog Tryz.f6 false true false false):=by
 refine returnsInHanded_of_change_and (C:=Tryz.checked) (X:=fun w _=>laidMetH Tryz.prog laidL w) (fun _ _ _ hh h=>h.of_heap hh) own started w_in Tryz.func6
  (ChangeSpec.witness_shaped (enc:=enc) (C:=Tryz.checked) (os:=os) (X:=fun w _=>laidMetH Tryz.prog laidL w) false (World.doorLaid Tryz.prog 400 os) #[.slice none 0 0,.string ⟨#[]⟩] 8 rfl (door_shaped os _) (w_ok os) (w_pre os H enc) (w_sz os H enc) (door_met os _)) ?_
 intro W base args ds gs before hval0 hW hcnd hsz0 hL _
 have hti:=ti_of hL
 have hval:∀ (j:Nat) t v,Tryz.f6.params[j]?=some t→args[j]?=some v→Value.okWide Tryz.prog W .any base t v:=hval0
 have hW':=hW
 obtain ⟨p,q,hA0,hV,rfl,hfz,hnd⟩:=hW
 have hsz:(DataW.weightsEach Tryz.prog (Tryz.f6.params.toList ++ Rows.wholeApartSpec.plain.varTypes Tryz.prog) (ds ++ gs)).all (·≤reachBytes)=true:=hsz0
 have hA:DataW.TrodAll enc Tryz.prog W 0 (fun _=>true) true Tryz.f6.params.toList args.toList ds p:=hA0
 rw [Tryz.params6] at hA hval hsz
 obtain ⟨v0,vs0,d0,ds0,p0,q0,hargs,rfl,rfl,h0,r0⟩:=trodAll_cons hA
 obtain ⟨v1,vs1,d1,ds1,p1,q1,rfl,rfl,rfl,h1,r1⟩:=trodAll_cons r0
 obtain ⟨rfl,rfl,rfl⟩:=trodAll_nil r1
 obtain rfl:args = #[v0,v1]:=by cases args; simp_all
 obtain ⟨rfl,rfl⟩:=trodVars_none hV
 obtain ⟨a0,len0,cap0,rfl⟩:=okWide_slice Tryz.underlying25 (hval 0 25 v0 rfl rfl)
 have k0:=h0
 have lt0:∀ x∈p0,x.block<W.heap.size:=by obtain ⟨m,hm⟩:=k0; exact DataW.trod_lt m _ _ _ hm
 obtain ⟨T0,w0,g0⟩:∃ T,EvIn W W.heap.size a0 T∧T.length=len0∧len0≤cap0∧cap0≤maxLen:=by
  obtain ⟨fuel,hf⟩:=h0
  exact open_events hf
 have k1:=h1
 have lt1:∀ x∈p1,x.block<W.heap.size:=by obtain ⟨m,hm⟩:=k1; exact DataW.trod_lt m _ _ _ hm
 obtain ⟨s1,rfl,_,_,hs1⟩:=Go.ChangeMaps.open_string Tryz.underlying9 (hval 1 9 v1 rfl rfl) h1
 obtain ⟨t1,rfl,w1⟩:=as_str s1 hs1
 clear hA0 hval0 hsz hsz0
 refine (walk a0 len0 cap0 T0 t1 W w0 g0 w1 hti).mono fun e W' ⟨he,bel⟩=>?_
 subst he
 exact ⟨_,rfl,_,_,_,[],_,[],hW',trodAll_mk1 (shut_bool Tryz.underlying4 _),(trodAll_cons_mk (Below.trod laidOut (by kernel_rfl) (of_decide_eq_true (by kernel_rfl)) k0 bel lt0) (trodAll_cons_mk (Below.trod laidOut (by kernel_rfl) (of_decide_eq_true (by kernel_rfl)) k1 bel lt1) trodAll_mk0)),rfl,bel.frame _,fun h=>by cases h⟩
theorem q0:(Rows.wholeApartRow.wf (OpenSpec.ofChange Rows.wholeApartSpec))=true:=by kernel_rfl
theorem q3:(Tryz.f6.params.all (Tryz.prog.readableRec ·))=true:=by kernel_rfl
theorem q4:(namedTie Tryz.prog Rows.wholeApartRow.named Rows.wholeApartSpec.vars)=true:=by kernel_rfl
theorem q5:((Rows.wholeApartRow.stops == []))=true:=by kernel_rfl
theorem q7:((Rows.wholeApartRow.knobs == []))=true:=by kernel_rfl
theorem q9:((Rows.wholeApartRow.inPlace == Tryz.prog.inPlace 6))=true:=by kernel_rfl
theorem q10:((Rows.wholeApartRow.unfollowed == Tryz.prog.unfollowed 6))=true:=by kernel_rfl
theorem q11:((Rows.wholeApartRow.recurses == Tryz.prog.recurses 6))=true:=by kernel_rfl
theorem q12:((Rows.wholeApartRow.named == Tryz.prog.varsNamed 6))=true:=by kernel_rfl
theorem q13:((Rows.wholeApartRow.maps == (Tryz.f6.params.toList ++ Rows.wholeApartSpec.plain.varTypes Tryz.prog).any (Tryz.prog.mapsRec ·)))=true:=by kernel_rfl
theorem q14:((Rows.wholeApartRow.ifaces == (Tryz.f6.params.toList ++ Rows.wholeApartSpec.plain.varTypes Tryz.prog).any (Tryz.prog.ifacesRec ·)))=true:=by kernel_rfl
theorem q15:((Rows.wholeApartRow.mapsOut == Tryz.prog.mapsAmong Tryz.f6.resultTypes.toList))=true:=by kernel_rfl
theorem q16:((Rows.wholeApartRow.loops == (Tryz.f6.params.toList ++ Rows.wholeApartSpec.plain.varTypes Tryz.prog).any (Tryz.prog.loopsFrom ·)))=true:=by kernel_rfl
theorem q17:((Rows.wholeApartRow.wideKeys == (Tryz.f6.params.toList ++ Rows.wholeApartSpec.plain.varTypes Tryz.prog ++ Tryz.f6.resultTypes.toList).any (Tryz.prog.wideKeysFrom ·)))=true:=by kernel_rfl
theorem q18:(Rows.wholeApartSpec.vars.all (Tryz.prog.varReadable ·))=true:=by kernel_rfl
theorem q19:(Tryz.f6.resultTypes.all (fun t=>Tryz.prog.readableRec t && decide (t<Tryz.prog.types.size)))=true:=by kernel_rfl
theorem q20:((Rows.wholeApartRow.ifacesOut == Tryz.f6.resultTypes.toList.any (Tryz.prog.ifacesRec ·)))=true:=by kernel_rfl
theorem q21:((Rows.wholeApartRow.loopsOut == Tryz.f6.resultTypes.toList.any (Tryz.prog.loopsFrom ·)))=true:=by kernel_rfl
theorem q22:((Rows.wholeApartRow.plainKeys == Tryz.prog.plainKeys))=true:=(show Rows.wholeApartRow.plainKeys=Rows.wholeTilesRow.plainKeys from rfl) ▸ pq22
theorem q23:(Rows.wholeApartRow.shortTexts.isNone)=true:=by kernel_rfl
theorem q26:((Rows.wholeApartRow.lifted == Tryz.prog.liftsFinal))=true:=(show Rows.wholeApartRow.lifted=Rows.wholeTilesRow.lifted from rfl) ▸ pq26
theorem q27:((Tryz.prog.make == some Rows.wholeApartRow.make))=true:=(show Rows.wholeApartRow.make=Rows.wholeTilesRow.make from rfl) ▸ pq27
theorem q28:kindsAre Tryz.prog Rows.wholeApartRow Tryz.f6=true:=by kernel_rfl
theorem q29:((Rows.wholeApartRow.pinned == Rows.wholeApartRow.pinnedBy))=true:=by kernel_rfl
theorem q30:((Rows.wholeApartRow.veiled == (Tryz.f6.params.toList ++ Rows.wholeApartSpec.plain.varTypes Tryz.prog ++ Tryz.f6.resultTypes.toList).any (Tryz.prog.veiledRec ·)))=true:=by kernel_rfl
theorem q31:(Rows.wholeApartRow.veiledFits Tryz.prog Tryz.f6.params.toList (Tryz.f6.params.toList ++ Rows.wholeApartSpec.plain.varTypes Tryz.prog ++ Tryz.f6.resultTypes.toList))=true:=by kernel_rfl
theorem q_named:Tryz.prog.funcNamed Rows.wholeApartRow.func=some 6:=by kernel_rfl
theorem q_inst:Tryz.f6.isInstance Tryz.prog Rows.wholeApartRow.origin Rows.wholeApartRow.targs:=of_decide_eq_true (by kernel_rfl)
theorem q_wrap:Tryz.f6.isWrapper Tryz.prog Rows.wholeApartRow.wrapper Rows.wholeApartRow.mainSum:=by unfold Func.isWrapper; first | (rw [if_pos (by decide +kernel)]; kernel_rfl) | (rw [if_neg (by decide +kernel)]; exact ⟨rfl,rfl⟩)
set_option maxRecDepth 100000 in
theorem q_all:joinedFacts Tryz.prog 6 Tryz.f6 Rows.wholeApartSpec Rows.wholeApartRow=true:=joined_of (P:=Tryz.prog) (f:=6) (fn:=Tryz.f6) (s:=Rows.wholeApartSpec) (c:=Rows.wholeApartRow) q0 pq1 pq2 q3 q4 q5 pq6 q7 pq8 q9 q10 q11 q12 q13 q14 q15 q16 q17 q18 q19 q20 q21 q22 q23 pq24 pq25 q26 q27 q28 q29 q30 q31
theorem over:Rows.WholeApartSaid:=
 OpenClaim.holds_of_wide 6 Tryz.f6 rfl rfl rfl rfl rfl rfl rfl ⟨rfl,rfl,rfl,rfl,rfl⟩ rfl rfl rfl rfl rfl q_named Tryz.func6 q_all q_inst q_wrap
  (fun os started H enc _=>lifted os started H enc)
theorem c_wf:Rows.wholeApartRow.wfByText (OpenSpec.ofChange Rows.wholeApartSpec)=true:=by kernel_rfl
theorem c_looks:true=Tryz.prog.looks []:=by kernel_rfl
theorem c_stand:([25,9].all fun u=>!Tryz.prog.wantsStandIn u)=true:=by kernel_rfl
theorem c_goes:false=Rows.wholeApartRow.goesBy Tryz.prog:=by kernel_rfl
end Go.Proofs.YtalichkdeekdcaaGreatDoor.wholeApart
namespace Go.Proofs.YtalichkdeekdcaaGreatDoor
theorem wholeApart_holds:Rows.WholeApartCardSaid:=
 Claim7.holds_tied_plain_at (c:=Rows.wholeApartRow) .later [] _ true _ true
  wholeApart.over (fun _ h=>by cases h) wholeApart.c_wf (fun _ h=>by cases h) wholeApart_row_tie rfl ⟨rfl,rfl⟩ main_is rfl
  (fun f fn hf hfn=>by
   obtain rfl:f=6:=Option.some.inj (wholeApart.q_named.symm.trans hf) |>.symm
   obtain rfl:fn=Tryz.f6:=(Option.some.inj (Tryz.func6.symm.trans hfn)).symm
   exact ⟨wholeApart.c_looks,fun j t ht=>by
    rw [Tryz.params6] at ht
    have hm:t∈[25,9]:=by simpa using Array.mem_of_getElem? ht
    exact (show Tryz.prog.wantsStandIn t=false by simpa using List.all_eq_true.1 wholeApart.c_stand t hm)⟩)
  wholeApart.c_goes
#print axioms wholeApart_holds
end Go.Proofs.YtalichkdeekdcaaGreatDoor
