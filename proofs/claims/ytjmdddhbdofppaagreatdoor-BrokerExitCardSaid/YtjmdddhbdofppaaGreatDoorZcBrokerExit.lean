/- BrokerExit: for every input the law answers true, and its arguments read as before. Conditions: none. -/
import Derived.BigQuiet
import Derived.Test.YtjmdddhbdofppaaGreatDoorZc10
import Derived.Test.YtjmdddhbdofppaaGreatDoorZc23
import Derived.Test.YtjmdddhbdofppaaGreatDoorZc42
import Derived.Test.YtjmdddhbdofppaaGreatDoorZcLw
import Derived.Test.YtjmdddhbdofppaaGreatDoorZcQe
import Derived.Test.YtjmdddhbdofppaaGreatDoorZcQg
import Derived.Test.YtjmdddhbdofppaaGreatDoorZcQj

namespace Go.Proofs.YtjmdddhbdofppaaGreatDoor.brokerExit
open Go.ChangeShapes Go.WideShapes Go.ChangeAt Go.RowKit
open Fr Bk
structure ExEv (t : Bs) (c : Nat) : Prop where
  e1 : EvOk hd1 0 0 0
  e2 : EvOk hd2 0 2100 0
  e3 : EvOk hd3 0 4300 0
  e4 : EvOk ex3 0 6500 0
  e5 : EvOk (ex4 t) 0 6500 300
  e6 : EvOk (ex5 t) 0 6500 300
  e7 : EvOk (ex6 t c) 0 6500 300
  e8 : EvOk (ex7 t c) 0 6500 300
  e9 : EvOk (ex8 t c) 0 8700 300
  e10 : EvOk (ex9 t c) 0 8700 300
  e11 : EvOk (ex10 t c) 0 11000 300
  e12 : EvOk (ex11 t c) 0 11000 300
theorem ev_up {b : Br} {i T m i' T' m' : Nat} (h : EvOk b i T m) (h1 : i≤i') (h2 : T≤T') (h3 : m≤m') : EvOk b i' T' m':=⟨h.ok,fun k c hc=>⟨Nat.le_trans (h.cn k c hc).1 h1,(h.cn k c hc).2⟩,Nat.le_trans h.tot h2,Nat.le_trans h.len h3,h.sp⟩
theorem ex_ev {t : Bs} (ht : t.length≤300) (c : Nat) : ExEv t c:=by
  have h1 : EvOk hd1 0 0 0:=cfd_ok.connect 1
  have h2 : EvOk hd2 0 2100 0:=ev_up (h1.bytes 1 (enc (helloM [97#8]))) (Nat.le_refl _) (by rw [enc_len5]; decide) (Nat.le_refl _)
  have h3 : EvOk hd3 0 4300 0:=ev_up (h2.bytes 1 (enc (keys 1 (esc wFloor)))) (Nat.le_refl _) (by rw [enc_len5]; decide) (Nat.le_refl _)
  have h4 : EvOk ex3 0 6500 0:=ev_up (h3.bytes 1 (enc (keys 2 [108#8,115#8]))) (Nat.le_refl _) (by rw [enc_len5]; decide) (Nat.le_refl _)
  have h5 : EvOk (ex4 t) 0 6500 300:=ev_up (h4.output t (by omega)) (Nat.le_refl _) (Nat.le_refl _) (by omega)
  have h6 : EvOk (ex5 t) 0 6500 300:=h5.write 1 5000
  have h7 : EvOk (ex6 t c) 0 6500 300:=h6.ends c
  have h8 : EvOk (ex7 t c) 0 6500 300:=h7.drain 9
  have h9 : EvOk (ex8 t c) 0 8700 300:=ev_up (h8.bytes 1 (enc (keys 3 [120#8]))) (Nat.le_refl _) (by rw [enc_len5]; decide) (Nat.le_refl _)
  have h10 : EvOk (ex9 t c) 0 8700 300:=h9.connect 2
  have h11 : EvOk (ex10 t c) 0 11000 300:=ev_up (h10.bytes 2 (enc watchM)) (Nat.le_refl _) (by rw [enc_len5]; decide) (Nat.le_refl _)
  exact ⟨h1,h2,h3,h4,h5,h6,h7,h8,h9,h10,h11,h11.write 1 5000⟩
theorem exX_ok {c : Nat} (hc : c≤255) : ∀ m∈[mexit c,rejectM 3 1,joined 2 [98#8]],m.ok = true:=by
  intro m hm
  simp only [List.mem_cons,List.not_mem_nil,or_false] at hm
  rcases hm with rfl | rfl | rfl
  · unfold M.ok mexit
    rw [Ms.rt_iff]
    exact ⟨rfl,by show Ms.okN (c : Int) true = true; unfold Ms.okN; simp; omega,rfl,Nat.zero_le _⟩
  · decide
  · unfold M.ok joined notice
    rw [Ms.rt_iff]
    refine ⟨rfl,rfl,rfl,?_⟩
    have:=Dgs.dgs_len 2 2 (by decide)
    show (wJoined ++ Dgs.dgs 2 ++ [32#8] ++ [98#8]).length≤80
    simp only [List.length_append]
    show 7 + _ + 1 + 1≤80
    omega
theorem exY_ok {t : Bs} (ht : t.length≤300) {c : Nat} (hc : c≤255) : ∀ m∈[welcome 2 0 0,mfloor 1,mexit c] ++ (if t = [] then [] else [dataM 0 t]),m.ok = true:=by
  intro m hm
  rcases List.mem_append.1 hm with hm | hm
  · simp only [List.mem_cons,List.not_mem_nil,or_false] at hm
    rcases hm with rfl | rfl | rfl
    · decide
    · decide
    · exact exX_ok hc _ List.mem_cons_self
  · split at hm
    · cases hm
    · rw [List.mem_singleton.1 hm]
      unfold M.ok dataM
      rw [Ms.rt_iff]
      exact ⟨rfl,rfl,rfl,by show t.length≤2042; omega⟩
set_option maxRecDepth 100000 in
set_option maxHeartbeats 2000000 in
theorem walk (a0 : Int) (a1 : Option Addr) (len1 cap1 : Nat) (z1 : List Int) (w : World) (w0 : (Lit.int .i64 a0).wf = true) (w1 : IsRow .u8 w a1 len1 cap1 z1) (ht : TI w) :
    Calls Tryz.prog 16 #[.int .i64 a0,.slice a1 len1 cap1] w fun e w'=>e = .returned (.bool true)∧Below w.heap.size w w':=by
  obtain ⟨q,hq,hand⟩:=bits_any a0 255 (by decide)
  have hand : bits .and .i64 a0 255 = (q : Int):=hand
  obtain ⟨t,hl,_⟩:=w1.bytes
  obtain ⟨hcap,hmax⟩:=w1.cap
  have hlen : t.length = len1:=hl.1
  have HL:=Lib.hid hl
  have HTI:=Lib.hid ht
  have hid1 : wf64 1:=by decide
  have hid2 : wf64 2:=by decide
  have HA0':=Lib.hid w0
  clear hl w0 w1 ht hmax HA0'
  go_enter Tryz.func16,Tryz.ntmps16
  go_wp2_with fail
  refine (bhead_any w HTI.out).mono ?_
  rintro e w1 ⟨rfl,hb1⟩
  have HB1:=Lib.hid hb1
  clear hb1
  by_cases h300 : 300 < len1
  · have dd0 : decide ((len1 : Int) > 300) = true:=by simp; omega
    have dd1 : decide (300 < (len1 : Int)) = true:=by simp; omega
    go_wp2
    go_ret
    exact ⟨rfl,HB1.out⟩
  have ht3 : t.length≤300:=by omega
  have dd0 : decide ((len1 : Int) > 300) = false:=by simp; omega
  have dd1 : decide (300 < (len1 : Int)) = false:=by simp; omega
  have HEV:=Lib.hid (ex_ev ht3 q)
  have H6:=Lib.hid (ex6_is ht3 hq)
  have H7:=Lib.hid (ex7_is ht3 hq)
  have H11:=Lib.hid (ex11_is ht3 hq)
  have HOX:=Lib.hid (exX_ok hq)
  have HOY:=Lib.hid (exY_ok ht3 hq)
  go_wp2_with fail
  refine (default_any _).mono ?_
  rintro e w2 ⟨rfl,hb2⟩
  have HB2:=Lib.hid (Below.trans HB1.out (hb2.mono HB1.out.size))
  clear hb2 HB1
  go_wp2_with fail
  refine (lb_new cfd_right w2 (HTI.out.below HB2.out)).mono ?_
  rintro e w3 ⟨g,rfl,hl3,hb3⟩
  have HL3:=Lib.hid hl3
  have HB3:=Lib.hid (Below.trans HB2.out (hb3.mono HB2.out.size))
  have hn0 : w.heap.size≤w2.heap.size:=HB2.out.size
  clear hl3 hb3 HB2
  generalize w2.heap.size = n0 at *
  go_wp2_with fail
  refine (lb_connect HL3.out cfd_ok.ok 1 hid1).mono ?_
  rintro e w4 ⟨rfl,hl4,hb4⟩
  have HL4:=Lib.hid (show LBx n0 g w4 (hd1) from hl4)
  have HB4:=Lib.hid (Below.trans HB3.out (hb4.mono hn0))
  clear hl4 hb4 HL3 HB3
  go_wp2_with fail
  refine (lhello_any [97#8] (by decide) w4).mono ?_
  rintro e w5 ⟨A5,c5,rfl,hy5,hn5,_,hb5⟩
  have HW5:=Lib.hid (LAway.made (n:=(enc (helloM [97#8])).length) HL4.out hb5 hn5)
  have HY5:=Lib.hid hy5
  have HL5:=Lib.hid (HL4.out.below hb5)
  have HB5:=Lib.hid (Below.trans HB4.out (hb5.mono HB4.out.size))
  clear hy5 hn5 hb5 HL4 HB4
  go_wp2_with fail
  refine (lb_bytes HW5.out HEV.out.e1 (by decide) 1 hid1 c5 HY5.out (by rw [enc_len5]; decide)).mono ?_
  rintro e w6 ⟨rfl,hl6,hb6⟩
  have HL6:=Lib.hid (show LBx n0 g w6 (hd2) from hl6)
  have HB6:=Lib.hid (Below.trans HB5.out (hb6.mono hn0))
  clear hl6 hb6 HL5 HB5
  clear HW5 HY5
  go_wp2_with fail
  refine (ltyped_any 1 (esc wFloor) (by decide) (by decide) (by decide) w6).mono ?_
  rintro e w7 ⟨A7,c7,rfl,hy7,hn7,_,hb7⟩
  have HW7:=Lib.hid (LAway.made (n:=(enc (keys 1 (esc wFloor))).length) HL6.out hb7 hn7)
  have HY7:=Lib.hid hy7
  have HL7:=Lib.hid (HL6.out.below hb7)
  have HB7:=Lib.hid (Below.trans HB6.out (hb7.mono HB6.out.size))
  clear hy7 hn7 hb7 HL6 HB6
  go_wp2_with fail
  refine (lb_bytes HW7.out HEV.out.e2 (by decide) 1 hid1 c7 HY7.out (by rw [enc_len5]; decide)).mono ?_
  rintro e w8 ⟨rfl,hl8,hb8⟩
  have HL8:=Lib.hid (show LBx n0 g w8 (hd3) from hl8)
  have HB8:=Lib.hid (Below.trans HB7.out (hb8.mono hn0))
  clear hl8 hb8 HL7 HB7
  clear HW7 HY7
  go_wp2_with fail
  refine (ltyped_any 2 [108#8,115#8] (by decide) (by decide) (by decide) w8).mono ?_
  rintro e w9 ⟨A9,c9,rfl,hy9,hn9,_,hb9⟩
  have HW9:=Lib.hid (LAway.made (n:=(enc (keys 2 [108#8,115#8])).length) HL8.out hb9 hn9)
  have HY9:=Lib.hid hy9
  have HL9:=Lib.hid (HL8.out.below hb9)
  have HB9:=Lib.hid (Below.trans HB8.out (hb9.mono HB8.out.size))
  clear hy9 hn9 hb9 HL8 HB8
  go_wp2_with fail
  refine (lb_bytes HW9.out HEV.out.e3 (by decide) 1 hid1 c9 HY9.out (by rw [enc_len5]; decide)).mono ?_
  rintro e w10 ⟨rfl,hl10,hb10⟩
  have HL10:=Lib.hid (show LBx n0 g w10 (ex3) from hl10)
  have HB10:=Lib.hid (Below.trans HB9.out (hb10.mono hn0))
  clear hl10 hb10 HL9 HB9
  clear HW9 HY9
  have HA0:=Lib.hid (show 0 < len1→∀ p,a1 = some p→p.block < n0 from fun hp p e=>by
    obtain ⟨b,off,e2,hlt,_⟩:=HL.out.2 hp
    rw [e] at e2
    injection e2 with e2
    subst e2
    show b < n0
    omega)
  go_wp2_with fail
  refine (lb_output (LAway.old HL10.out HA0.out) HEV.out.e4 (HL.out.below HB10.out) HB10.out.size hcap (by omega)).mono ?_
  rintro e w11 ⟨rfl,hl11,hb11⟩
  have HL11:=Lib.hid (show LBx n0 g w11 (ex4 t) from hl11)
  have HB11:=Lib.hid (Below.trans HB10.out (hb11.mono hn0))
  clear hl11 hb11 HL10 HB10
  go_wp2_with fail
  refine (lb_write HL11.out HEV.out.e5.ok 1 5000 hid1).mono ?_
  rintro e w12 ⟨A12,m12,c12,rfl,hl12,hb12,_,_,_⟩
  have HL12:=Lib.hid (show LBx n0 g w12 (ex5 t) from hl12)
  have HB12:=Lib.hid (Below.trans HB11.out (hb12.mono hn0))
  clear hl12 hb12 HL11 HB11
  go_wp2_with fail
  refine (lb_end HL12.out HEV.out.e6.ok 256).mono ?_
  rintro e w13 ⟨rfl,hl13,hb13⟩
  rw [H6.out.2.2.1]
  rw [H6.out.2.2.2] at hl13
  have HL13:=Lib.hid hl13
  have HB13:=Lib.hid (Below.trans HB12.out (hb13.mono hn0))
  clear hl13 hb13 HL12 HB12
  go_wp2_with fail
  refine (lb_end HL13.out HEV.out.e6.ok (q : Nat)).mono ?_
  rintro e w14 ⟨rfl,hl14,hb14⟩
  rw [H6.out.2.1]
  have HL14:=Lib.hid (show LBx n0 g w14 (ex6 t q) from hl14)
  have HB14:=Lib.hid (Below.trans HB13.out (hb14.mono hn0))
  clear hl14 hb14 HL13 HB13
  go_wp2_with fail
  refine (lb_end HL14.out HEV.out.e7.ok 0).mono ?_
  rintro e w15 ⟨rfl,hl15,hb15⟩
  rw [H7.out.2.2.1]
  rw [H7.out.2.2.2.1] at hl15
  have HL15:=Lib.hid hl15
  have HB15:=Lib.hid (Below.trans HB14.out (hb15.mono hn0))
  clear hl15 hb15 HL14 HB14
  go_wp2_with fail
  refine (lb_output (LAway.old HL15.out HA0.out) HEV.out.e7 (HL.out.below HB15.out) HB15.out.size hcap (by omega)).mono ?_
  rintro e w16 ⟨rfl,hl16,hb16⟩
  rw [H7.out.2.2.2.2.1]
  rw [H7.out.2.2.2.2.2] at hl16
  have HL16:=Lib.hid hl16
  have HB16:=Lib.hid (Below.trans HB15.out (hb16.mono hn0))
  clear hl16 hb16 HL15 HB15
  go_wp2_with fail
  refine (lb_drain HL16.out 9).mono ?_
  rintro e w17 ⟨A17,m17,c17,rfl,hl17,hb17,hy17⟩
  rw [H7.out.2.1] at hy17
  obtain rfl : m17 = 0:=by rw [← hy17.1]; rfl
  clear hy17
  have HL17:=Lib.hid (show LBx n0 g w17 (ex7 t q) from hl17)
  have HB17:=Lib.hid (Below.trans HB16.out (hb17.mono hn0))
  clear hl17 hb17 HL16 HB16
  go_wp2_with fail
  refine (ltyped_any 3 [120#8] (by decide) (by decide) (by decide) w17).mono ?_
  rintro e w18 ⟨A18,c18,rfl,hy18,hn18,_,hb18⟩
  have HW18:=Lib.hid (LAway.made (n:=(enc (keys 3 [120#8])).length) HL17.out hb18 hn18)
  have HY18:=Lib.hid hy18
  have HL18:=Lib.hid (HL17.out.below hb18)
  have HB18:=Lib.hid (Below.trans HB17.out (hb18.mono HB17.out.size))
  clear hy18 hn18 hb18 HL17 HB17
  go_wp2_with fail
  refine (lb_bytes HW18.out HEV.out.e8 (by decide) 1 hid1 c18 HY18.out (by rw [enc_len5]; decide)).mono ?_
  rintro e w19 ⟨rfl,hl19,hb19⟩
  have HL19:=Lib.hid (show LBx n0 g w19 (ex8 t q) from hl19)
  have HB19:=Lib.hid (Below.trans HB18.out (hb19.mono hn0))
  clear hl19 hb19 HL18 HB18
  clear HW18 HY18
  go_wp2_with fail
  refine (lb_connect HL19.out HEV.out.e9.ok 2 hid2).mono ?_
  rintro e w20 ⟨rfl,hl20,hb20⟩
  have HL20:=Lib.hid (show LBx n0 g w20 (ex9 t q) from hl20)
  have HB20:=Lib.hid (Below.trans HB19.out (hb20.mono hn0))
  clear hl20 hb20 HL19 HB19
  go_wp2_with fail
  refine (put_new watchM watch_ok w20).mono ?_
  rintro e w21 ⟨A21,c21,rfl,hy21,hn21,_,hb21⟩
  have HW21:=Lib.hid (LAway.made (n:=(enc (watchM)).length) HL20.out hb21 hn21)
  have HY21:=Lib.hid hy21
  have HL21:=Lib.hid (HL20.out.below hb21)
  have HB21:=Lib.hid (Below.trans HB20.out (hb21.mono HB20.out.size))
  clear hy21 hn21 hb21 HL20 HB20
  go_wp2_with fail
  refine (lb_bytes HW21.out HEV.out.e10 (by decide) 2 hid2 c21 HY21.out (by rw [enc_len5]; decide)).mono ?_
  rintro e w22 ⟨rfl,hl22,hb22⟩
  have HL22:=Lib.hid (show LBx n0 g w22 (ex10 t q) from hl22)
  have HB22:=Lib.hid (Below.trans HB21.out (hb22.mono hn0))
  clear hl22 hb22 HL21 HB21
  clear HW21 HY21
  go_wp2_with fail
  refine (lb_writeo HL22.out HEV.out.e11.ok 1 5000 hid1).mono ?_
  rintro e w23 ⟨A23,m23,c23,rfl,hl23,hb23,hy23,hc23⟩
  rw [H11.out.1] at hy23
  have HL23:=Lib.hid (show LS n0 (fun x=>∃ p,A23 = some p∧p.block = x) g w23 (ex11 t q) from hl23)
  have HB23:=Lib.hid (Below.trans HB22.out (hb23.mono hn0))
  have HY23:=Lib.hid (And.intro hy23 hc23)
  clear hl23 hb23 hy23 hc23 HL22 HB22
  go_wp2_with fail
  refine (ls_write HL23.out HEV.out.e12.ok 2 5000 hid2).mono ?_
  rintro e w24 ⟨A24,m24,c24,rfl,_,ho24,hy24,hc24,_⟩
  rw [H11.out.2.2.2.1] at hy24
  have HB24:=Lib.hid (Below.trans HB23.out (ho24.below HB23.out.size fun x hx hn=>by omega))
  have HYa:=Lib.hid (HY23.out.1.aside ho24 fun p hp=>⟨p,hp,rfl⟩)
  have HY24:=Lib.hid (And.intro hy24 hc24)
  have hma : m23≤1000:=by
    have:=HY23.out.1.1
    have h9 : (encs [mexit q,rejectM 3 1,joined 2 [98#8]]).length≤1000:=by
      have:=joined_len (k:=2) (t:=[98#8]) (by decide) (by decide)
      unfold encs
      simp [exit_len,reject_len]
      omega
    omega
  have hmb : m24≤1000:=by
    have:=hy24.1
    have h9 : (encs ([welcome 2 0 0,mfloor 1,mexit q] ++ if t = [] then [] else [dataM 0 t])).length≤1000:=by
      have:=welcome_len 2 0 0
      unfold encs
      by_cases h : t = []
      · simp [h,floor_len,exit_len]; omega
      · simp [h,floor_len,exit_len,data_len]; omega
    omega
  have hz24:=ho24.size
  clear ho24 hy24 hc24 HL23 HB23
  have HM1:=Lib.hid (lmessages_any _ HOX.out w24 HYa.out hz24 HY23.out.2 (by omega))
  go_wp2_with fail
  refine HM1.out.mono ?_
  rintro e w25 ⟨R1,rc1,rfl,hrow25,hb25⟩
  have HB25:=Lib.hid (Below.trans HB24.out (hb25.mono HB24.out.size))
  have HR1:=Lib.hid hrow25
  have HYb:=Lib.hid (And.intro (HY24.out.1.below hb25) HY24.out.2)
  have hz25:=hb25.size
  clear hrow25 hb25 HM1 HY23 HY24 HYa HB24
  have HM2:=Lib.hid (lmessages_any _ HOY.out w25 HYb.out.1 hz25 HYb.out.2 (by omega))
  go_wp2_with fail
  refine HM2.out.mono ?_
  rintro e w26 ⟨R2,rc2,rfl,hrow2,hb2⟩
  have HB26:=Lib.hid (Below.trans HB25.out (hb2.mono HB25.out.size))
  have HR1b:=Lib.hid (HR1.out.below hb2)
  have HR2:=Lib.hid hrow2
  clear hrow2 hb2 HM2 HR1 HB25 HYb
  obtain ⟨nb,hnb⟩ : ∃ nb,([welcome 2 0 0,mfloor 1,mexit q] ++ if t = [] then [] else [dataM 0 t]).length = nb:=⟨_,rfl⟩
  have hnb3 : 3≤nb:=by rw [← hnb,List.length_append]; exact Nat.le_add_right _ _
  rw [hnb] at HR2 ⊢
  obtain ⟨rb,of1,rfl,hrb,hc1⟩:=HR1b.out.msin.outer (by simp)
  obtain ⟨rc,of2,rfl,hrc,hc2⟩:=HR2.out.msin.outer (by omega)
  obtain ⟨x0,x1,x2,x3⟩:=msg_cells (hc1 0 (mexit q) rfl) (o:=of1) (by omega)
  obtain ⟨y0,y1,y2,y3⟩:=msg_cells (hc1 1 (rejectM 3 1) rfl) (o:=of1 + 4) (by omega)
  obtain ⟨u0,u1,u2,u3⟩:=msg_cells (hc2 2 (mexit q) rfl) (o:=of2 + 8) (by omega)
  replace x0 : w26.cell? ⟨rb,of1,none⟩ = some (.int .i64 15):=x0
  replace x1 : w26.cell? ⟨rb,of1 + 1,none⟩ = some (.int .i64 (q : Nat)):=x1
  replace x2 : w26.cell? ⟨rb,of1 + 2,none⟩ = some (.int .i64 0):=x2
  replace x3 : w26.cell? ⟨rb,of1 + 3,none⟩ = some (.string ⟨#[]⟩):=x3
  replace y0 : w26.cell? ⟨rb,of1 + 4,none⟩ = some (.int .i64 8):=y0
  replace y1 : w26.cell? ⟨rb,of1 + 5,none⟩ = some (.int .i64 3):=y1
  replace y2 : w26.cell? ⟨rb,of1 + 6,none⟩ = some (.int .i64 1):=y2
  replace y3 : w26.cell? ⟨rb,of1 + 7,none⟩ = some (.string ⟨#[]⟩):=y3
  replace u0 : w26.cell? ⟨rc,of2 + 8,none⟩ = some (.int .i64 15):=u0
  replace u1 : w26.cell? ⟨rc,of2 + 9,none⟩ = some (.int .i64 (q : Nat)):=u1
  replace u2 : w26.cell? ⟨rc,of2 + 10,none⟩ = some (.int .i64 0):=u2
  replace u3 : w26.cell? ⟨rc,of2 + 11,none⟩ = some (.string ⟨#[]⟩):=u3
  have d3 : decide ((nb : Int) < 3) = false:=by simp; omega
  clear hc1 hc2 HEV H6 H7 H11 HOX HOY
  go_upto_region 25 with fail
  have HX:=Lib.hid (Bx.new w26 _ rfl #[.int .i64 15,.int .i64 (q : Nat),.int .i64 0,.string ⟨#[]⟩] 65)
  have hbx : Below w26.heap.size w26 (w26.alloc (.cells #[.int .i64 15,.int .i64 (q : Nat),.int .i64 0,.string ⟨#[]⟩] 65)):=(Below.refl _ _).alloc (Nat.le_refl _) _
  generalize w26.alloc (.cells #[.int .i64 15,.int .i64 (q : Nat),.int .i64 0,.string ⟨#[]⟩] 65) = wx at *
  replace x0:=(hbx.cell (p:=⟨rb,of1,none⟩) hrb).trans x0
  replace x1:=(hbx.cell (p:=⟨rb,of1 + 1,none⟩) hrb).trans x1
  replace x2:=(hbx.cell (p:=⟨rb,of1 + 2,none⟩) hrb).trans x2
  replace x3:=(hbx.cell (p:=⟨rb,of1 + 3,none⟩) hrb).trans x3
  replace y0:=(hbx.cell (p:=⟨rb,of1 + 4,none⟩) hrb).trans y0
  replace y1:=(hbx.cell (p:=⟨rb,of1 + 5,none⟩) hrb).trans y1
  replace y2:=(hbx.cell (p:=⟨rb,of1 + 6,none⟩) hrb).trans y2
  replace y3:=(hbx.cell (p:=⟨rb,of1 + 7,none⟩) hrb).trans y3
  replace u0:=(hbx.cell (p:=⟨rc,of2 + 8,none⟩) hrc).trans u0
  replace u1:=(hbx.cell (p:=⟨rc,of2 + 9,none⟩) hrc).trans u1
  replace u2:=(hbx.cell (p:=⟨rc,of2 + 10,none⟩) hrc).trans u2
  replace u3:=(hbx.cell (p:=⟨rc,of2 + 11,none⟩) hrc).trans u3
  have t0:=HX.out.cell 0 (.int .i64 15) rfl
  have t1:=HX.out.cell 1 (.int .i64 (q : Nat)) rfl
  have t2:=HX.out.cell 2 (.int .i64 0) rfl
  have t3:=HX.out.cell 3 (.string ⟨#[]⟩) rfl
  have HRx:=Lib.hid (HR2.out.below hbx)
  have HBx:=Lib.hid (HB26.out.trans (hbx.mono HB26.out.size))
  clear hbx hrb hrc HR2 HR1b
  generalize w26.heap.size = gx at *
  go_quiet (fail)
  have HBq:=Lib.hid (below_drewN HBx.out nq)
  have HRq:=Lib.hid (HRx.out.below (below_drewN (Below.refl _ _) nq))
  clear x0 x1 x2 x3 y0 y1 y2 y3 u0 u1 u2 u3 t0 t1 t2 t3 HX HRx HBx
  generalize wx.drewN nq = wq at *
  have HCv:=Lib.hid (fun (W : World) (hW : Below wq.heap.size wq W)=>conv_str (cap:=cap1) (HL.out.below (HBq.out.trans (hW.mono HBq.out.size))))
  have hwq : w.heap.size≤wq.heap.size:=HBq.out.size
  by_cases htn : t = []
  · have hnb4 : nb = 3:=by rw [← hnb,if_pos htn]; rfl
    subst hnb4
    have hcp3:=HRq.out.cap
    by_cases h33 : rc2 = 3
    · subst h33
      go_wp2
      go_loopw [15,142] (fun s15 s142 wr=>s15 = .string ⟨#[]⟩∧s142 = .int .i64 0∧wr = wq) (fun _ _ _=>0)
      case atStart=>exact ⟨rfl,rfl,rfl⟩
      case round =>
        obtain ⟨rfl,rfl,rfl⟩:=hrel
        have hcv:=HCv.out wr (Below.refl _ _)
        rw [htn] at hcv
        have hse : str ([] : Bs) = ⟨#[]⟩:=rfl
        rw [hse] at hcv
        go_wp2
        exact bodyPost_ret (v:=.bool true) (by simp [results,Tryz.results16,go_sem]) rfl ⟨rfl,HBq.out⟩
    · have h34 : 3 < rc2:=by omega
      go_wp2
      go_loopw [15,142] (fun s15 s142 wr=>s15 = .string ⟨#[]⟩∧s142 = .int .i64 0∧wr = wq) (fun _ _ _=>0)
      case atStart=>exact ⟨rfl,rfl,rfl⟩
      case round =>
        obtain ⟨rfl,rfl,rfl⟩:=hrel
        have hcv:=HCv.out wr (Below.refl _ _)
        rw [htn] at hcv
        have hse : str ([] : Bs) = ⟨#[]⟩:=rfl
        rw [hse] at hcv
        go_wp2
        exact bodyPost_ret (v:=.bool true) (by simp [results,Tryz.results16,go_sem]) rfl ⟨rfl,HBq.out⟩
  · have hnb4 : nb = 4:=by rw [← hnb,if_neg htn]; rfl
    subst hnb4
    have hrow:=HRq.out
    rw [if_neg htn] at hrow
    obtain ⟨rc9,of9,e9,hrc9,hc9⟩:=hrow.msin.outer (by simp)
    injection e9 with e9
    injection e9 with e9 e8
    subst e9 e8
    obtain ⟨v0,v1,v2,v3⟩:=msg_cells (hc9 3 (dataM 0 t) rfl) (o:=of2 + 12) (by omega)
    replace v0 : wq.cell? ⟨rc,of2 + 12,none⟩ = some (.int .i64 6):=v0
    replace v1 : wq.cell? ⟨rc,of2 + 13,none⟩ = some (.int .i64 0):=v1
    replace v2 : wq.cell? ⟨rc,of2 + 14,none⟩ = some (.int .i64 0):=v2
    replace v3 : wq.cell? ⟨rc,of2 + 15,none⟩ = some (.string (str t)):=v3
    have HV:=Lib.hid (And.intro v0 (And.intro v1 (And.intro v2 v3)))
    have hcp:=hrow.cap
    clear hrow hc9 v0 v1 v2 v3 HRq
    have hc3 : ¬ rc2 = 3:=by omega
    have hst : (str t).size≤300:=by rw [str_size]; exact ht3
    have hcat : (⟨#[]⟩ : ByteArray) ++ str t = str t:=by rw [show (⟨#[]⟩ : ByteArray) = str [] from rfl,← str_app]; rfl
    have hsr : ((str t).toList == (str t).toList) = true:=by simp
    go_wp2
    go_loopw [15,142] (fun s15 s142 wr=>∃ k : Nat,s142 = .int .i64 (k : Nat)∧((k = 0∧s15 = .string ⟨#[]⟩)∨(k = 1∧s15 = .string (str t)))∧Below wq.heap.size wq wr) (fun _ s _=>1 - (intOf s).toNat)
    case atStart=>exact ⟨0,rfl,.inl ⟨rfl,rfl⟩,Below.refl _ _⟩
    case round =>
      obtain ⟨k,rfl,hk,hbr⟩:=hrel
      have HBr:=Lib.hid hbr
      have hzr:=hbr.size
      rcases hk with ⟨rfl,rfl⟩ | ⟨rfl,rfl⟩
      · have v0:=(hbr.cell (p:=⟨rc,of2 + 12,none⟩) hrc9).trans HV.out.1
        have v1:=(hbr.cell (p:=⟨rc,of2 + 13,none⟩) hrc9).trans HV.out.2.1
        have v2:=(hbr.cell (p:=⟨rc,of2 + 14,none⟩) hrc9).trans HV.out.2.2.1
        have v3:=(hbr.cell (p:=⟨rc,of2 + 15,none⟩) hrc9).trans HV.out.2.2.2
        have HX:=Lib.hid (Bx.new wr _ rfl #[.int .i64 6,.int .i64 0,.int .i64 0,.string (str t)] 65)
        have HBa:=Lib.hid (HBr.out.alloc hzr (.cells #[.int .i64 6,.int .i64 0,.int .i64 0,.string (str t)] 65))
        clear hbr
        go_upto_region 31 with fail
        generalize wr.alloc (.cells #[.int .i64 6,.int .i64 0,.int .i64 0,.string (str t)] 65) = wz at *
        have q3:=HX.out.cell 3 (.string (str t)) rfl
        go_wp2
        exact ⟨⟨1,rfl,.inr ⟨rfl,rfl⟩,HBa.out⟩,by simp [intOf]⟩
      · have hcv:=HCv.out wr HBr.out
        go_wp2
        exact bodyPost_ret (v:=.bool true) (by simp [results,Tryz.results16,go_sem]) rfl ⟨rfl,HBq.out.trans (HBr.out.mono hwq)⟩
theorem w_in : Tryz.checked.prog.inits.idxOf? 16 = none:=by kernel_rfl
theorem w_ok (os : Os) : Input.okWideB Tryz.prog ((World.doorLaid Tryz.prog 400 os).forCall (fun _ _=>0) ⟨#[],#[.int .i64 0,.slice none 0 0],[]⟩) 16 ⟨#[],#[.int .i64 0,.slice none 0 0],[]⟩ = true:=by kernel_rfl
theorem w_pre (os : Os) (H : Type) (enc : TypeId×Value→H) : Rows.brokerExitSpec.preB enc Tryz.prog Tryz.f16 [] false ((World.doorLaid Tryz.prog 400 os).forCall (fun _ _=>0) ⟨#[],#[.int .i64 0,.slice none 0 0],[]⟩).memory #[.int .i64 0,.slice none 0 0] 8 = true:=by kernel_rfl
theorem w_sz (os : Os) (H : Type) (enc : TypeId×Value→H) : Rows.brokerExitSpec.sizedB enc Tryz.prog Tryz.f16 false ((World.doorLaid Tryz.prog 400 os).forCall (fun _ _=>0) ⟨#[],#[.int .i64 0,.slice none 0 0],[]⟩).memory #[.int .i64 0,.slice none 0 0] 8 = true:=by kernel_rfl
set_option maxRecDepth 100000 in
theorem lifted (os : Os) (started : os.Started) (H : Type) (enc : TypeId×Value→H) :
    ReturnsInHanded {} Tryz.checked os 16 .any (fun w args=>(Rows.brokerExitSpec.pre enc Tryz.prog Tryz.f16 [] false w args∧laidMetH Tryz.prog laidL w)∧sizedMet enc Tryz.prog Tryz.f16 (OpenSpec.ofChange Rows.brokerExitSpec) false w args)
      (Rows.brokerExitSpec.post enc Tryz.prog Tryz.f16 false true false false):=by
  refine returnsInHanded_of_change_and (C:=Tryz.checked) (X:=fun w _=>laidMetH Tryz.prog laidL w) (fun _ _ _ hh h=>h.of_heap hh) own started w_in Tryz.func16
    (ChangeSpec.witness_shaped (enc:=enc) (C:=Tryz.checked) (os:=os) (X:=fun w _=>laidMetH Tryz.prog laidL w) false (World.doorLaid Tryz.prog 400 os) #[.int .i64 0,.slice none 0 0] 8 rfl (door_shaped os _) (w_ok os) (w_pre os H enc) (w_sz os H enc) (door_met os _)) ?_
  intro W base args ds gs before hval0 hW hcnd hsz0 hL _
  have hti:=ti_of hL
  have hval : ∀ (j : Nat) t v,Tryz.f16.params[j]? = some t→args[j]? = some v→Value.okWide Tryz.prog W .any base t v:=hval0
  have hW':=hW
  obtain ⟨p,q,hA0,hV,rfl,hfz,hnd⟩:=hW
  have hsz : (DataW.weightsEach Tryz.prog (Tryz.f16.params.toList ++ Rows.brokerExitSpec.plain.varTypes Tryz.prog) (ds ++ gs)).all (·≤reachBytes) = true:=hsz0
  have hA : DataW.TrodAll enc Tryz.prog W 0 (fun _=>true) true Tryz.f16.params.toList args.toList ds p:=hA0
  rw [Tryz.params16] at hA hval hsz
  obtain ⟨v0,vs0,d0,ds0,p0,q0,hargs,rfl,rfl,h0,r0⟩:=trodAll_cons hA
  obtain ⟨v1,vs1,d1,ds1,p1,q1,rfl,rfl,rfl,h1,r1⟩:=trodAll_cons r0
  obtain ⟨rfl,rfl,rfl⟩:=trodAll_nil r1
  obtain rfl : args = #[v0,v1]:=by cases args; simp_all
  obtain ⟨rfl,rfl⟩:=trodVars_none hV
  obtain ⟨a0,rfl,rfl,rfl,w0⟩:=open_int Tryz.underlying3 (hval 0 3 v0 rfl rfl) h0
  obtain ⟨a1,len1,cap1,rfl⟩:=okWide_slice Tryz.underlying32 (hval 1 32 v1 rfl rfl)
  have k1:=h1
  have lt1 : ∀ x∈p1,x.block < W.heap.size:=by obtain ⟨m,hm⟩:=k1; exact DataW.trod_lt m _ _ _ hm
  obtain ⟨z1,w1⟩ : ∃ zs,IsRow .u8 W a1 len1 cap1 zs:=by
    obtain ⟨fuel,hf⟩:=h1
    exact open_brow hf
  clear hA0 hval0 hsz hsz0
  refine (walk a0 a1 len1 cap1 z1 W w0 w1 hti).mono fun e W' ⟨he,bel⟩=>?_
  subst he
  exact ⟨_,rfl,_,_,_,[],_,[],hW',trodAll_mk1 (shut_bool Tryz.underlying4 _),(trodAll_cons_mk (shut_int Tryz.underlying3 w0) (trodAll_cons_mk (Below.trod laidOut (by kernel_rfl) (of_decide_eq_true (by kernel_rfl)) k1 bel lt1) trodAll_mk0)),rfl,bel.frame _,fun h=>by cases h⟩
theorem q0 : (Rows.brokerExitRow.wf (OpenSpec.ofChange Rows.brokerExitSpec)) = true:=by kernel_rfl
theorem q3 : (Tryz.f16.params.all (Tryz.prog.readableRec ·)) = true:=by kernel_rfl
theorem q4 : (namedTie Tryz.prog Rows.brokerExitRow.named Rows.brokerExitSpec.vars) = true:=by kernel_rfl
theorem q5 : ((Rows.brokerExitRow.stops == [])) = true:=by kernel_rfl
theorem q7 : ((Rows.brokerExitRow.knobs == [])) = true:=by kernel_rfl
theorem q9 : ((Rows.brokerExitRow.inPlace == Tryz.prog.inPlace 16)) = true:=by kernel_rfl
theorem q10 : ((Rows.brokerExitRow.unfollowed == Tryz.prog.unfollowed 16)) = true:=by kernel_rfl
theorem q11 : ((Rows.brokerExitRow.recurses == Tryz.prog.recurses 16)) = true:=by kernel_rfl
theorem q12 : ((Rows.brokerExitRow.named == Tryz.prog.varsNamed 16)) = true:=by kernel_rfl
theorem q13 : ((Rows.brokerExitRow.maps == (Tryz.f16.params.toList ++ Rows.brokerExitSpec.plain.varTypes Tryz.prog).any (Tryz.prog.mapsRec ·))) = true:=by kernel_rfl
theorem q14 : ((Rows.brokerExitRow.ifaces == (Tryz.f16.params.toList ++ Rows.brokerExitSpec.plain.varTypes Tryz.prog).any (Tryz.prog.ifacesRec ·))) = true:=by kernel_rfl
theorem q15 : ((Rows.brokerExitRow.mapsOut == Tryz.prog.mapsAmong Tryz.f16.resultTypes.toList)) = true:=by kernel_rfl
theorem q16 : ((Rows.brokerExitRow.loops == (Tryz.f16.params.toList ++ Rows.brokerExitSpec.plain.varTypes Tryz.prog).any (Tryz.prog.loopsFrom ·))) = true:=by kernel_rfl
theorem q17 : ((Rows.brokerExitRow.wideKeys == (Tryz.f16.params.toList ++ Rows.brokerExitSpec.plain.varTypes Tryz.prog ++ Tryz.f16.resultTypes.toList).any (Tryz.prog.wideKeysFrom ·))) = true:=by kernel_rfl
theorem q18 : (Rows.brokerExitSpec.vars.all (Tryz.prog.varReadable ·)) = true:=by kernel_rfl
theorem q19 : (Tryz.f16.resultTypes.all (fun t=>Tryz.prog.readableRec t && decide (t < Tryz.prog.types.size))) = true:=by kernel_rfl
theorem q20 : ((Rows.brokerExitRow.ifacesOut == Tryz.f16.resultTypes.toList.any (Tryz.prog.ifacesRec ·))) = true:=by kernel_rfl
theorem q21 : ((Rows.brokerExitRow.loopsOut == Tryz.f16.resultTypes.toList.any (Tryz.prog.loopsFrom ·))) = true:=by kernel_rfl
theorem q22 : ((Rows.brokerExitRow.plainKeys == Tryz.prog.plainKeys)) = true:=(show Rows.brokerExitRow.plainKeys = Rows.brokerEventsRow.plainKeys from rfl) ▸ pq22
theorem q23 : (Rows.brokerExitRow.shortTexts.isNone) = true:=by kernel_rfl
theorem q26 : ((Rows.brokerExitRow.lifted == Tryz.prog.liftsFinal)) = true:=(show Rows.brokerExitRow.lifted = Rows.brokerEventsRow.lifted from rfl) ▸ pq26
theorem q27 : ((Tryz.prog.make == some Rows.brokerExitRow.make)) = true:=(show Rows.brokerExitRow.make = Rows.brokerEventsRow.make from rfl) ▸ pq27
theorem q28 : kindsAre Tryz.prog Rows.brokerExitRow Tryz.f16 = true:=by kernel_rfl
theorem q29 : ((Rows.brokerExitRow.pinned == Rows.brokerExitRow.pinnedBy)) = true:=by kernel_rfl
theorem q30 : ((Rows.brokerExitRow.veiled == (Tryz.f16.params.toList ++ Rows.brokerExitSpec.plain.varTypes Tryz.prog ++ Tryz.f16.resultTypes.toList).any (Tryz.prog.veiledRec ·))) = true:=by kernel_rfl
theorem q31 : (Rows.brokerExitRow.veiledFits Tryz.prog Tryz.f16.params.toList (Tryz.f16.params.toList ++ Rows.brokerExitSpec.plain.varTypes Tryz.prog ++ Tryz.f16.resultTypes.toList)) = true:=by kernel_rfl
theorem q_named : Tryz.prog.funcNamed Rows.brokerExitRow.func = some 16:=by kernel_rfl
theorem q_inst : Tryz.f16.isInstance Tryz.prog Rows.brokerExitRow.origin Rows.brokerExitRow.targs:=of_decide_eq_true (by kernel_rfl)
theorem q_wrap : Tryz.f16.isWrapper Tryz.prog Rows.brokerExitRow.wrapper Rows.brokerExitRow.mainSum:=by unfold Func.isWrapper; first | (rw [if_pos (by decide +kernel)]; kernel_rfl) | (rw [if_neg (by decide +kernel)]; exact ⟨rfl,rfl⟩)
set_option maxRecDepth 100000 in
theorem q_all : joinedFacts Tryz.prog 16 Tryz.f16 Rows.brokerExitSpec Rows.brokerExitRow = true:=joined_of (P:=Tryz.prog) (f:=16) (fn:=Tryz.f16) (s:=Rows.brokerExitSpec) (c:=Rows.brokerExitRow) q0 pq1 pq2 q3 q4 q5 pq6 q7 pq8 q9 q10 q11 q12 q13 q14 q15 q16 q17 q18 q19 q20 q21 q22 q23 pq24 pq25 q26 q27 q28 q29 q30 q31
theorem over : Rows.BrokerExitSaid:=
  OpenClaim.holds_of_wide 16 Tryz.f16 rfl rfl rfl rfl rfl rfl rfl ⟨rfl,rfl,rfl,rfl,rfl⟩ rfl rfl rfl rfl rfl q_named Tryz.func16 q_all q_inst q_wrap
    (fun os started H enc _=>lifted os started H enc)
theorem c_wf : Rows.brokerExitRow.wfByText (OpenSpec.ofChange Rows.brokerExitSpec) = true:=by kernel_rfl
theorem c_looks : true = Tryz.prog.looks []:=by kernel_rfl
theorem c_stand : ([3,32].all fun u=>!Tryz.prog.wantsStandIn u) = true:=by kernel_rfl
theorem c_goes : false = Rows.brokerExitRow.goesBy Tryz.prog:=by kernel_rfl
end Go.Proofs.YtjmdddhbdofppaaGreatDoor.brokerExit
namespace Go.Proofs.YtjmdddhbdofppaaGreatDoor
theorem brokerExit_holds : Rows.BrokerExitCardSaid:=
  Claim7.holds_tied_plain_at (c:=Rows.brokerExitRow) .later [] _ true _ true
    brokerExit.over (fun _ h=>by cases h) brokerExit.c_wf (fun _ h=>by cases h) brokerExit_row_tie rfl ⟨rfl,rfl⟩ main_is rfl
    (fun f fn hf hfn=>by
      obtain rfl : f = 16:=Option.some.inj (brokerExit.q_named.symm.trans hf) |>.symm
      obtain rfl : fn = Tryz.f16:=(Option.some.inj (Tryz.func16.symm.trans hfn)).symm
      exact ⟨brokerExit.c_looks,fun j t ht=>by
        rw [Tryz.params16] at ht
        have hm : t∈[3,32]:=by simpa using Array.mem_of_getElem? ht
        exact (show Tryz.prog.wantsStandIn t = false by simpa using List.all_eq_true.1 brokerExit.c_stand t hm)⟩)
    brokerExit.c_goes
#print axioms brokerExit_holds
end Go.Proofs.YtjmdddhbdofppaaGreatDoor
