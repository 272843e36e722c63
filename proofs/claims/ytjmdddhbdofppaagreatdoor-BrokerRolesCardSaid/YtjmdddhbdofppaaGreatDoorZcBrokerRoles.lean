/- BrokerRoles: for every input the law answers true, and its arguments read as before. Conditions: none. -/
import Derived.Test.YtjmdddhbdofppaaGreatDoorZc07
import Derived.Test.YtjmdddhbdofppaaGreatDoorZc10
import Derived.Test.YtjmdddhbdofppaaGreatDoorZc42
import Derived.Test.YtjmdddhbdofppaaGreatDoorZcInl

namespace Go.Proofs.YtjmdddhbdofppaaGreatDoor.brokerRoles
open Go.ChangeShapes Go.WideShapes Go.ChangeAt Go.RowKit
open Fr Bk
theorem ls_connect {n0 g : Nat} {S : Nat→Prop} {w : World} {b : Br} (h : LS n0 S g w b) (hk : BOk b) (id : Int) (hid : wf64 id) : Calls Tryz.prog 43 #[.pointer (some (at0 g)),.int .i64 id] w fun e w'=>e = .returned (.int .i64 (connectE b id : Nat))∧LS n0 S g w' (connectB b id)∧Only (fun x=>n0≤x∧¬ S x) w w':=by
  obtain ⟨F,rs,h,hs⟩:=h
  exact (bconnect_any h.is hk id hid).mono fun e w' hg=>h.e2 hs hg
set_option maxRecDepth 100000 in
set_option maxHeartbeats 16000000 in
theorem walk (a0 : Option Addr) (len0 cap0 : Nat) (B0 : Nat→Bool) (a1 : Int) (w : World) (w0 : Bools w a0 len0 B0) (g0 : len0≤cap0∧cap0≤maxLen) (w1 : (Lit.int .i64 a1).wf = true) (ht : TI w) :
    Calls Tryz.prog 15 #[.slice a0 len0 cap0,.int .i64 a1] w fun e w'=>e = .returned (.bool true)∧Below w.heap.size w w':=by
  have HTI:=Lib.hid ht
  have HA:=Lib.hid w0
  have HA1:=Lib.hid w1
  have HG0:=Lib.hid g0
  clear ht w0 w1 g0 HA1
  go_enter Tryz.func15,Tryz.ntmps15
  go_wp2_with fail
  refine (bhead_any w HTI.out).mono ?_
  rintro e w1 ⟨rfl,hb1⟩
  have HB1:=Lib.hid hb1
  clear hb1
  by_cases h14 : 14 < len0
  · have hd0 : decide ((len0 : Int) > 14) = true:=decide_eq_true (by omega)
    have hd1 : decide (14 < (len0 : Int)) = true:=decide_eq_true (by omega)
    go_wp2
    go_ret
    exact ⟨rfl,HB1.out⟩
  have hd0 : decide ((len0 : Int) > 14) = false:=decide_eq_false (by omega)
  have hd1 : decide (14 < (len0 : Int)) = false:=decide_eq_false (by omega)
  have hl14 : len0≤14:=by omega
  go_wp2_with fail
  refine (default_any _).mono ?_
  rintro e w2 ⟨rfl,hb2⟩
  have HB2:=Lib.hid (Below.trans HB1.out (hb2.mono HB1.out.size))
  clear hb2 HB1
  go_wp2_with fail
  refine (lb_new cfd_right w2 (HTI.out.below HB2.out)).mono ?_
  rintro e w3 ⟨g,rfl,hl3,hb3⟩
  have HL3:=Lib.hid hl3
  have HB3:=Lib.hid (Below.trans HB2.out (hb3.mono HB2.out.size))
  have hn0 : w.heap.size≤w2.heap.size:=HB2.out.size
  clear hl3 hb3 HB2
  generalize w2.heap.size = n0 at *
  go_wp2
  go_loopw [1,6,25] (fun s1 s6 s25 wr=>∃ (lv : Int) (ow i : Nat) (b : Br),s1 = .int .i64 lv∧s6 = .int .i64 (ow : Nat)∧s25 = .int .i64 (i : Nat)∧i≤len0∧LBx n0 g wr b∧Hid (RolesAt b i ow)∧Below w.heap.size w wr) (fun _ _ s _=>len0 - (intOf s).toNat)
  case atStart=>exact ⟨a1,0,0,bnew cfd,rfl,rfl,rfl,Nat.zero_le _,HL3.out,Lib.hid roles_begin,HB3.out⟩
  case round =>
    obtain ⟨lv,ow,i,b,rfl,rfl,rfl,hi,hl,HR,hb⟩:=hrel
    have HL:=Lib.hid hl
    have HB:=Lib.hid hb
    clear hl hb HL3 HB3
    by_cases hil : i < len0
    rotate_left
    · obtain rfl : i = len0:=by omega
      have di : decide ((i : Int) < (i : Int)) = false:=decide_eq_false (by omega)
      go_wp2
      go_ret
      exact ⟨rfl,HB.out⟩
    have di : decide ((i : Int) < (len0 : Int)) = true:=decide_eq_true (by omega)
    obtain ⟨b9,o9,rfl,hlt9,hc9⟩:=HA.out (by omega)
    have hci:=(HB.out.cell (p:=⟨b9,o9 + i,none⟩) hlt9).trans (hc9 i hil)
    have howi : ow≤i:=by
      by_cases h : ow = 0
      · omega
      · have:=HR.out.own.lo _ _ (HR.out.own.is h)
        omega
    have hco:=fun wi=>HR.out.come (by omega) wi
    have hst:=fun wi=>HR.out.stay (by omega) wi
    have hct:=fun wi=>HR.out.cut (by omega) wi
    obtain ⟨k,hk⟩ : ∃ k,i + 1 = k:=⟨_,rfl⟩
    rw [hk] at hco hst hct
    have hwid : wf64 (k : Nat):=wf_id (by omega)
    have hadd : wrap64 ((i : Int) + 1) = (k : Nat):=by rw [IntWalk.wrap64_in _ (by omega)]; omega
    have hk14 : k≤14:=by omega
    have hik : i < k:=by omega
    have hkl : k≤len0:=by omega
    have HCo:=Lib.hid hco
    have HSt:=Lib.hid hst
    have HCt:=Lib.hid hct
    have HK:=Lib.hid hk
    have HID:=Lib.hid (show (i : Int) + 1 = (k : Int) by omega)
    clear hco hst hct hk
    have hsz : w.heap.size≤wr.heap.size:=HB.out.size
    obtain ⟨wi,hwi⟩ : ∃ wi,B0 i = wi:=⟨_,rfl⟩
    rw [hwi] at hci
    clear hc9 hwi
    cases wi
    ·
      have HX:=Lib.hid (Bx.new wr _ rfl #[.int .i64 1,.int .i64 4,.int .i64 0,.string ⟨#[117]⟩] 65)
      have hbx : Below wr.heap.size wr (wr.alloc (.cells #[.int .i64 1,.int .i64 4,.int .i64 0,.string ⟨#[117]⟩] 65)):=(Below.refl _ _).alloc (Nat.le_refl _) _
      have HLS:=Lib.hid (HL.out.ls (S:=fun x=>x = wr.heap.size) hbx (fun x hx=>by subst hx; exact ⟨Nat.le_refl _,HX.out.room⟩))
      have HBx:=Lib.hid (HB.out.trans (hbx.mono hsz))
      clear hbx
      go_wp2_with fail
      rw [HID.out]
      generalize (wr.alloc (.cells #[.int .i64 1,.int .i64 4,.int .i64 0,.string ⟨#[117]⟩] 65)) = wx at *
      generalize wr.heap.size = gx at *
      refine (ls_connect HLS.out HR.out.ev.ok (k : Nat) hwid).mono ?_
      rintro e w4 ⟨rfl,hl4,ho4⟩
      have HX4:=Lib.hid (HX.out.keep ho4 (fun h=>h.2 rfl))
      have HL4:=Lib.hid hl4
      have HB4:=Lib.hid (Below.trans HBx.out (ho4.below HBx.out.size fun k hk h=>by have:=h.1; omega))
      have z0:=HX4.out.cell 0 (.int .i64 1) rfl
      have z1:=HX4.out.cell 1 (.int .i64 4) rfl
      have z2:=HX4.out.cell 2 (.int .i64 0) rfl
      have z3:=HX4.out.cell 3 (.string ⟨#[117]⟩) rfl
      have HP:=Lib.hid (show Calls Tryz.prog 44 #[.slice none 0 0,.agg #[.int .i64 1,.int .i64 4,.int .i64 0,.string ⟨#[117]⟩]] w4 (NewBytes w4 (enc (roleM false))) from put_new (roleM false) (role_ok false) w4)
      clear hl4 ho4 HX HLS HBx
      go_wp2_with fail
      refine HP.out.mono ?_
      rintro e w5 ⟨A5,c5,rfl,hy5,hn5,_,hb5⟩
      have HW5:=Lib.hid (LAway.made (n:=(enc (roleM false)).length) HL4.out.lbx hb5 hn5)
      have HY5:=Lib.hid hy5
      have HB5:=Lib.hid (Below.trans HB4.out (hb5.mono HB4.out.size))
      have HEV:=Lib.hid (HR.out.ev.connect (k : Nat))
      clear hy5 hn5 hb5 HX4 HL4 HB4 HP z0 z1 z2 z3
      go_wp2_with fail
      refine (lb_bytes HW5.out HEV.out (by omega) (k : Nat) hwid c5 HY5.out (by rw [role_enc]; decide)).mono ?_
      rintro e w6 ⟨rfl,hl6,hb6⟩
      have HL6:=Lib.hid hl6
      have HB6:=Lib.hid (Below.trans HB5.out (hb6.mono hn0))
      obtain ⟨_,e2,_,_,_,_,_,_,e9,e10⟩:=HCo.out false
      have HE2:=Lib.hid e2
      have HE9:=Lib.hid (show _ = (0 : Int) from e9.trans (rfl))
      have HE10:=Lib.hid e10
      clear e2 e9 e10 hl6 hb6 HW5 HY5 HB5
      go_wp2_with fail
      refine (lb_role HL6.out HE2.out.ok (k : Nat) hwid).mono ?_
      rintro e w7 ⟨rfl,hl7,hb7⟩
      rw [HE9.out,HE10.out]
      have HL7:=Lib.hid hl7
      have HB7:=Lib.hid (Below.trans HB6.out (hb7.mono HB6.out.size))
      clear hl7 hb7 HL6 HB6 HE9 HE10
      have HS:=Lib.hid (HSt.out false)
      have hdi : decide ((k : Int) = (ow : Int)) = false:=decide_eq_false (by omega)
      go_wp2
      go_roundw
      case rel=>exact ⟨lv,ow,k,_,rfl,rfl,by rw [HID.out],by omega,HL7.out,HS,HB7.out⟩
      case measure=>simp [intOf]; omega
    · by_cases how : ow = 0
      ·
        have HX:=Lib.hid (Bx.new wr _ rfl #[.int .i64 1,.int .i64 5,.int .i64 0,.string ⟨#[117]⟩] 65)
        have hbx : Below wr.heap.size wr (wr.alloc (.cells #[.int .i64 1,.int .i64 5,.int .i64 0,.string ⟨#[117]⟩] 65)):=(Below.refl _ _).alloc (Nat.le_refl _) _
        have HLS:=Lib.hid (HL.out.ls (S:=fun x=>x = wr.heap.size) hbx (fun x hx=>by subst hx; exact ⟨Nat.le_refl _,HX.out.room⟩))
        have HBx:=Lib.hid (HB.out.trans (hbx.mono hsz))
        clear hbx
        subst how
        go_wp2_with fail
        rw [HID.out]
        generalize (wr.alloc (.cells #[.int .i64 1,.int .i64 5,.int .i64 0,.string ⟨#[117]⟩] 65)) = wx at *
        generalize wr.heap.size = gx at *
        refine (ls_connect HLS.out HR.out.ev.ok (k : Nat) hwid).mono ?_
        rintro e w4 ⟨rfl,hl4,ho4⟩
        have HX4:=Lib.hid (HX.out.keep ho4 (fun h=>h.2 rfl))
        have HL4:=Lib.hid hl4
        have HB4:=Lib.hid (Below.trans HBx.out (ho4.below HBx.out.size fun k hk h=>by have:=h.1; omega))
        have z0:=HX4.out.cell 0 (.int .i64 1) rfl
        have z1:=HX4.out.cell 1 (.int .i64 5) rfl
        have z2:=HX4.out.cell 2 (.int .i64 0) rfl
        have z3:=HX4.out.cell 3 (.string ⟨#[117]⟩) rfl
        have HP:=Lib.hid (show Calls Tryz.prog 44 #[.slice none 0 0,.agg #[.int .i64 1,.int .i64 5,.int .i64 0,.string ⟨#[117]⟩]] w4 (NewBytes w4 (enc (roleM true))) from put_new (roleM true) (role_ok true) w4)
        clear hl4 ho4 HX HLS HBx
        go_wp2_with fail
        refine HP.out.mono ?_
        rintro e w5 ⟨A5,c5,rfl,hy5,hn5,_,hb5⟩
        have HW5:=Lib.hid (LAway.made (n:=(enc (roleM true)).length) HL4.out.lbx hb5 hn5)
        have HY5:=Lib.hid hy5
        have HB5:=Lib.hid (Below.trans HB4.out (hb5.mono HB4.out.size))
        have HEV:=Lib.hid (HR.out.ev.connect (k : Nat))
        clear hy5 hn5 hb5 HX4 HL4 HB4 HP z0 z1 z2 z3
        go_wp2_with fail
        refine (lb_bytes HW5.out HEV.out (by omega) (k : Nat) hwid c5 HY5.out (by rw [role_enc]; decide)).mono ?_
        rintro e w6 ⟨rfl,hl6,hb6⟩
        have HL6:=Lib.hid hl6
        have HB6:=Lib.hid (Below.trans HB5.out (hb6.mono hn0))
        obtain ⟨_,e2,_,_,_,_,_,_,e9,e10⟩:=HCo.out true
        have HE2:=Lib.hid e2
        have HE9:=Lib.hid (show _ = (2 : Int) from e9.trans (rfl))
        have HE10:=Lib.hid e10
        clear e2 e9 e10 hl6 hb6 HW5 HY5 HB5
        go_wp2_with fail
        refine (lb_role HL6.out HE2.out.ok (k : Nat) hwid).mono ?_
        rintro e w7 ⟨rfl,hl7,hb7⟩
        rw [HE9.out,HE10.out]
        have HL7:=Lib.hid hl7
        have HB7:=Lib.hid (Below.trans HB6.out (hb7.mono HB6.out.size))
        clear hl7 hb7 HL6 HB6 HE9 HE10
        have HS:=Lib.hid (HSt.out true)
        obtain ⟨r,hr,hbits⟩:=bits_any lv 1 (by decide)
        have hbits : bits .and .i64 lv 1 = (r : Int):=hbits
        by_cases hr1 : r = 1
        · subst hr1
          have HCt2:=Lib.hid (HCt.out true rfl)
          go_wp2_with fail
          refine (lb_cut HL7.out HE2.out.ok (k : Nat) hwid).mono ?_
          rintro e w8 ⟨rfl,hl8,hb8⟩
          have HL8:=Lib.hid hl8
          have HB8:=Lib.hid (Below.trans HB7.out (hb8.mono hn0))
          clear hl8 hb8 HL7 HB7
          go_wp2
          go_roundw
          case rel=>exact ⟨_,0,k,_,rfl,rfl,by rw [HID.out],by omega,HL8.out,HCt2,HB8.out⟩
          case measure=>simp [intOf]; omega
        · obtain rfl : r = 0:=by omega
          go_wp2
          go_roundw
          case rel=>exact ⟨lv,k,k,_,rfl,rfl,by rw [HID.out],by omega,HL7.out,HS,HB7.out⟩
          case measure=>simp [intOf]; omega
      ·
        have HX:=Lib.hid (Bx.new wr _ rfl #[.int .i64 1,.int .i64 5,.int .i64 0,.string ⟨#[117]⟩] 65)
        have hbx : Below wr.heap.size wr (wr.alloc (.cells #[.int .i64 1,.int .i64 5,.int .i64 0,.string ⟨#[117]⟩] 65)):=(Below.refl _ _).alloc (Nat.le_refl _) _
        have HLS:=Lib.hid (HL.out.ls (S:=fun x=>x = wr.heap.size) hbx (fun x hx=>by subst hx; exact ⟨Nat.le_refl _,HX.out.room⟩))
        have HBx:=Lib.hid (HB.out.trans (hbx.mono hsz))
        clear hbx
        have hdo : decide ((ow : Int) = 0) = false:=decide_eq_false (by omega)
        go_wp2_with fail
        rw [HID.out]
        generalize (wr.alloc (.cells #[.int .i64 1,.int .i64 5,.int .i64 0,.string ⟨#[117]⟩] 65)) = wx at *
        generalize wr.heap.size = gx at *
        refine (ls_connect HLS.out HR.out.ev.ok (k : Nat) hwid).mono ?_
        rintro e w4 ⟨rfl,hl4,ho4⟩
        have HX4:=Lib.hid (HX.out.keep ho4 (fun h=>h.2 rfl))
        have HL4:=Lib.hid hl4
        have HB4:=Lib.hid (Below.trans HBx.out (ho4.below HBx.out.size fun k hk h=>by have:=h.1; omega))
        have z0:=HX4.out.cell 0 (.int .i64 1) rfl
        have z1:=HX4.out.cell 1 (.int .i64 5) rfl
        have z2:=HX4.out.cell 2 (.int .i64 0) rfl
        have z3:=HX4.out.cell 3 (.string ⟨#[117]⟩) rfl
        have HP:=Lib.hid (show Calls Tryz.prog 44 #[.slice none 0 0,.agg #[.int .i64 1,.int .i64 5,.int .i64 0,.string ⟨#[117]⟩]] w4 (NewBytes w4 (enc (roleM true))) from put_new (roleM true) (role_ok true) w4)
        clear hl4 ho4 HX HLS HBx
        go_wp2_with fail
        refine HP.out.mono ?_
        rintro e w5 ⟨A5,c5,rfl,hy5,hn5,_,hb5⟩
        have HW5:=Lib.hid (LAway.made (n:=(enc (roleM true)).length) HL4.out.lbx hb5 hn5)
        have HY5:=Lib.hid hy5
        have HB5:=Lib.hid (Below.trans HB4.out (hb5.mono HB4.out.size))
        have HEV:=Lib.hid (HR.out.ev.connect (k : Nat))
        clear hy5 hn5 hb5 HX4 HL4 HB4 HP z0 z1 z2 z3
        go_wp2_with fail
        refine (lb_bytes HW5.out HEV.out (by omega) (k : Nat) hwid c5 HY5.out (by rw [role_enc]; decide)).mono ?_
        rintro e w6 ⟨rfl,hl6,hb6⟩
        have HL6:=Lib.hid hl6
        have HB6:=Lib.hid (Below.trans HB5.out (hb6.mono hn0))
        obtain ⟨_,e2,_,_,_,_,_,_,e9,e10⟩:=HCo.out true
        have HE2:=Lib.hid e2
        have HE9:=Lib.hid (show _ = (1 : Int) from e9.trans (by unfold roleFor; rw [if_pos rfl,if_neg how]))
        have HE10:=Lib.hid e10
        clear e2 e9 e10 hl6 hb6 HW5 HY5 HB5
        go_wp2_with fail
        refine (lb_role HL6.out HE2.out.ok (k : Nat) hwid).mono ?_
        rintro e w7 ⟨rfl,hl7,hb7⟩
        rw [HE9.out,HE10.out]
        have HL7:=Lib.hid hl7
        have HB7:=Lib.hid (Below.trans HB6.out (hb7.mono HB6.out.size))
        clear hl7 hb7 HL6 HB6 HE9 HE10
        have HS:=Lib.hid (by have h:=HSt.out true; rwa [show ownNext true ow k = ow by unfold ownNext; rw [if_neg (fun h=>how h.2)]] at h)
        have hdi : decide ((k : Int) = (ow : Int)) = false:=decide_eq_false (by omega)
        go_wp2
        go_roundw
        case rel=>exact ⟨lv,ow,k,_,rfl,rfl,by rw [HID.out],by omega,HL7.out,HS,HB7.out⟩
        case measure=>simp [intOf]; omega
theorem w_in : Tryz.checked.prog.inits.idxOf? 15 = none:=by kernel_rfl
theorem w_ok (os : Os) : Input.okWideB Tryz.prog ((World.doorLaid Tryz.prog 400 os).forCall (fun _ _=>0) ⟨#[],#[.slice none 0 0,.int .i64 0],[]⟩) 15 ⟨#[],#[.slice none 0 0,.int .i64 0],[]⟩ = true:=by kernel_rfl
theorem w_pre (os : Os) (H : Type) (enc : TypeId×Value→H) : Rows.brokerRolesSpec.preB enc Tryz.prog Tryz.f15 [] false ((World.doorLaid Tryz.prog 400 os).forCall (fun _ _=>0) ⟨#[],#[.slice none 0 0,.int .i64 0],[]⟩).memory #[.slice none 0 0,.int .i64 0] 8 = true:=by kernel_rfl
theorem w_sz (os : Os) (H : Type) (enc : TypeId×Value→H) : Rows.brokerRolesSpec.sizedB enc Tryz.prog Tryz.f15 false ((World.doorLaid Tryz.prog 400 os).forCall (fun _ _=>0) ⟨#[],#[.slice none 0 0,.int .i64 0],[]⟩).memory #[.slice none 0 0,.int .i64 0] 8 = true:=by kernel_rfl
set_option maxRecDepth 100000 in
theorem lifted (os : Os) (started : os.Started) (H : Type) (enc : TypeId×Value→H) :
    ReturnsInHanded {} Tryz.checked os 15 .any (fun w args=>(Rows.brokerRolesSpec.pre enc Tryz.prog Tryz.f15 [] false w args∧laidMetH Tryz.prog laidL w)∧sizedMet enc Tryz.prog Tryz.f15 (OpenSpec.ofChange Rows.brokerRolesSpec) false w args)
      (Rows.brokerRolesSpec.post enc Tryz.prog Tryz.f15 false true false false):=by
  refine returnsInHanded_of_change_and (C:=Tryz.checked) (X:=fun w _=>laidMetH Tryz.prog laidL w) (fun _ _ _ hh h=>h.of_heap hh) own started w_in Tryz.func15
    (ChangeSpec.witness_shaped (enc:=enc) (C:=Tryz.checked) (os:=os) (X:=fun w _=>laidMetH Tryz.prog laidL w) false (World.doorLaid Tryz.prog 400 os) #[.slice none 0 0,.int .i64 0] 8 rfl (door_shaped os _) (w_ok os) (w_pre os H enc) (w_sz os H enc) (door_met os _)) ?_
  intro W base args ds gs before hval0 hW hcnd hsz0 hL _
  have hti:=ti_of hL
  have hval : ∀ (j : Nat) t v,Tryz.f15.params[j]? = some t→args[j]? = some v→Value.okWide Tryz.prog W .any base t v:=hval0
  have hW':=hW
  obtain ⟨p,q,hA0,hV,rfl,hfz,hnd⟩:=hW
  have hsz : (DataW.weightsEach Tryz.prog (Tryz.f15.params.toList ++ Rows.brokerRolesSpec.plain.varTypes Tryz.prog) (ds ++ gs)).all (·≤reachBytes) = true:=hsz0
  have hA : DataW.TrodAll enc Tryz.prog W 0 (fun _=>true) true Tryz.f15.params.toList args.toList ds p:=hA0
  rw [Tryz.params15] at hA hval hsz
  obtain ⟨v0,vs0,d0,ds0,p0,q0,hargs,rfl,rfl,h0,r0⟩:=trodAll_cons hA
  obtain ⟨v1,vs1,d1,ds1,p1,q1,rfl,rfl,rfl,h1,r1⟩:=trodAll_cons r0
  obtain ⟨rfl,rfl,rfl⟩:=trodAll_nil r1
  obtain rfl : args = #[v0,v1]:=by cases args; simp_all
  obtain ⟨rfl,rfl⟩:=trodVars_none hV
  obtain ⟨a0,len0,cap0,rfl⟩:=okWide_slice Tryz.underlying90 (hval 0 90 v0 rfl rfl)
  have k0:=h0
  have lt0 : ∀ x∈p0,x.block < W.heap.size:=by obtain ⟨m,hm⟩:=k0; exact DataW.trod_lt m _ _ _ hm
  obtain ⟨B0,w0,g0⟩ : ∃ B,Bools W a0 len0 B∧len0≤cap0∧cap0≤maxLen:=by
    obtain ⟨fuel,hf⟩:=h0
    exact open_bools_in hf
  obtain ⟨a1,rfl,rfl,rfl,w1⟩:=open_int Tryz.underlying3 (hval 1 3 v1 rfl rfl) h1
  clear hA0 hval0 hsz hsz0
  refine (walk a0 len0 cap0 B0 a1 W w0 g0 w1 hti).mono fun e W' ⟨he,bel⟩=>?_
  subst he
  exact ⟨_,rfl,_,_,_,[],_,[],hW',trodAll_mk1 (shut_bool Tryz.underlying4 _),(trodAll_cons_mk (Below.trod laidOut (by kernel_rfl) (of_decide_eq_true (by kernel_rfl)) k0 bel lt0) (trodAll_cons_mk (shut_int Tryz.underlying3 w1) trodAll_mk0)),rfl,bel.frame _,fun h=>by cases h⟩
theorem q0 : (Rows.brokerRolesRow.wf (OpenSpec.ofChange Rows.brokerRolesSpec)) = true:=by kernel_rfl
theorem q3 : (Tryz.f15.params.all (Tryz.prog.readableRec ·)) = true:=by kernel_rfl
theorem q4 : (namedTie Tryz.prog Rows.brokerRolesRow.named Rows.brokerRolesSpec.vars) = true:=by kernel_rfl
theorem q5 : ((Rows.brokerRolesRow.stops == [])) = true:=by kernel_rfl
theorem q7 : ((Rows.brokerRolesRow.knobs == [])) = true:=by kernel_rfl
theorem q9 : ((Rows.brokerRolesRow.inPlace == Tryz.prog.inPlace 15)) = true:=by kernel_rfl
theorem q10 : ((Rows.brokerRolesRow.unfollowed == Tryz.prog.unfollowed 15)) = true:=by kernel_rfl
theorem q11 : ((Rows.brokerRolesRow.recurses == Tryz.prog.recurses 15)) = true:=by kernel_rfl
theorem q12 : ((Rows.brokerRolesRow.named == Tryz.prog.varsNamed 15)) = true:=by kernel_rfl
theorem q13 : ((Rows.brokerRolesRow.maps == (Tryz.f15.params.toList ++ Rows.brokerRolesSpec.plain.varTypes Tryz.prog).any (Tryz.prog.mapsRec ·))) = true:=by kernel_rfl
theorem q14 : ((Rows.brokerRolesRow.ifaces == (Tryz.f15.params.toList ++ Rows.brokerRolesSpec.plain.varTypes Tryz.prog).any (Tryz.prog.ifacesRec ·))) = true:=by kernel_rfl
theorem q15 : ((Rows.brokerRolesRow.mapsOut == Tryz.prog.mapsAmong Tryz.f15.resultTypes.toList)) = true:=by kernel_rfl
theorem q16 : ((Rows.brokerRolesRow.loops == (Tryz.f15.params.toList ++ Rows.brokerRolesSpec.plain.varTypes Tryz.prog).any (Tryz.prog.loopsFrom ·))) = true:=by kernel_rfl
theorem q17 : ((Rows.brokerRolesRow.wideKeys == (Tryz.f15.params.toList ++ Rows.brokerRolesSpec.plain.varTypes Tryz.prog ++ Tryz.f15.resultTypes.toList).any (Tryz.prog.wideKeysFrom ·))) = true:=by kernel_rfl
theorem q18 : (Rows.brokerRolesSpec.vars.all (Tryz.prog.varReadable ·)) = true:=by kernel_rfl
theorem q19 : (Tryz.f15.resultTypes.all (fun t=>Tryz.prog.readableRec t && decide (t < Tryz.prog.types.size))) = true:=by kernel_rfl
theorem q20 : ((Rows.brokerRolesRow.ifacesOut == Tryz.f15.resultTypes.toList.any (Tryz.prog.ifacesRec ·))) = true:=by kernel_rfl
theorem q21 : ((Rows.brokerRolesRow.loopsOut == Tryz.f15.resultTypes.toList.any (Tryz.prog.loopsFrom ·))) = true:=by kernel_rfl
theorem q22 : ((Rows.brokerRolesRow.plainKeys == Tryz.prog.plainKeys)) = true:=(show Rows.brokerRolesRow.plainKeys = Rows.brokerEventsRow.plainKeys from rfl) ▸ pq22
theorem q23 : (Rows.brokerRolesRow.shortTexts.isNone) = true:=by kernel_rfl
theorem q26 : ((Rows.brokerRolesRow.lifted == Tryz.prog.liftsFinal)) = true:=(show Rows.brokerRolesRow.lifted = Rows.brokerEventsRow.lifted from rfl) ▸ pq26
theorem q27 : ((Tryz.prog.make == some Rows.brokerRolesRow.make)) = true:=(show Rows.brokerRolesRow.make = Rows.brokerEventsRow.make from rfl) ▸ pq27
theorem q28 : kindsAre Tryz.prog Rows.brokerRolesRow Tryz.f15 = true:=by kernel_rfl
theorem q29 : ((Rows.brokerRolesRow.pinned == Rows.brokerRolesRow.pinnedBy)) = true:=by kernel_rfl
theorem q30 : ((Rows.brokerRolesRow.veiled == (Tryz.f15.params.toList ++ Rows.brokerRolesSpec.plain.varTypes Tryz.prog ++ Tryz.f15.resultTypes.toList).any (Tryz.prog.veiledRec ·))) = true:=by kernel_rfl
theorem q31 : (Rows.brokerRolesRow.veiledFits Tryz.prog Tryz.f15.params.toList (Tryz.f15.params.toList ++ Rows.brokerRolesSpec.plain.varTypes Tryz.prog ++ Tryz.f15.resultTypes.toList)) = true:=by kernel_rfl
theorem q_named : Tryz.prog.funcNamed Rows.brokerRolesRow.func = some 15:=by kernel_rfl
theorem q_inst : Tryz.f15.isInstance Tryz.prog Rows.brokerRolesRow.origin Rows.brokerRolesRow.targs:=of_decide_eq_true (by kernel_rfl)
theorem q_wrap : Tryz.f15.isWrapper Tryz.prog Rows.brokerRolesRow.wrapper Rows.brokerRolesRow.mainSum:=by unfold Func.isWrapper; first | (rw [if_pos (by decide +kernel)]; kernel_rfl) | (rw [if_neg (by decide +kernel)]; exact ⟨rfl,rfl⟩)
set_option maxRecDepth 100000 in
theorem q_all : joinedFacts Tryz.prog 15 Tryz.f15 Rows.brokerRolesSpec Rows.brokerRolesRow = true:=joined_of (P:=Tryz.prog) (f:=15) (fn:=Tryz.f15) (s:=Rows.brokerRolesSpec) (c:=Rows.brokerRolesRow) q0 pq1 pq2 q3 q4 q5 pq6 q7 pq8 q9 q10 q11 q12 q13 q14 q15 q16 q17 q18 q19 q20 q21 q22 q23 pq24 pq25 q26 q27 q28 q29 q30 q31
theorem over : Rows.BrokerRolesSaid:=
  OpenClaim.holds_of_wide 15 Tryz.f15 rfl rfl rfl rfl rfl rfl rfl ⟨rfl,rfl,rfl,rfl,rfl⟩ rfl rfl rfl rfl rfl q_named Tryz.func15 q_all q_inst q_wrap
    (fun os started H enc _=>lifted os started H enc)
theorem c_wf : Rows.brokerRolesRow.wfByText (OpenSpec.ofChange Rows.brokerRolesSpec) = true:=by kernel_rfl
theorem c_looks : true = Tryz.prog.looks []:=by kernel_rfl
theorem c_stand : ([90,3].all fun u=>!Tryz.prog.wantsStandIn u) = true:=by kernel_rfl
theorem c_goes : false = Rows.brokerRolesRow.goesBy Tryz.prog:=by kernel_rfl
end Go.Proofs.YtjmdddhbdofppaaGreatDoor.brokerRoles
namespace Go.Proofs.YtjmdddhbdofppaaGreatDoor
theorem brokerRoles_holds : Rows.BrokerRolesCardSaid:=
  Claim7.holds_tied_plain_at (c:=Rows.brokerRolesRow) .later [] _ true _ true
    brokerRoles.over (fun _ h=>by cases h) brokerRoles.c_wf (fun _ h=>by cases h) brokerRoles_row_tie rfl ⟨rfl,rfl⟩ main_is rfl
    (fun f fn hf hfn=>by
      obtain rfl : f = 15:=Option.some.inj (brokerRoles.q_named.symm.trans hf) |>.symm
      obtain rfl : fn = Tryz.f15:=(Option.some.inj (Tryz.func15.symm.trans hfn)).symm
      exact ⟨brokerRoles.c_looks,fun j t ht=>by
        rw [Tryz.params15] at ht
        have hm : t∈[90,3]:=by simpa using Array.mem_of_getElem? ht
        exact (show Tryz.prog.wantsStandIn t = false by simpa using List.all_eq_true.1 brokerRoles.c_stand t hm)⟩)
    brokerRoles.c_goes
#print axioms brokerRoles_holds
end Go.Proofs.YtjmdddhbdofppaaGreatDoor
