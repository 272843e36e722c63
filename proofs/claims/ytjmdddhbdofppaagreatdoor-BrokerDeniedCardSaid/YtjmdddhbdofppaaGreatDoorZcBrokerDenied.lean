/- BrokerDenied: for every input the law answers true, and its arguments read as before. Conditions: none. -/
import Derived.Test.YtjmdddhbdofppaaGreatDoorZc07
import Derived.Test.YtjmdddhbdofppaaGreatDoorZc10
import Derived.Test.YtjmdddhbdofppaaGreatDoorZc19
import Derived.Test.YtjmdddhbdofppaaGreatDoorZc33
import Derived.Test.YtjmdddhbdofppaaGreatDoorZc42

namespace Go.Proofs.YtjmdddhbdofppaaGreatDoor.brokerDenied
open Go.ChangeShapes Go.WideShapes Go.ChangeAt Go.RowKit
open Fr Bk
def kdO (p : Nat) : Int:=match p with | 0=>5 | 1=>6 | 2=>7 | 3=>8 | 4=>9 | _=>11
theorem kdO_at {p : Nat} (h : p < 6) : (#[.int .i64 5,.int .i64 6,.int .i64 7,.int .i64 8,.int .i64 9,.int .i64 11] : Array Value)[p]? = some (.int .i64 (kdO p)):=by
  rcases (by omega : p = 0∨p = 1∨p = 2∨p = 3∨p = 4∨p = 5) with rfl | rfl | rfl | rfl | rfl | rfl <;> rfl
theorem kdO_owns {p : Nat} (h : p < 6) : isOwners (kdO p) = true:=by
  rcases (by omega : p = 0∨p = 1∨p = 2∨p = 3∨p = 4∨p = 5) with rfl | rfl | rfl | rfl | rfl | rfl <;> rfl
theorem kdO_zero {p : Nat} (h : p < 6) : (kdO p = 5↔p = 0):=by
  rcases (by omega : p = 0∨p = 1∨p = 2∨p = 3∨p = 4∨p = 5) with rfl | rfl | rfl | rfl | rfl | rfl <;> decide
theorem kdO_rt0 : Orm.Rt 5 0:=by decide
theorem kdO_rt {p : Nat} (h : p < 6) (h0 : p≠0) {r : Nat} (hr : r < 3) : Orm.Rt (kdO p) (1 + (r : Int)):=by
  rcases (by omega : p = 1∨p = 2∨p = 3∨p = 4∨p = 5) with rfl | rfl | rfl | rfl | rfl <;> exact ⟨by decide,by decide,by omega,by omega,fun h=>absurd h (by decide)⟩
theorem ls_bytes {n0 g : Nat} {S : Nat→Prop} {w w1 : World} {b : Br} {i T m : Nat} {A : Option Addr} {n : Nat} (h : LS n0 S g w b) (hb : Below w.heap.size w w1) (ha : ∀ p,A = some p→w.heap.size≤p.block) (he : EvOk b i T m) (hT : T≤100000000) (id : Int) (hid : wf64 id) {B : Nat} (c2 : Nat) {t : Bs} (ht : Bytes w1 B A n t) (hn : n≤1000000) :
    Calls Tryz.prog 34 #[.pointer (some (at0 g)),.int .i64 id,.slice A n c2] w1 fun e w'=>e = .returned (.int .i64 (bytesE b id : Nat))∧LS n0 S g w' (bytesB b id t)∧Only (fun x=>n0≤x∧¬ S x) w1 w':=by
  obtain ⟨F,rs,h,hs⟩:=h
  have h1 : LB n0 F g rs w1 b:=⟨h.is.quiet (only_of_below hb),h.new,Nat.le_trans h.le hb.size⟩
  exact (bbytes_any h1.is he hT id hid c2 ht hn (fun _ p hp hF=>by
    obtain ⟨y,_,hy⟩:=h.is
    have:=hy.lt hF
    have:=ha p hp
    omega)).mono fun e w' hg=>h1.e2 (fun x hx=>⟨Nat.lt_of_lt_of_le (hs x hx).1 hb.size,(hs x hx).2⟩) hg
theorem below_only {w w' : World} {S : Nat→Prop} (h : Below w.heap.size w w') : Only S w w':=(only_of_below h).mono fun _ _ h=>h.elim
def dnA (n0 gk rb x : Nat) : Prop:=n0≤x∧¬ x = gk + 1∧¬ x = rb
theorem text_is {k n : Int} (h : Orm.Rt k n) : Orm.text k n = Orm.tx k n:=by unfold Orm.text; rw [if_pos h]
set_option maxRecDepth 100000 in
set_option maxHeartbeats 60000000 in
theorem walk (a0 : Int) (a1 : Int) (b2 : Bool) (w : World) (w0 : (Lit.int .i64 a0).wf = true) (w1 : (Lit.int .i64 a1).wf = true)  (ht : TI w) :
    Calls Tryz.prog 11 #[.int .i64 a0,.int .i64 a1,.bool b2] w fun e w'=>e = .returned (.bool true)∧Below w.heap.size w w':=by
  have hmix : Tryz.prog.follows .mixedOrders = true:=by kernel_rfl
  obtain ⟨p,hp0,hpe⟩:=rest_any a0 6 (by decide) (by decide)
  obtain ⟨r,hr0,hre⟩:=rest_any a1 3 (by decide) (by decide)
  have hp : p < 6:=by omega
  have hr3 : r < 3:=by omega
  have hkd:=kdO_at hp
  have hko:=kdO_owns hp
  have hkz:=kdO_zero hp
  have hkr:=fun h0=>kdO_rt hp h0 hr3
  obtain ⟨kd,hkk⟩ : ∃ kd,kdO p = kd:=⟨_,rfl⟩
  rw [hkk] at hkd hko hkz hkr
  have HKD:=Lib.hid hkd
  have HKO:=Lib.hid hko
  have HKZ:=Lib.hid hkz
  have HKR:=Lib.hid hkr
  have HA0:=Lib.hid w0
  have HA1:=Lib.hid w1
  have HTI:=Lib.hid ht
  have hid1 : wf64 1:=by decide
  have hid2 : wf64 2:=by decide
  clear HA0 HA1 w0 w1 ht hp0 hr0 hkk hkd hko hkz hkr
  go_enter Tryz.func11,Tryz.ntmps11
  go_wp2_with fail
  refine (bhead_any w HTI.out).mono ?_
  rintro e w1 ⟨rfl,hb1⟩
  have HB1:=Lib.hid hb1
  clear hb1
  go_wp2_with fail
  refine (default_any _).mono ?_
  rintro e w2 ⟨rfl,hb2⟩
  have HB2:=Lib.hid (Below.trans HB1.out (hb2.mono HB1.out.size))
  clear hb2 HB1
  go_wp2_with fail
  refine (lb_new cfd_right w2 (HTI.out.below HB2.out)).mono ?_
  rintro e w3 ⟨g,rfl,hl3,hb3⟩
  have HL3:=Lib.hid hl3
  have HB3:=Lib.hid (Below.trans HB2.out (hb3.mono HB2.out.size))
  have hn0 : w.heap.size≤w2.heap.size:=HB2.out.size
  clear hl3 hb3 HB2
  generalize w2.heap.size = n0 at *
  obtain ⟨_,_,_,_,_,q6,q7⟩:=dn_first
  have HQ6:=Lib.hid q6
  have HQ7:=Lib.hid q7
  clear q6 q7
  cases b2
  ·
    go_wp2_with fail
    refine (lb_connect HL3.out cfd_ok.ok 1 hid1).mono ?_
    rintro e w4 ⟨rfl,hl4,hb4⟩
    rw [HQ6.out]
    have HL4:=Lib.hid hl4
    have HB4:=Lib.hid (Below.trans HB3.out (hb4.mono hn0))
    clear hl4 hb4 HL3 HB3 HQ6
    go_wp2_with fail
    refine (lhello_any [97#8] (by decide) w4).mono ?_
    rintro e w5 ⟨A5,c5,rfl,hy5,hn5,_,hb5⟩
    have HW5:=Lib.hid (LAway.made (n:=(enc (helloM [97#8])).length) HL4.out hb5 hn5)
    have HY5:=Lib.hid hy5
    have HB5:=Lib.hid (Below.trans HB4.out (hb5.mono HB4.out.size))
    clear hy5 hn5 hb5 HL4 HB4
    go_wp2_with fail
    refine (lb_bytes HW5.out (cfd_ok.connect 1) (by decide) 1 hid1 c5 HY5.out (by rw [enc_len5]; decide)).mono ?_
    rintro e w6 ⟨rfl,hl6,hb6⟩
    rw [HQ7.out]
    have HL6:=Lib.hid (show LBx n0 g w6 dn1 from hl6)
    have HB6:=Lib.hid (Below.trans HB5.out (hb6.mono hn0))
    obtain ⟨_,_,_,_,_,q6,q7⟩:=dn_second false
    have HQ6:=Lib.hid q6
    have HQ8:=Lib.hid q7
    clear hl6 hb6 HW5 HY5 HB5 HQ7 q6 q7
    go_wp2_with fail
    refine (lb_connect HL6.out dn1_ev.ok 2 hid2).mono ?_
    rintro e w7 ⟨rfl,hl7,hb7⟩
    rw [HQ6.out]
    have HL7:=Lib.hid hl7
    have HB7:=Lib.hid (Below.trans HB6.out (hb7.mono hn0))
    clear hl7 hb7 HL6 HB6 HQ6
    go_wp2_with fail
    refine (show Calls Tryz.prog 44 #[.slice none 0 0,.agg #[.int .i64 1,.int .i64 5,.int .i64 0,.string ⟨#[98]⟩]] w7 (NewBytes w7 (enc (secondM false))) from put_new (secondM false) (second_ok false) w7).mono ?_
    rintro e w8 ⟨A8,c8,rfl,hy8,hn8,_,hb8⟩
    have HW8:=Lib.hid (LAway.made (n:=(enc (secondM false)).length) HL7.out hb8 hn8)
    have HY8:=Lib.hid hy8
    have HB8:=Lib.hid (Below.trans HB7.out (hb8.mono HB7.out.size))
    clear hy8 hn8 hb8 HL7 HB7
    go_wp2_with fail
    refine (lb_bytes HW8.out (dn1_ev.connect 2) (by decide) 2 hid2 c8 HY8.out (by rw [enc_len5]; decide)).mono ?_
    rintro e w9 ⟨rfl,hl9,hb9⟩
    rw [HQ8.out]
    have HL9:=Lib.hid (show LBx n0 g w9 (dn2 false) from hl9)
    have HB9:=Lib.hid (Below.trans HB8.out (hb9.mono hn0))
    obtain ⟨_,_,_,_,_,q7⟩:=dn_third false
    have HQ9:=Lib.hid q7
    clear hl9 hb9 HW8 HY8 HB8 HQ8 q7
    go_wp2_with fail
    refine (ltyped_any 1 (esc wFloor) (by decide) (by decide) (by decide) w9).mono ?_
    rintro e wa ⟨Aa,ca,rfl,hya,hna,_,hba⟩
    have HWa:=Lib.hid (LAway.made (n:=(enc (keys 1 (esc wFloor))).length) HL9.out hba hna)
    have HYa:=Lib.hid hya
    have HBa:=Lib.hid (Below.trans HB9.out (hba.mono HB9.out.size))
    clear hya hna hba HL9 HB9
    go_wp2_with fail
    refine (lb_bytes HWa.out (dn2_ev false) (by decide) 1 hid1 ca HYa.out (by rw [enc_len5]; decide)).mono ?_
    rintro e wb ⟨rfl,hlb,hbb⟩
    rw [HQ9.out]
    have HLb:=Lib.hid (show LBx n0 g wb (dn3 false) from hlb)
    have HBb:=Lib.hid (Below.trans HBa.out (hbb.mono hn0))
    clear hlb hbb HWa HYa HBa HQ9
    have HWr:=Lib.hid (lb_write HLb.out (dn3_ev false).ok 1 5000 hid1)
    go_wp2_with fail
    refine HWr.out.mono ?_
    rintro e wc ⟨Ac,mc,cc,rfl,hlc,hbc,_,_,_⟩
    have HLc:=Lib.hid (show LBx n0 g wc (dn4 false) from hlc)
    have HBc:=Lib.hid (Below.trans HBb.out (hbc.mono hn0))
    have HWr2:=Lib.hid (lb_write HLc.out ((dn3_ev false).write 1 5000).ok 2 5000 hid2)
    clear hlc hbc HLb HBb HWr
    go_wp2_with fail
    refine HWr2.out.mono ?_
    rintro e wd ⟨Ad,md,cd,rfl,hld,hbd,_,_,_⟩
    have HLd:=Lib.hid (show LBx n0 g wd (dn5 false) from hld)
    have HBd:=Lib.hid (Below.trans HBc.out (hbd.mono hn0))
    clear hld hbd HLc HBc HWr2
    have HXk:=Lib.hid (Bx.new wd _ rfl #[.int .i64 5,.int .i64 6,.int .i64 7,.int .i64 8,.int .i64 9,.int .i64 11] 82)
    have hbk : Below wd.heap.size wd (wd.alloc (.cells #[.int .i64 5,.int .i64 6,.int .i64 7,.int .i64 8,.int .i64 9,.int .i64 11] 82)):=(Below.refl _ _).alloc (Nat.le_refl _) _
    have hkc:=HXk.out.cell p (.int .i64 kd) HKD.out
    clear HXk
    have hsz2 : (wd.alloc (.cells #[.int .i64 5,.int .i64 6,.int .i64 7,.int .i64 8,.int .i64 9,.int .i64 11] 82)).heap.size = wd.heap.size + 1:=by simp
    have hwd : w.heap.size≤wd.heap.size:=HBd.out.size
    by_cases hk5 : kd = 5
    ·
      subst hk5
      have HRT:=Lib.hid kdO_rt0
      have d5 : decide ((5 : Int) = 5) = true:=by decide
      have HOw:=Lib.hid (show isOwners 5 = true from HKO.out)
      clear HKD HKO HKZ HKR
      go_upto_region 19 with fail
      generalize wd.alloc (.cells #[.int .i64 5,.int .i64 6,.int .i64 7,.int .i64 8,.int .i64 9,.int .i64 11] 82) = we at *
      obtain ⟨gk,hgk⟩ : ∃ gk,wd.heap.size = gk:=⟨_,rfl⟩
      rw [hgk] at hbk hwd hsz2 ⊢
      have HGk:=Lib.hid hgk
      clear hkc hgk
      have HXo:=Lib.hid (Bx.new we (gk + 1) hsz2 #[.int .i64 5,.int .i64 0] 86)
      have hbo : Below we.heap.size we (we.alloc (.cells #[.int .i64 5,.int .i64 0] 86)):=(Below.refl _ _).alloc (Nat.le_refl _) _
      have hbo : Below gk wd (we.alloc (.cells #[.int .i64 5,.int .i64 0] 86)):=hbk.trans (hbo.mono (by omega))
      generalize we.alloc (.cells #[.int .i64 5,.int .i64 0] 86) = wo at *
      have HLo:=Lib.hid (HLd.out.ls (S:=fun x=>x = gk + 1) (by rw [HGk.out]; exact hbo) (fun x hx=>by subst hx; exact ⟨by rw [HGk.out]; exact Nat.le_succ gk,HXo.out.room⟩))
      have HBo:=Lib.hid (Below.trans HBd.out (hbo.mono hwd))
      have HTo:=Lib.hid (HTI.out.below HBo.out)
      obtain ⟨t,ht⟩ : ∃ t,Orm.tx 5 0 = t:=⟨_,rfl⟩
      have htl : t.length≤20:=by rw [← ht]; exact Orm.tx_len HRT.out
      have hev6:=dn6_ev false HRT.out
      obtain ⟨i1,i2,i3,i4,i5⟩:=denied_is false HRT.out HOw.out
      rw [ht] at hev6 i2 i3 i4 i5
      have HEV6:=Lib.hid hev6
      have HI1:=Lib.hid i1
      have HI2:=Lib.hid i2
      have HI3:=Lib.hid i3
      have HI4:=Lib.hid i4
      have HI5:=Lib.hid i5
      have HStr:=Lib.hid (show Calls Tryz.prog 47 #[.agg #[.int .i64 5,.int .i64 0]] wo (TextGives wo t) by rw [← ht,← text_is HRT.out]; exact ostring_any 5 0 wo HTo.out)
      have o0:=HXo.out.cell 0 (.int .i64 5) rfl
      have o1:=HXo.out.cell 1 (.int .i64 0) rfl
      have hts:=str_size t
      have hcat : (⟨#[29,58]⟩ ++ str t) ++ ⟨#[10]⟩ = str (esc t):=by
        unfold esc
        rw [str_app,str_app]
        rfl
      have hel : (esc t).length≤23:=by unfold esc; simp; omega
      clear hev6 i1 i2 i3 i4 i5 hbo hbk HLd HBd HTo HOw
      go_wp2_with fail
      refine HStr.out.mono ?_
      rintro e wf ⟨rfl,hbf⟩
      have HLf:=Lib.hid (HLo.out.quiet (only_of_below hbf))
      have HXf:=Lib.hid (HXo.out.go hbf HXo.out.room)
      have HBf:=Lib.hid (Below.trans HBo.out (hbf.mono HBo.out.size))
      clear hbf HStr HLo HXo HBo o0 o1
      go_wp2_with fail
      try rw [hcat]
      refine (ltyped_any 7 (esc t) (by decide) (by decide) (by omega) wf).mono ?_
      rintro e wg ⟨Ag,cg,rfl,hyg,hng,_,hbg⟩
      have HYg:=Lib.hid hyg
      have HXg:=Lib.hid (HXf.out.go hbg HXf.out.room)
      have HBg:=Lib.hid (Below.trans HBf.out (hbg.mono HBf.out.size))
      have HBy:=Lib.hid (ls_bytes HLf.out hbg hng (dn5_ev false) (by decide) 2 hid2 cg hyg (by rw [enc_len5]; show 6 * 1 + (esc t).length + 5≤1000000; omega))
      clear hyg hng hbg HLf HXf HBf
      go_wp2_with fail
      refine HBy.out.mono ?_
      rintro e wh ⟨rfl,hlh,hoh⟩
      rw [HI1.out]
      have HLh:=Lib.hid (show LS n0 (fun x=>x = gk + 1) g wh (dn6 false t) from hlh)
      have HXh:=Lib.hid (HXg.out.keep hoh (fun h=>h.2 rfl))
      have HBh:=Lib.hid (Below.trans HBg.out (hoh.below HBg.out.size fun k hk h=>by have:=h.1; omega))
      have HWh:=ls_write HLh.out HEV6.out.ok 2 5000 hid2
      rw [HI2.out,HI3.out] at HWh
      have HWh:=Lib.hid HWh
      clear hlh hoh HYg HXg HBg HBy HLh
      go_wp2_with fail
      refine HWh.out.mono ?_
      rintro e wi ⟨Ai,mi,ci,rfl,hli,hoi,hyi,hci,_⟩
      have HLi:=Lib.hid (show LS n0 (fun x=>x = gk + 1) g wi (dn7 false t) from hli)
      have HXi:=Lib.hid (HXh.out.keep hoi (fun h=>h.2 rfl))
      have HBi:=Lib.hid (Below.trans HBh.out (hoi.below HBh.out.size fun k hk h=>by have:=h.1; omega))
      have hmi : mi≤1000000000:=by
        have:=hyi.1
        rw [enc_len5] at this
        have : mi = 6 * 0 + t.length + 5:=this.symm
        omega
      have HMs:=Lib.hid (lmessages_any [deniedM t] (fun m hm=>by rw [List.mem_singleton.1 hm]; exact denied_ok (by omega)) wi (show Bytes wi wi.heap.size Ai mi (encs [deniedM t]) by rw [encs_one]; exact hyi) (Nat.le_refl _) hci hmi)
      clear hli hoi hyi hci hmi HWh HXh HBh
      go_wp2_with fail
      refine HMs.out.mono ?_
      rintro e wj ⟨R,rc,rfl,hrow,hbj⟩
      have HRow:=Lib.hid hrow
      have HLj:=Lib.hid (HLi.out.more (T:=fun x=>∃ p,R = some p∧p.block = x) hbj (fun x ⟨p,hp,e⟩=>by subst e; exact hrow.lt hp))
      have HXj:=Lib.hid (HXi.out.go hbj HXi.out.room)
      have HBj:=Lib.hid (Below.trans HBi.out (hbj.mono HBi.out.size))
      have HWj:=ls_write (b:=dn7 false t) HLj.out (HEV6.out.write 2 5000).ok 1 5000 hid1
      rw [show writeT (dn7 false t) 1 5000 = [] from HI4.out] at HWj
      have HWj:=Lib.hid HWj
      rw [show [deniedM t].length = 1 from rfl]
      clear hrow hbj HMs HLi HXi HBi HLj
      go_wp2_with fail
      refine HWj.out.mono ?_
      rintro e wk ⟨Ak,mk,ck,rfl,hlk,hok,hyk,_,_⟩
      obtain rfl : mk = 0:=hyk.1.symm
      have HLk:=Lib.hid (show LS n0 (fun x=>x = gk + 1∨∃ p,R = some p∧p.block = x) g wk (dn8 false t) from hlk)
      have HXk:=Lib.hid (HXj.out.keep hok (fun h=>h.2 (.inl rfl)))
      have HRk:=Lib.hid (HRow.out.only hok (fun p hp hn=>hn.2 (.inr ⟨p,hp,rfl⟩)))
      have HBk:=Lib.hid (Below.trans HBj.out (hok.below HBj.out.size fun k hk h=>by have:=h.1; omega))
      have HEV8:=Lib.hid ((HEV6.out.write 2 5000).write 1 5000)
      obtain ⟨b8,hb8⟩ : ∃ b8,dn8 false t = b8:=⟨_,rfl⟩
      have HE8:=Lib.hid (show BOk b8 by rw [← hb8]; exact HEV8.out.ok)
      have HF8:=Lib.hid (show b8.fl = flD false by rw [← hb8]; exact HI5.out)
      rw [hb8] at HLk
      have HR1:=Lib.hid (lb_role HLk.out.lbx HE8.out 1 hid1)
      clear hlk hok hyk HWj HXj HRow HBj HEV8 hb8 HI1 HI2 HI3 HI4 HI5 HEV6
      go_wp2_with fail
      refine HR1.out.mono ?_
      rintro e wl ⟨rfl,_,hbl⟩
      rw [HF8.out,show rrole (flD false).roles 1 = 2 from rfl,show rhas (flD false).roles 1 = true from rfl]
      have HLl:=Lib.hid (HLk.out.quiet (only_of_below hbl))
      have HXl:=Lib.hid (HXk.out.go hbl HXk.out.room)
      have HRl:=Lib.hid (HRk.out.below hbl)
      have HBl:=Lib.hid (Below.trans HBk.out (hbl.mono HBk.out.size))
      have HR2:=Lib.hid (lb_role HLl.out.lbx HE8.out 2 hid2)
      clear hbl HLk HXk HRk HBk HR1
      go_wp2_with fail
      refine HR2.out.mono ?_
      rintro e wm ⟨rfl,_,hbm⟩
      rw [HF8.out,show rrole (flD false).roles 2 = 1 from rfl,show rhas (flD false).roles 2 = true from rfl]
      have HLm:=Lib.hid (HLl.out.quiet (only_of_below hbm))
      have HXm:=Lib.hid (HXl.out.go hbm HXl.out.room)
      have HRm:=Lib.hid (HRl.out.below hbm)
      have HBm:=Lib.hid (Below.trans HBl.out (hbm.mono HBl.out.size))
      clear hbm HLl HXl HRl HBl HR2
      obtain ⟨rb,off,rfl,hrb,hcell⟩:=HRm.out.msin.outer (by simp)
      obtain ⟨y0,y1,y2,y3⟩:=msg_cells (hcell 0 (deniedM t) rfl) (o:=off) (by omega)
      have HY:=Lib.hid (And.intro y0 (And.intro y1 (And.intro y2 y3)))
      have HO:=Lib.hid (And.intro (HXm.out.cell 0 (.int .i64 5) rfl) (HXm.out.cell 1 (.int .i64 0) rfl))
      have hsr : ((str t).toList == (str t).toList) = true:=by simp
      clear hcell y0 y1 y2 y3 hcat
      go_wp2_with fail
      refine wp_region_held (S:=fun W=>Only (dnA n0 gk rb) wm W) hmix ?_
      change wpAnyH _ _ _ _ _ _ _ _ (World.drew _)
      have hS0 : Only (dnA n0 gk rb) wm wm.drew:=(Only.refl _ _).drew
      refine wpAnyH_take (i:=0) (v:=.bool true) rfl (by kernel_rfl) (by kernel_rfl) (by kernel_rfl) (fun _ _ _ h=>h) (.inl ⟨by kernel_rfl,fun W hW=>?_⟩) hS0 ?_
      · go_simp; try (first | rfl | (intro hh; exfalso; omega))
      refine wpAnyH_take (i:=1) (v:=.bool true) rfl (by kernel_rfl) (by kernel_rfl) (by kernel_rfl) (fun _ _ _ h=>h) (.inl ⟨by kernel_rfl,fun W hW=>?_⟩) hS0 ?_
      · go_simp; try (first | rfl | (intro hh; exfalso; omega))
      refine wpAnyH_take (i:=2) (v:=.slice (some ⟨rb,off,none⟩) 1 rc) rfl (by kernel_rfl) (by kernel_rfl) (by kernel_rfl) (fun _ _ _ h=>h) (.inl ⟨by kernel_rfl,fun W hW=>?_⟩) hS0 ?_
      · go_simp; try (first | rfl | (intro hh; exfalso; omega))
      refine wpAnyH_take (i:=3) (v:=.int .i64 1) rfl (by kernel_rfl) (by kernel_rfl) (by kernel_rfl) (fun _ _ _ h=>h) (.inl ⟨by kernel_rfl,fun W hW=>?_⟩) hS0 ?_
      · go_simp; try (first | rfl | (intro hh; exfalso; omega))
      refine wpAnyH_take (i:=4) (v:=.bool true) rfl (by kernel_rfl) (by kernel_rfl) (by kernel_rfl) (fun _ _ _ h=>h) (.inl ⟨by kernel_rfl,fun W hW=>?_⟩) hS0 ?_
      · go_simp; try (first | rfl | (intro hh; exfalso; omega))
      refine wpAnyH_take (i:=5) (v:=.bool true) rfl (by kernel_rfl) (by kernel_rfl) (by kernel_rfl) (fun _ _ _ h=>h) (.inl ⟨by kernel_rfl,fun W hW=>?_⟩) hS0 ?_
      · go_simp; try (first | rfl | (intro hh; exfalso; omega))
      refine wpAnyH_take (i:=6) (v:=.bool true) rfl (by kernel_rfl) (by kernel_rfl) (by kernel_rfl) (fun _ _ _ h=>h) (.inl ⟨by kernel_rfl,fun W hW=>?_⟩) hS0 ?_
      · go_simp; try (first | rfl | (intro hh; exfalso; omega))
      refine wpAnyH_take (i:=7) (v:=.slice (some ⟨rb,off,none⟩) 1 rc) rfl (by kernel_rfl) (by kernel_rfl) (by kernel_rfl) (fun _ _ _ h=>h) (.inl ⟨by kernel_rfl,fun W hW=>?_⟩) hS0 ?_
      · go_simp; try (first | rfl | (intro hh; exfalso; omega))
      refine wpAnyH_take (i:=8) (v:=.pointer (some ⟨rb,off,none⟩)) rfl (by kernel_rfl) (by kernel_rfl) (by kernel_rfl) (fun _ _ _ h=>h) (.inl ⟨by kernel_rfl,fun W hW=>?_⟩) hS0 ?_
      · go_simp; try (first | rfl | (intro hh; exfalso; omega))
      refine wpAnyH_take (i:=9) (v:=.agg #[.int .i64 11,.int .i64 0,.int .i64 0,.string (str t)]) rfl (by kernel_rfl) (by kernel_rfl) (by kernel_rfl) (fun _ _ _ h=>h) (.inl ⟨by kernel_rfl,fun W hW=>?_⟩) hS0 ?_
      · have hq : ∀ q : Addr,q.block < wm.heap.size→(q.block = gk + 1∨q.block = rb)→W.cell? q = wm.cell? q:=fun q h1 h2=>hW.cell h1 (fun hn=>h2.elim hn.2.1 hn.2.2); have l0:=(hq ⟨rb,off,none⟩ hrb (.inr rfl)).trans HY.out.1; have l1:=(hq ⟨rb,off + 1,none⟩ hrb (.inr rfl)).trans HY.out.2.1; have l2:=(hq ⟨rb,off + 2,none⟩ hrb (.inr rfl)).trans HY.out.2.2.1; have l3:=(hq ⟨rb,off + 3,none⟩ hrb (.inr rfl)).trans HY.out.2.2.2; dsimp only [deniedM] at l0 l1 l2 l3; have k0:=(hq ⟨gk + 1,0,none⟩ HXm.out.room (.inl rfl)).trans HO.out.1; have k1:=(hq ⟨gk + 1,1,none⟩ HXm.out.room (.inl rfl)).trans HO.out.2; clear hq; go_simp; try (first | rfl | (intro hh; exfalso; omega))
      refine wpAnyH_take (i:=10) (v:=.agg #[.int .i64 5,.int .i64 0]) rfl (by kernel_rfl) (by kernel_rfl) (by kernel_rfl) (fun _ _ _ h=>h) (.inl ⟨by kernel_rfl,fun W hW=>?_⟩) hS0 ?_
      · have hq : ∀ q : Addr,q.block < wm.heap.size→(q.block = gk + 1∨q.block = rb)→W.cell? q = wm.cell? q:=fun q h1 h2=>hW.cell h1 (fun hn=>h2.elim hn.2.1 hn.2.2); have l0:=(hq ⟨rb,off,none⟩ hrb (.inr rfl)).trans HY.out.1; have l1:=(hq ⟨rb,off + 1,none⟩ hrb (.inr rfl)).trans HY.out.2.1; have l2:=(hq ⟨rb,off + 2,none⟩ hrb (.inr rfl)).trans HY.out.2.2.1; have l3:=(hq ⟨rb,off + 3,none⟩ hrb (.inr rfl)).trans HY.out.2.2.2; dsimp only [deniedM] at l0 l1 l2 l3; have k0:=(hq ⟨gk + 1,0,none⟩ HXm.out.room (.inl rfl)).trans HO.out.1; have k1:=(hq ⟨gk + 1,1,none⟩ HXm.out.room (.inl rfl)).trans HO.out.2; clear hq; go_simp; try (first | rfl | (intro hh; exfalso; omega))
      refine wpAnyH_all (rs:=[11]) (by kernel_rfl) (by simp) ?_
      intro z hz
      rw [List.mem_singleton.1 hz]
      clear hz
      unfold wpOp
      go_simp
      refine .inl ?_
      refine (show Calls Tryz.prog 47 #[.agg #[.int .i64 5,.int .i64 0]] wm.drew (TextGives wm.drew t) by rw [← ht,← text_is HRT.out]; exact ostring_any 5 0 wm.drew (HTI.out.below (below_drew HBm.out))).mono ?_
      rintro e wn ⟨rfl,hbn⟩
      have HLn:=Lib.hid ((HLm.out.quiet ((Only.refl Nay wm).drew)).quiet (only_of_below hbn))
      have hS1:=hS0.trans (below_only hbn)
      have HHo:=Lib.hid (lb_holder HLn.out.lbx HE8.out)
      clear hbn
      refine ⟨hS1,?_⟩
      refine wpAnyH_take (i:=12) (v:=.agg #[.int .i64 11,.int .i64 0,.int .i64 0,.string (str t)]) rfl (by kernel_rfl) (by kernel_rfl) (by kernel_rfl) (fun _ _ _ h=>h) (.inl ⟨by kernel_rfl,fun W hW=>?_⟩) hS1 ?_
      · go_simp; try (first | rfl | (intro hh; exfalso; omega))
      refine wpAnyH_take (i:=13) (v:=.bool true) rfl (by kernel_rfl) (by kernel_rfl) (by kernel_rfl) (fun _ _ _ h=>h) (.inl ⟨by kernel_rfl,fun W hW=>?_⟩) hS1 ?_
      · go_simp; try (first | rfl | (intro hh; exfalso; omega))
      refine wpAnyH_take (i:=14) (v:=.bool true) rfl (by kernel_rfl) (by kernel_rfl) (by kernel_rfl) (fun _ _ _ h=>h) (.inl ⟨by kernel_rfl,fun W hW=>?_⟩) hS1 ?_
      · go_simp; try (first | rfl | (intro hh; exfalso; omega))
      refine wpAnyH_take (i:=15) (v:=.bool true) rfl (by kernel_rfl) (by kernel_rfl) (by kernel_rfl) (fun _ _ _ h=>h) (.inl ⟨by kernel_rfl,fun W hW=>?_⟩) hS1 ?_
      · go_simp; try (first | rfl | (intro hh; exfalso; omega))
      refine wpAnyH_take (i:=16) (v:=.slice Ak 0 ck) rfl (by kernel_rfl) (by kernel_rfl) (by kernel_rfl) (fun _ _ _ h=>h) (.inl ⟨by kernel_rfl,fun W hW=>?_⟩) hS1 ?_
      · go_simp; try (first | rfl | (intro hh; exfalso; omega))
      refine wpAnyH_take (i:=17) (v:=.int .i64 0) rfl (by kernel_rfl) (by kernel_rfl) (by kernel_rfl) (fun _ _ _ h=>h) (.inl ⟨by kernel_rfl,fun W hW=>?_⟩) hS1 ?_
      · go_simp; try (first | rfl | (intro hh; exfalso; omega))
      refine wpAnyH_take (i:=18) (v:=.bool true) rfl (by kernel_rfl) (by kernel_rfl) (by kernel_rfl) (fun _ _ _ h=>h) (.inl ⟨by kernel_rfl,fun W hW=>?_⟩) hS1 ?_
      · go_simp; try (first | rfl | (intro hh; exfalso; omega))
      refine wpAnyH_take (i:=19) (v:=.bool true) rfl (by kernel_rfl) (by kernel_rfl) (by kernel_rfl) (fun _ _ _ h=>h) (.inl ⟨by kernel_rfl,fun W hW=>?_⟩) hS1 ?_
      · go_simp; try (first | rfl | (intro hh; exfalso; omega))
      refine wpAnyH_take (i:=20) (v:=.bool true) rfl (by kernel_rfl) (by kernel_rfl) (by kernel_rfl) (fun _ _ _ h=>h) (.inl ⟨by kernel_rfl,fun W hW=>?_⟩) hS1 ?_
      · go_simp; try (first | rfl | (intro hh; exfalso; omega))
      refine wpAnyH_take (i:=21) (v:=.pointer (some (at0 g))) rfl (by kernel_rfl) (by kernel_rfl) (by kernel_rfl) (fun _ _ _ h=>h) (.inl ⟨by kernel_rfl,fun W hW=>?_⟩) hS1 ?_
      · go_simp; try (first | rfl | (intro hh; exfalso; omega))
      refine wpAnyH_all (rs:=[22]) (by kernel_rfl) (by simp) ?_
      intro z hz
      rw [List.mem_singleton.1 hz]
      clear hz
      unfold wpOp
      go_simp
      refine .inl ?_
      refine HHo.out.mono ?_
      rintro e wo2 ⟨rfl,_,hbo2⟩
      rw [HF8.out,show fhold (flD false) = 1 from rfl]
      have HLo2:=Lib.hid (HLn.out.quiet (only_of_below hbo2))
      have hS2:=hS1.trans (below_only hbo2)
      have HUs:=Lib.hid (ls_users HLo2.out HE8.out)
      clear hbo2
      refine ⟨hS2,?_⟩
      refine wpAnyH_take (i:=23) (v:=.bool true) rfl (by kernel_rfl) (by kernel_rfl) (by kernel_rfl) (fun _ _ _ h=>h) (.inl ⟨by kernel_rfl,fun W hW=>?_⟩) hS2 ?_
      · go_simp; try (first | rfl | (intro hh; exfalso; omega))
      refine wpAnyH_take (i:=24) (v:=.bool true) rfl (by kernel_rfl) (by kernel_rfl) (by kernel_rfl) (fun _ _ _ h=>h) (.inl ⟨by kernel_rfl,fun W hW=>?_⟩) hS2 ?_
      · go_simp; try (first | rfl | (intro hh; exfalso; omega))
      refine wpAnyH_take (i:=25) (v:=.bool true) rfl (by kernel_rfl) (by kernel_rfl) (by kernel_rfl) (fun _ _ _ h=>h) (.inl ⟨by kernel_rfl,fun W hW=>?_⟩) hS2 ?_
      · go_simp; try (first | rfl | (intro hh; exfalso; omega))
      refine wpAnyH_take (i:=26) (v:=.int .i64 2) rfl (by kernel_rfl) (by kernel_rfl) (by kernel_rfl) (fun _ _ _ h=>h) (.inl ⟨by kernel_rfl,fun W hW=>?_⟩) hS2 ?_
      · go_simp; try (first | rfl | (intro hh; exfalso; omega))
      refine wpAnyH_take (i:=27) (v:=.bool true) rfl (by kernel_rfl) (by kernel_rfl) (by kernel_rfl) (fun _ _ _ h=>h) (.inl ⟨by kernel_rfl,fun W hW=>?_⟩) hS2 ?_
      · go_simp; try (first | rfl | (intro hh; exfalso; omega))
      refine wpAnyH_take (i:=28) (v:=.bool true) rfl (by kernel_rfl) (by kernel_rfl) (by kernel_rfl) (fun _ _ _ h=>h) (.inl ⟨by kernel_rfl,fun W hW=>?_⟩) hS2 ?_
      · go_simp; try (first | rfl | (intro hh; exfalso; omega))
      refine wpAnyH_take (i:=29) (v:=.bool true) rfl (by kernel_rfl) (by kernel_rfl) (by kernel_rfl) (fun _ _ _ h=>h) (.inl ⟨by kernel_rfl,fun W hW=>?_⟩) hS2 ?_
      · go_simp; try (first | rfl | (intro hh; exfalso; omega))
      refine wpAnyH_take (i:=30) (v:=.int .i64 1) rfl (by kernel_rfl) (by kernel_rfl) (by kernel_rfl) (fun _ _ _ h=>h) (.inl ⟨by kernel_rfl,fun W hW=>?_⟩) hS2 ?_
      · go_simp; try (first | rfl | (intro hh; exfalso; omega))
      refine wpAnyH_take (i:=31) (v:=.int .i64 1) rfl (by kernel_rfl) (by kernel_rfl) (by kernel_rfl) (fun _ _ _ h=>h) (.inl ⟨by kernel_rfl,fun W hW=>?_⟩) hS2 ?_
      · go_simp; try (first | rfl | (intro hh; exfalso; omega))
      refine wpAnyH_take (i:=32) (v:=.bool true) rfl (by kernel_rfl) (by kernel_rfl) (by kernel_rfl) (fun _ _ _ h=>h) (.inl ⟨by kernel_rfl,fun W hW=>?_⟩) hS2 ?_
      · go_simp; try (first | rfl | (intro hh; exfalso; omega))
      refine wpAnyH_take (i:=33) (v:=.bool true) rfl (by kernel_rfl) (by kernel_rfl) (by kernel_rfl) (fun _ _ _ h=>h) (.inl ⟨by kernel_rfl,fun W hW=>?_⟩) hS2 ?_
      · go_simp; try (first | rfl | (intro hh; exfalso; omega))
      refine wpAnyH_take (i:=34) (v:=.bool true) rfl (by kernel_rfl) (by kernel_rfl) (by kernel_rfl) (fun _ _ _ h=>h) (.inl ⟨by kernel_rfl,fun W hW=>?_⟩) hS2 ?_
      · go_simp; try (first | rfl | (intro hh; exfalso; omega))
      refine wpAnyH_take (i:=35) (v:=.pointer (some (at0 g))) rfl (by kernel_rfl) (by kernel_rfl) (by kernel_rfl) (fun _ _ _ h=>h) (.inl ⟨by kernel_rfl,fun W hW=>?_⟩) hS2 ?_
      · go_simp; try (first | rfl | (intro hh; exfalso; omega))
      refine wpAnyH_all (rs:=[36]) (by kernel_rfl) (by simp) ?_
      intro z hz
      rw [List.mem_singleton.1 hz]
      clear hz
      unfold wpOp
      go_simp
      refine .inl ?_
      refine HUs.out.mono ?_
      rintro e wp ⟨ap,np,cp,rfl,_,hop,hnp⟩
      obtain rfl : np = 2:=by rw [hnp,HF8.out]; rfl
      have hS3:=hS2.trans (hop.mono fun x _ hx=>(show dnA n0 gk rb x from ⟨hx.1,fun e=>hx.2 (.inl e),fun e=>hx.2 (.inr ⟨_,rfl,e.symm⟩)⟩))
      clear hop hnp
      refine ⟨hS3,?_⟩
      refine wpAnyH_take (i:=37) (v:=.int .i64 2) rfl (by kernel_rfl) (by kernel_rfl) (by kernel_rfl) (fun _ _ _ h=>h) (.inl ⟨by kernel_rfl,fun W hW=>?_⟩) hS3 ?_
      · go_simp; try (first | rfl | (intro hh; exfalso; omega))
      refine wpAnyH_take (i:=38) (v:=.bool true) rfl (by kernel_rfl) (by kernel_rfl) (by kernel_rfl) (fun _ _ _ h=>h) (.inl ⟨by kernel_rfl,fun W hW=>?_⟩) hS3 ?_
      · go_simp; try (first | rfl | (intro hh; exfalso; omega))
      refine wpAnyH_take (i:=39) (v:=.bool true) rfl (by kernel_rfl) (by kernel_rfl) (by kernel_rfl) (fun _ _ _ h=>h) (.inl ⟨by kernel_rfl,fun W hW=>?_⟩) hS3 ?_
      · go_simp; try (first | rfl | (intro hh; exfalso; omega))
      refine wpAnyH_take (i:=40) (v:=.bool true) rfl (by kernel_rfl) (by kernel_rfl) (by kernel_rfl) (fun _ _ _ h=>h) (.inl ⟨by kernel_rfl,fun W hW=>?_⟩) hS3 ?_
      · go_simp; try (first | rfl | (intro hh; exfalso; omega))
      refine wpAnyH_done (by kernel_rfl) ?_ _
      go_simp
      go_wp2
      exact bodyPost_ret (v:=.bool true) (by simp [results,Tryz.results11,go_sem]) rfl ⟨rfl,Below.trans HBm.out (hS3.below HBm.out.size fun k hk h=>by have:=h.1; omega)⟩
    ·
      have HRT:=Lib.hid (HKR.out (fun h=>hk5 (HKZ.out.2 h)))
      have d5 : decide (kd = 5) = false:=decide_eq_false hk5
      have d6 : (kd == 5) = false:=by simp [hk5]
      have HOw:=Lib.hid (show isOwners kd = true from HKO.out)
      clear HKD HKO HKZ HKR
      go_upto_region 19 with fail
      generalize wd.alloc (.cells #[.int .i64 5,.int .i64 6,.int .i64 7,.int .i64 8,.int .i64 9,.int .i64 11] 82) = we at *
      obtain ⟨gk,hgk⟩ : ∃ gk,wd.heap.size = gk:=⟨_,rfl⟩
      rw [hgk] at hbk hwd hsz2 ⊢
      have HGk:=Lib.hid hgk
      clear hkc hgk
      have HXo:=Lib.hid (Bx.new we (gk + 1) hsz2 #[.int .i64 kd,.int .i64 (1 + (r : Int))] 86)
      have hbo : Below we.heap.size we (we.alloc (.cells #[.int .i64 kd,.int .i64 (1 + (r : Int))] 86)):=(Below.refl _ _).alloc (Nat.le_refl _) _
      have hbo : Below gk wd (we.alloc (.cells #[.int .i64 kd,.int .i64 (1 + (r : Int))] 86)):=hbk.trans (hbo.mono (by omega))
      generalize we.alloc (.cells #[.int .i64 kd,.int .i64 (1 + (r : Int))] 86) = wo at *
      have HLo:=Lib.hid (HLd.out.ls (S:=fun x=>x = gk + 1) (by rw [HGk.out]; exact hbo) (fun x hx=>by subst hx; exact ⟨by rw [HGk.out]; exact Nat.le_succ gk,HXo.out.room⟩))
      have HBo:=Lib.hid (Below.trans HBd.out (hbo.mono hwd))
      have HTo:=Lib.hid (HTI.out.below HBo.out)
      obtain ⟨t,ht⟩ : ∃ t,Orm.tx kd (1 + (r : Int)) = t:=⟨_,rfl⟩
      have htl : t.length≤20:=by rw [← ht]; exact Orm.tx_len HRT.out
      have hev6:=dn6_ev false HRT.out
      obtain ⟨i1,i2,i3,i4,i5⟩:=denied_is false HRT.out HOw.out
      rw [ht] at hev6 i2 i3 i4 i5
      have HEV6:=Lib.hid hev6
      have HI1:=Lib.hid i1
      have HI2:=Lib.hid i2
      have HI3:=Lib.hid i3
      have HI4:=Lib.hid i4
      have HI5:=Lib.hid i5
      have HStr:=Lib.hid (show Calls Tryz.prog 47 #[.agg #[.int .i64 kd,.int .i64 (1 + (r : Int))]] wo (TextGives wo t) by rw [← ht,← text_is HRT.out]; exact ostring_any kd (1 + (r : Int)) wo HTo.out)
      have o0:=HXo.out.cell 0 (.int .i64 kd) rfl
      have o1:=HXo.out.cell 1 (.int .i64 (1 + (r : Int))) rfl
      have hts:=str_size t
      have hcat : (⟨#[29,58]⟩ ++ str t) ++ ⟨#[10]⟩ = str (esc t):=by
        unfold esc
        rw [str_app,str_app]
        rfl
      have hel : (esc t).length≤23:=by unfold esc; simp; omega
      clear hev6 i1 i2 i3 i4 i5 hbo hbk HLd HBd HTo HOw
      go_wp2_with fail
      refine HStr.out.mono ?_
      rintro e wf ⟨rfl,hbf⟩
      have HLf:=Lib.hid (HLo.out.quiet (only_of_below hbf))
      have HXf:=Lib.hid (HXo.out.go hbf HXo.out.room)
      have HBf:=Lib.hid (Below.trans HBo.out (hbf.mono HBo.out.size))
      clear hbf HStr HLo HXo HBo o0 o1
      go_wp2_with fail
      try rw [hcat]
      refine (ltyped_any 7 (esc t) (by decide) (by decide) (by omega) wf).mono ?_
      rintro e wg ⟨Ag,cg,rfl,hyg,hng,_,hbg⟩
      have HYg:=Lib.hid hyg
      have HXg:=Lib.hid (HXf.out.go hbg HXf.out.room)
      have HBg:=Lib.hid (Below.trans HBf.out (hbg.mono HBf.out.size))
      have HBy:=Lib.hid (ls_bytes HLf.out hbg hng (dn5_ev false) (by decide) 2 hid2 cg hyg (by rw [enc_len5]; show 6 * 1 + (esc t).length + 5≤1000000; omega))
      clear hyg hng hbg HLf HXf HBf
      go_wp2_with fail
      refine HBy.out.mono ?_
      rintro e wh ⟨rfl,hlh,hoh⟩
      rw [HI1.out]
      have HLh:=Lib.hid (show LS n0 (fun x=>x = gk + 1) g wh (dn6 false t) from hlh)
      have HXh:=Lib.hid (HXg.out.keep hoh (fun h=>h.2 rfl))
      have HBh:=Lib.hid (Below.trans HBg.out (hoh.below HBg.out.size fun k hk h=>by have:=h.1; omega))
      have HWh:=ls_write HLh.out HEV6.out.ok 2 5000 hid2
      rw [HI2.out,HI3.out] at HWh
      have HWh:=Lib.hid HWh
      clear hlh hoh HYg HXg HBg HBy HLh
      go_wp2_with fail
      refine HWh.out.mono ?_
      rintro e wi ⟨Ai,mi,ci,rfl,hli,hoi,hyi,hci,_⟩
      have HLi:=Lib.hid (show LS n0 (fun x=>x = gk + 1) g wi (dn7 false t) from hli)
      have HXi:=Lib.hid (HXh.out.keep hoi (fun h=>h.2 rfl))
      have HBi:=Lib.hid (Below.trans HBh.out (hoi.below HBh.out.size fun k hk h=>by have:=h.1; omega))
      have hmi : mi≤1000000000:=by
        have:=hyi.1
        rw [enc_len5] at this
        have : mi = 6 * 0 + t.length + 5:=this.symm
        omega
      have HMs:=Lib.hid (lmessages_any [deniedM t] (fun m hm=>by rw [List.mem_singleton.1 hm]; exact denied_ok (by omega)) wi (show Bytes wi wi.heap.size Ai mi (encs [deniedM t]) by rw [encs_one]; exact hyi) (Nat.le_refl _) hci hmi)
      clear hli hoi hyi hci hmi HWh HXh HBh
      go_wp2_with fail
      refine HMs.out.mono ?_
      rintro e wj ⟨R,rc,rfl,hrow,hbj⟩
      have HRow:=Lib.hid hrow
      have HLj:=Lib.hid (HLi.out.more (T:=fun x=>∃ p,R = some p∧p.block = x) hbj (fun x ⟨p,hp,e⟩=>by subst e; exact hrow.lt hp))
      have HXj:=Lib.hid (HXi.out.go hbj HXi.out.room)
      have HBj:=Lib.hid (Below.trans HBi.out (hbj.mono HBi.out.size))
      have HWj:=ls_write (b:=dn7 false t) HLj.out (HEV6.out.write 2 5000).ok 1 5000 hid1
      rw [show writeT (dn7 false t) 1 5000 = [] from HI4.out] at HWj
      have HWj:=Lib.hid HWj
      rw [show [deniedM t].length = 1 from rfl]
      clear hrow hbj HMs HLi HXi HBi HLj
      go_wp2_with fail
      refine HWj.out.mono ?_
      rintro e wk ⟨Ak,mk,ck,rfl,hlk,hok,hyk,_,_⟩
      obtain rfl : mk = 0:=hyk.1.symm
      have HLk:=Lib.hid (show LS n0 (fun x=>x = gk + 1∨∃ p,R = some p∧p.block = x) g wk (dn8 false t) from hlk)
      have HXk:=Lib.hid (HXj.out.keep hok (fun h=>h.2 (.inl rfl)))
      have HRk:=Lib.hid (HRow.out.only hok (fun p hp hn=>hn.2 (.inr ⟨p,hp,rfl⟩)))
      have HBk:=Lib.hid (Below.trans HBj.out (hok.below HBj.out.size fun k hk h=>by have:=h.1; omega))
      have HEV8:=Lib.hid ((HEV6.out.write 2 5000).write 1 5000)
      obtain ⟨b8,hb8⟩ : ∃ b8,dn8 false t = b8:=⟨_,rfl⟩
      have HE8:=Lib.hid (show BOk b8 by rw [← hb8]; exact HEV8.out.ok)
      have HF8:=Lib.hid (show b8.fl = flD false by rw [← hb8]; exact HI5.out)
      rw [hb8] at HLk
      have HR1:=Lib.hid (lb_role HLk.out.lbx HE8.out 1 hid1)
      clear hlk hok hyk HWj HXj HRow HBj HEV8 hb8 HI1 HI2 HI3 HI4 HI5 HEV6
      go_wp2_with fail
      refine HR1.out.mono ?_
      rintro e wl ⟨rfl,_,hbl⟩
      rw [HF8.out,show rrole (flD false).roles 1 = 2 from rfl,show rhas (flD false).roles 1 = true from rfl]
      have HLl:=Lib.hid (HLk.out.quiet (only_of_below hbl))
      have HXl:=Lib.hid (HXk.out.go hbl HXk.out.room)
      have HRl:=Lib.hid (HRk.out.below hbl)
      have HBl:=Lib.hid (Below.trans HBk.out (hbl.mono HBk.out.size))
      have HR2:=Lib.hid (lb_role HLl.out.lbx HE8.out 2 hid2)
      clear hbl HLk HXk HRk HBk HR1
      go_wp2_with fail
      refine HR2.out.mono ?_
      rintro e wm ⟨rfl,_,hbm⟩
      rw [HF8.out,show rrole (flD false).roles 2 = 1 from rfl,show rhas (flD false).roles 2 = true from rfl]
      have HLm:=Lib.hid (HLl.out.quiet (only_of_below hbm))
      have HXm:=Lib.hid (HXl.out.go hbm HXl.out.room)
      have HRm:=Lib.hid (HRl.out.below hbm)
      have HBm:=Lib.hid (Below.trans HBl.out (hbm.mono HBl.out.size))
      clear hbm HLl HXl HRl HBl HR2
      obtain ⟨rb,off,rfl,hrb,hcell⟩:=HRm.out.msin.outer (by simp)
      obtain ⟨y0,y1,y2,y3⟩:=msg_cells (hcell 0 (deniedM t) rfl) (o:=off) (by omega)
      have HY:=Lib.hid (And.intro y0 (And.intro y1 (And.intro y2 y3)))
      have HO:=Lib.hid (And.intro (HXm.out.cell 0 (.int .i64 kd) rfl) (HXm.out.cell 1 (.int .i64 (1 + (r : Int))) rfl))
      have hsr : ((str t).toList == (str t).toList) = true:=by simp
      clear hcell y0 y1 y2 y3 hcat
      go_wp2_with fail
      refine wp_region_held (S:=fun W=>Only (dnA n0 gk rb) wm W) hmix ?_
      change wpAnyH _ _ _ _ _ _ _ _ (World.drew _)
      have hS0 : Only (dnA n0 gk rb) wm wm.drew:=(Only.refl _ _).drew
      refine wpAnyH_take (i:=0) (v:=.bool true) rfl (by kernel_rfl) (by kernel_rfl) (by kernel_rfl) (fun _ _ _ h=>h) (.inl ⟨by kernel_rfl,fun W hW=>?_⟩) hS0 ?_
      · go_simp; try (first | rfl | (intro hh; exfalso; omega))
      refine wpAnyH_take (i:=1) (v:=.bool true) rfl (by kernel_rfl) (by kernel_rfl) (by kernel_rfl) (fun _ _ _ h=>h) (.inl ⟨by kernel_rfl,fun W hW=>?_⟩) hS0 ?_
      · go_simp; try (first | rfl | (intro hh; exfalso; omega))
      refine wpAnyH_take (i:=2) (v:=.slice (some ⟨rb,off,none⟩) 1 rc) rfl (by kernel_rfl) (by kernel_rfl) (by kernel_rfl) (fun _ _ _ h=>h) (.inl ⟨by kernel_rfl,fun W hW=>?_⟩) hS0 ?_
      · go_simp; try (first | rfl | (intro hh; exfalso; omega))
      refine wpAnyH_take (i:=3) (v:=.int .i64 1) rfl (by kernel_rfl) (by kernel_rfl) (by kernel_rfl) (fun _ _ _ h=>h) (.inl ⟨by kernel_rfl,fun W hW=>?_⟩) hS0 ?_
      · go_simp; try (first | rfl | (intro hh; exfalso; omega))
      refine wpAnyH_take (i:=4) (v:=.bool true) rfl (by kernel_rfl) (by kernel_rfl) (by kernel_rfl) (fun _ _ _ h=>h) (.inl ⟨by kernel_rfl,fun W hW=>?_⟩) hS0 ?_
      · go_simp; try (first | rfl | (intro hh; exfalso; omega))
      refine wpAnyH_take (i:=5) (v:=.bool true) rfl (by kernel_rfl) (by kernel_rfl) (by kernel_rfl) (fun _ _ _ h=>h) (.inl ⟨by kernel_rfl,fun W hW=>?_⟩) hS0 ?_
      · go_simp; try (first | rfl | (intro hh; exfalso; omega))
      refine wpAnyH_take (i:=6) (v:=.bool true) rfl (by kernel_rfl) (by kernel_rfl) (by kernel_rfl) (fun _ _ _ h=>h) (.inl ⟨by kernel_rfl,fun W hW=>?_⟩) hS0 ?_
      · go_simp; try (first | rfl | (intro hh; exfalso; omega))
      refine wpAnyH_take (i:=7) (v:=.slice (some ⟨rb,off,none⟩) 1 rc) rfl (by kernel_rfl) (by kernel_rfl) (by kernel_rfl) (fun _ _ _ h=>h) (.inl ⟨by kernel_rfl,fun W hW=>?_⟩) hS0 ?_
      · go_simp; try (first | rfl | (intro hh; exfalso; omega))
      refine wpAnyH_take (i:=8) (v:=.pointer (some ⟨rb,off,none⟩)) rfl (by kernel_rfl) (by kernel_rfl) (by kernel_rfl) (fun _ _ _ h=>h) (.inl ⟨by kernel_rfl,fun W hW=>?_⟩) hS0 ?_
      · go_simp; try (first | rfl | (intro hh; exfalso; omega))
      refine wpAnyH_take (i:=9) (v:=.agg #[.int .i64 11,.int .i64 0,.int .i64 0,.string (str t)]) rfl (by kernel_rfl) (by kernel_rfl) (by kernel_rfl) (fun _ _ _ h=>h) (.inl ⟨by kernel_rfl,fun W hW=>?_⟩) hS0 ?_
      · have hq : ∀ q : Addr,q.block < wm.heap.size→(q.block = gk + 1∨q.block = rb)→W.cell? q = wm.cell? q:=fun q h1 h2=>hW.cell h1 (fun hn=>h2.elim hn.2.1 hn.2.2); have l0:=(hq ⟨rb,off,none⟩ hrb (.inr rfl)).trans HY.out.1; have l1:=(hq ⟨rb,off + 1,none⟩ hrb (.inr rfl)).trans HY.out.2.1; have l2:=(hq ⟨rb,off + 2,none⟩ hrb (.inr rfl)).trans HY.out.2.2.1; have l3:=(hq ⟨rb,off + 3,none⟩ hrb (.inr rfl)).trans HY.out.2.2.2; dsimp only [deniedM] at l0 l1 l2 l3; have k0:=(hq ⟨gk + 1,0,none⟩ HXm.out.room (.inl rfl)).trans HO.out.1; have k1:=(hq ⟨gk + 1,1,none⟩ HXm.out.room (.inl rfl)).trans HO.out.2; clear hq; go_simp; try (first | rfl | (intro hh; exfalso; omega))
      refine wpAnyH_take (i:=10) (v:=.agg #[.int .i64 kd,.int .i64 (1 + (r : Int))]) rfl (by kernel_rfl) (by kernel_rfl) (by kernel_rfl) (fun _ _ _ h=>h) (.inl ⟨by kernel_rfl,fun W hW=>?_⟩) hS0 ?_
      · have hq : ∀ q : Addr,q.block < wm.heap.size→(q.block = gk + 1∨q.block = rb)→W.cell? q = wm.cell? q:=fun q h1 h2=>hW.cell h1 (fun hn=>h2.elim hn.2.1 hn.2.2); have l0:=(hq ⟨rb,off,none⟩ hrb (.inr rfl)).trans HY.out.1; have l1:=(hq ⟨rb,off + 1,none⟩ hrb (.inr rfl)).trans HY.out.2.1; have l2:=(hq ⟨rb,off + 2,none⟩ hrb (.inr rfl)).trans HY.out.2.2.1; have l3:=(hq ⟨rb,off + 3,none⟩ hrb (.inr rfl)).trans HY.out.2.2.2; dsimp only [deniedM] at l0 l1 l2 l3; have k0:=(hq ⟨gk + 1,0,none⟩ HXm.out.room (.inl rfl)).trans HO.out.1; have k1:=(hq ⟨gk + 1,1,none⟩ HXm.out.room (.inl rfl)).trans HO.out.2; clear hq; go_simp; try (first | rfl | (intro hh; exfalso; omega))
      refine wpAnyH_all (rs:=[11]) (by kernel_rfl) (by simp) ?_
      intro z hz
      rw [List.mem_singleton.1 hz]
      clear hz
      unfold wpOp
      go_simp
      refine .inl ?_
      refine (show Calls Tryz.prog 47 #[.agg #[.int .i64 kd,.int .i64 (1 + (r : Int))]] wm.drew (TextGives wm.drew t) by rw [← ht,← text_is HRT.out]; exact ostring_any kd (1 + (r : Int)) wm.drew (HTI.out.below (below_drew HBm.out))).mono ?_
      rintro e wn ⟨rfl,hbn⟩
      have HLn:=Lib.hid ((HLm.out.quiet ((Only.refl Nay wm).drew)).quiet (only_of_below hbn))
      have hS1:=hS0.trans (below_only hbn)
      have HHo:=Lib.hid (lb_holder HLn.out.lbx HE8.out)
      clear hbn
      refine ⟨hS1,?_⟩
      refine wpAnyH_take (i:=12) (v:=.agg #[.int .i64 11,.int .i64 0,.int .i64 0,.string (str t)]) rfl (by kernel_rfl) (by kernel_rfl) (by kernel_rfl) (fun _ _ _ h=>h) (.inl ⟨by kernel_rfl,fun W hW=>?_⟩) hS1 ?_
      · go_simp; try (first | rfl | (intro hh; exfalso; omega))
      refine wpAnyH_take (i:=13) (v:=.bool true) rfl (by kernel_rfl) (by kernel_rfl) (by kernel_rfl) (fun _ _ _ h=>h) (.inl ⟨by kernel_rfl,fun W hW=>?_⟩) hS1 ?_
      · go_simp; try (first | rfl | (intro hh; exfalso; omega))
      refine wpAnyH_take (i:=14) (v:=.bool true) rfl (by kernel_rfl) (by kernel_rfl) (by kernel_rfl) (fun _ _ _ h=>h) (.inl ⟨by kernel_rfl,fun W hW=>?_⟩) hS1 ?_
      · go_simp; try (first | rfl | (intro hh; exfalso; omega))
      refine wpAnyH_take (i:=15) (v:=.bool true) rfl (by kernel_rfl) (by kernel_rfl) (by kernel_rfl) (fun _ _ _ h=>h) (.inl ⟨by kernel_rfl,fun W hW=>?_⟩) hS1 ?_
      · go_simp; try (first | rfl | (intro hh; exfalso; omega))
      refine wpAnyH_take (i:=16) (v:=.slice Ak 0 ck) rfl (by kernel_rfl) (by kernel_rfl) (by kernel_rfl) (fun _ _ _ h=>h) (.inl ⟨by kernel_rfl,fun W hW=>?_⟩) hS1 ?_
      · go_simp; try (first | rfl | (intro hh; exfalso; omega))
      refine wpAnyH_take (i:=17) (v:=.int .i64 0) rfl (by kernel_rfl) (by kernel_rfl) (by kernel_rfl) (fun _ _ _ h=>h) (.inl ⟨by kernel_rfl,fun W hW=>?_⟩) hS1 ?_
      · go_simp; try (first | rfl | (intro hh; exfalso; omega))
      refine wpAnyH_take (i:=18) (v:=.bool true) rfl (by kernel_rfl) (by kernel_rfl) (by kernel_rfl) (fun _ _ _ h=>h) (.inl ⟨by kernel_rfl,fun W hW=>?_⟩) hS1 ?_
      · go_simp; try (first | rfl | (intro hh; exfalso; omega))
      refine wpAnyH_take (i:=19) (v:=.bool true) rfl (by kernel_rfl) (by kernel_rfl) (by kernel_rfl) (fun _ _ _ h=>h) (.inl ⟨by kernel_rfl,fun W hW=>?_⟩) hS1 ?_
      · go_simp; try (first | rfl | (intro hh; exfalso; omega))
      refine wpAnyH_take (i:=20) (v:=.bool true) rfl (by kernel_rfl) (by kernel_rfl) (by kernel_rfl) (fun _ _ _ h=>h) (.inl ⟨by kernel_rfl,fun W hW=>?_⟩) hS1 ?_
      · go_simp; try (first | rfl | (intro hh; exfalso; omega))
      refine wpAnyH_take (i:=21) (v:=.pointer (some (at0 g))) rfl (by kernel_rfl) (by kernel_rfl) (by kernel_rfl) (fun _ _ _ h=>h) (.inl ⟨by kernel_rfl,fun W hW=>?_⟩) hS1 ?_
      · go_simp; try (first | rfl | (intro hh; exfalso; omega))
      refine wpAnyH_all (rs:=[22]) (by kernel_rfl) (by simp) ?_
      intro z hz
      rw [List.mem_singleton.1 hz]
      clear hz
      unfold wpOp
      go_simp
      refine .inl ?_
      refine HHo.out.mono ?_
      rintro e wo2 ⟨rfl,_,hbo2⟩
      rw [HF8.out,show fhold (flD false) = 1 from rfl]
      have HLo2:=Lib.hid (HLn.out.quiet (only_of_below hbo2))
      have hS2:=hS1.trans (below_only hbo2)
      have HUs:=Lib.hid (ls_users HLo2.out HE8.out)
      clear hbo2
      refine ⟨hS2,?_⟩
      refine wpAnyH_take (i:=23) (v:=.bool true) rfl (by kernel_rfl) (by kernel_rfl) (by kernel_rfl) (fun _ _ _ h=>h) (.inl ⟨by kernel_rfl,fun W hW=>?_⟩) hS2 ?_
      · go_simp; try (first | rfl | (intro hh; exfalso; omega))
      refine wpAnyH_take (i:=24) (v:=.bool true) rfl (by kernel_rfl) (by kernel_rfl) (by kernel_rfl) (fun _ _ _ h=>h) (.inl ⟨by kernel_rfl,fun W hW=>?_⟩) hS2 ?_
      · go_simp; try (first | rfl | (intro hh; exfalso; omega))
      refine wpAnyH_take (i:=25) (v:=.bool true) rfl (by kernel_rfl) (by kernel_rfl) (by kernel_rfl) (fun _ _ _ h=>h) (.inl ⟨by kernel_rfl,fun W hW=>?_⟩) hS2 ?_
      · go_simp; try (first | rfl | (intro hh; exfalso; omega))
      refine wpAnyH_take (i:=26) (v:=.int .i64 2) rfl (by kernel_rfl) (by kernel_rfl) (by kernel_rfl) (fun _ _ _ h=>h) (.inl ⟨by kernel_rfl,fun W hW=>?_⟩) hS2 ?_
      · go_simp; try (first | rfl | (intro hh; exfalso; omega))
      refine wpAnyH_take (i:=27) (v:=.bool true) rfl (by kernel_rfl) (by kernel_rfl) (by kernel_rfl) (fun _ _ _ h=>h) (.inl ⟨by kernel_rfl,fun W hW=>?_⟩) hS2 ?_
      · go_simp; try (first | rfl | (intro hh; exfalso; omega))
      refine wpAnyH_take (i:=28) (v:=.bool true) rfl (by kernel_rfl) (by kernel_rfl) (by kernel_rfl) (fun _ _ _ h=>h) (.inl ⟨by kernel_rfl,fun W hW=>?_⟩) hS2 ?_
      · go_simp; try (first | rfl | (intro hh; exfalso; omega))
      refine wpAnyH_take (i:=29) (v:=.bool true) rfl (by kernel_rfl) (by kernel_rfl) (by kernel_rfl) (fun _ _ _ h=>h) (.inl ⟨by kernel_rfl,fun W hW=>?_⟩) hS2 ?_
      · go_simp; try (first | rfl | (intro hh; exfalso; omega))
      refine wpAnyH_take (i:=30) (v:=.int .i64 1) rfl (by kernel_rfl) (by kernel_rfl) (by kernel_rfl) (fun _ _ _ h=>h) (.inl ⟨by kernel_rfl,fun W hW=>?_⟩) hS2 ?_
      · go_simp; try (first | rfl | (intro hh; exfalso; omega))
      refine wpAnyH_take (i:=31) (v:=.int .i64 1) rfl (by kernel_rfl) (by kernel_rfl) (by kernel_rfl) (fun _ _ _ h=>h) (.inl ⟨by kernel_rfl,fun W hW=>?_⟩) hS2 ?_
      · go_simp; try (first | rfl | (intro hh; exfalso; omega))
      refine wpAnyH_take (i:=32) (v:=.bool true) rfl (by kernel_rfl) (by kernel_rfl) (by kernel_rfl) (fun _ _ _ h=>h) (.inl ⟨by kernel_rfl,fun W hW=>?_⟩) hS2 ?_
      · go_simp; try (first | rfl | (intro hh; exfalso; omega))
      refine wpAnyH_take (i:=33) (v:=.bool true) rfl (by kernel_rfl) (by kernel_rfl) (by kernel_rfl) (fun _ _ _ h=>h) (.inl ⟨by kernel_rfl,fun W hW=>?_⟩) hS2 ?_
      · go_simp; try (first | rfl | (intro hh; exfalso; omega))
      refine wpAnyH_take (i:=34) (v:=.bool true) rfl (by kernel_rfl) (by kernel_rfl) (by kernel_rfl) (fun _ _ _ h=>h) (.inl ⟨by kernel_rfl,fun W hW=>?_⟩) hS2 ?_
      · go_simp; try (first | rfl | (intro hh; exfalso; omega))
      refine wpAnyH_take (i:=35) (v:=.pointer (some (at0 g))) rfl (by kernel_rfl) (by kernel_rfl) (by kernel_rfl) (fun _ _ _ h=>h) (.inl ⟨by kernel_rfl,fun W hW=>?_⟩) hS2 ?_
      · go_simp; try (first | rfl | (intro hh; exfalso; omega))
      refine wpAnyH_all (rs:=[36]) (by kernel_rfl) (by simp) ?_
      intro z hz
      rw [List.mem_singleton.1 hz]
      clear hz
      unfold wpOp
      go_simp
      refine .inl ?_
      refine HUs.out.mono ?_
      rintro e wp ⟨ap,np,cp,rfl,_,hop,hnp⟩
      obtain rfl : np = 2:=by rw [hnp,HF8.out]; rfl
      have hS3:=hS2.trans (hop.mono fun x _ hx=>(show dnA n0 gk rb x from ⟨hx.1,fun e=>hx.2 (.inl e),fun e=>hx.2 (.inr ⟨_,rfl,e.symm⟩)⟩))
      clear hop hnp
      refine ⟨hS3,?_⟩
      refine wpAnyH_take (i:=37) (v:=.int .i64 2) rfl (by kernel_rfl) (by kernel_rfl) (by kernel_rfl) (fun _ _ _ h=>h) (.inl ⟨by kernel_rfl,fun W hW=>?_⟩) hS3 ?_
      · go_simp; try (first | rfl | (intro hh; exfalso; omega))
      refine wpAnyH_take (i:=38) (v:=.bool true) rfl (by kernel_rfl) (by kernel_rfl) (by kernel_rfl) (fun _ _ _ h=>h) (.inl ⟨by kernel_rfl,fun W hW=>?_⟩) hS3 ?_
      · go_simp; try (first | rfl | (intro hh; exfalso; omega))
      refine wpAnyH_take (i:=39) (v:=.bool true) rfl (by kernel_rfl) (by kernel_rfl) (by kernel_rfl) (fun _ _ _ h=>h) (.inl ⟨by kernel_rfl,fun W hW=>?_⟩) hS3 ?_
      · go_simp; try (first | rfl | (intro hh; exfalso; omega))
      refine wpAnyH_take (i:=40) (v:=.bool true) rfl (by kernel_rfl) (by kernel_rfl) (by kernel_rfl) (fun _ _ _ h=>h) (.inl ⟨by kernel_rfl,fun W hW=>?_⟩) hS3 ?_
      · go_simp; try (first | rfl | (intro hh; exfalso; omega))
      refine wpAnyH_done (by kernel_rfl) ?_ _
      go_simp
      go_wp2
      exact bodyPost_ret (v:=.bool true) (by simp [results,Tryz.results11,go_sem]) rfl ⟨rfl,Below.trans HBm.out (hS3.below HBm.out.size fun k hk h=>by have:=h.1; omega)⟩
  ·
    go_wp2_with fail
    refine (lb_connect HL3.out cfd_ok.ok 1 hid1).mono ?_
    rintro e w4 ⟨rfl,hl4,hb4⟩
    rw [HQ6.out]
    have HL4:=Lib.hid hl4
    have HB4:=Lib.hid (Below.trans HB3.out (hb4.mono hn0))
    clear hl4 hb4 HL3 HB3 HQ6
    go_wp2_with fail
    refine (lhello_any [97#8] (by decide) w4).mono ?_
    rintro e w5 ⟨A5,c5,rfl,hy5,hn5,_,hb5⟩
    have HW5:=Lib.hid (LAway.made (n:=(enc (helloM [97#8])).length) HL4.out hb5 hn5)
    have HY5:=Lib.hid hy5
    have HB5:=Lib.hid (Below.trans HB4.out (hb5.mono HB4.out.size))
    clear hy5 hn5 hb5 HL4 HB4
    go_wp2_with fail
    refine (lb_bytes HW5.out (cfd_ok.connect 1) (by decide) 1 hid1 c5 HY5.out (by rw [enc_len5]; decide)).mono ?_
    rintro e w6 ⟨rfl,hl6,hb6⟩
    rw [HQ7.out]
    have HL6:=Lib.hid (show LBx n0 g w6 dn1 from hl6)
    have HB6:=Lib.hid (Below.trans HB5.out (hb6.mono hn0))
    obtain ⟨_,_,_,_,_,q6,q7⟩:=dn_second true
    have HQ6:=Lib.hid q6
    have HQ8:=Lib.hid q7
    clear hl6 hb6 HW5 HY5 HB5 HQ7 q6 q7
    go_wp2_with fail
    refine (lb_connect HL6.out dn1_ev.ok 2 hid2).mono ?_
    rintro e w7 ⟨rfl,hl7,hb7⟩
    rw [HQ6.out]
    have HL7:=Lib.hid hl7
    have HB7:=Lib.hid (Below.trans HB6.out (hb7.mono hn0))
    clear hl7 hb7 HL6 HB6 HQ6
    go_wp2_with fail
    refine (show Calls Tryz.prog 44 #[.slice none 0 0,.agg #[.int .i64 1,.int .i64 4,.int .i64 0,.string ⟨#[98]⟩]] w7 (NewBytes w7 (enc (secondM true))) from put_new (secondM true) (second_ok true) w7).mono ?_
    rintro e w8 ⟨A8,c8,rfl,hy8,hn8,_,hb8⟩
    have HW8:=Lib.hid (LAway.made (n:=(enc (secondM true)).length) HL7.out hb8 hn8)
    have HY8:=Lib.hid hy8
    have HB8:=Lib.hid (Below.trans HB7.out (hb8.mono HB7.out.size))
    clear hy8 hn8 hb8 HL7 HB7
    go_wp2_with fail
    refine (lb_bytes HW8.out (dn1_ev.connect 2) (by decide) 2 hid2 c8 HY8.out (by rw [enc_len5]; decide)).mono ?_
    rintro e w9 ⟨rfl,hl9,hb9⟩
    rw [HQ8.out]
    have HL9:=Lib.hid (show LBx n0 g w9 (dn2 true) from hl9)
    have HB9:=Lib.hid (Below.trans HB8.out (hb9.mono hn0))
    obtain ⟨_,_,_,_,_,q7⟩:=dn_third true
    have HQ9:=Lib.hid q7
    clear hl9 hb9 HW8 HY8 HB8 HQ8 q7
    go_wp2_with fail
    refine (ltyped_any 1 (esc wFloor) (by decide) (by decide) (by decide) w9).mono ?_
    rintro e wa ⟨Aa,ca,rfl,hya,hna,_,hba⟩
    have HWa:=Lib.hid (LAway.made (n:=(enc (keys 1 (esc wFloor))).length) HL9.out hba hna)
    have HYa:=Lib.hid hya
    have HBa:=Lib.hid (Below.trans HB9.out (hba.mono HB9.out.size))
    clear hya hna hba HL9 HB9
    go_wp2_with fail
    refine (lb_bytes HWa.out (dn2_ev true) (by decide) 1 hid1 ca HYa.out (by rw [enc_len5]; decide)).mono ?_
    rintro e wb ⟨rfl,hlb,hbb⟩
    rw [HQ9.out]
    have HLb:=Lib.hid (show LBx n0 g wb (dn3 true) from hlb)
    have HBb:=Lib.hid (Below.trans HBa.out (hbb.mono hn0))
    clear hlb hbb HWa HYa HBa HQ9
    have HWr:=Lib.hid (lb_write HLb.out (dn3_ev true).ok 1 5000 hid1)
    go_wp2_with fail
    refine HWr.out.mono ?_
    rintro e wc ⟨Ac,mc,cc,rfl,hlc,hbc,_,_,_⟩
    have HLc:=Lib.hid (show LBx n0 g wc (dn4 true) from hlc)
    have HBc:=Lib.hid (Below.trans HBb.out (hbc.mono hn0))
    have HWr2:=Lib.hid (lb_write HLc.out ((dn3_ev true).write 1 5000).ok 2 5000 hid2)
    clear hlc hbc HLb HBb HWr
    go_wp2_with fail
    refine HWr2.out.mono ?_
    rintro e wd ⟨Ad,md,cd,rfl,hld,hbd,_,_,_⟩
    have HLd:=Lib.hid (show LBx n0 g wd (dn5 true) from hld)
    have HBd:=Lib.hid (Below.trans HBc.out (hbd.mono hn0))
    clear hld hbd HLc HBc HWr2
    have HXk:=Lib.hid (Bx.new wd _ rfl #[.int .i64 5,.int .i64 6,.int .i64 7,.int .i64 8,.int .i64 9,.int .i64 11] 82)
    have hbk : Below wd.heap.size wd (wd.alloc (.cells #[.int .i64 5,.int .i64 6,.int .i64 7,.int .i64 8,.int .i64 9,.int .i64 11] 82)):=(Below.refl _ _).alloc (Nat.le_refl _) _
    have hkc:=HXk.out.cell p (.int .i64 kd) HKD.out
    clear HXk
    have hsz2 : (wd.alloc (.cells #[.int .i64 5,.int .i64 6,.int .i64 7,.int .i64 8,.int .i64 9,.int .i64 11] 82)).heap.size = wd.heap.size + 1:=by simp
    have hwd : w.heap.size≤wd.heap.size:=HBd.out.size
    by_cases hk5 : kd = 5
    ·
      subst hk5
      have HRT:=Lib.hid kdO_rt0
      have d5 : decide ((5 : Int) = 5) = true:=by decide
      have HOw:=Lib.hid (show isOwners 5 = true from HKO.out)
      clear HKD HKO HKZ HKR
      go_upto_region 19 with fail
      generalize wd.alloc (.cells #[.int .i64 5,.int .i64 6,.int .i64 7,.int .i64 8,.int .i64 9,.int .i64 11] 82) = we at *
      obtain ⟨gk,hgk⟩ : ∃ gk,wd.heap.size = gk:=⟨_,rfl⟩
      rw [hgk] at hbk hwd hsz2 ⊢
      have HGk:=Lib.hid hgk
      clear hkc hgk
      have HXo:=Lib.hid (Bx.new we (gk + 1) hsz2 #[.int .i64 5,.int .i64 0] 86)
      have hbo : Below we.heap.size we (we.alloc (.cells #[.int .i64 5,.int .i64 0] 86)):=(Below.refl _ _).alloc (Nat.le_refl _) _
      have hbo : Below gk wd (we.alloc (.cells #[.int .i64 5,.int .i64 0] 86)):=hbk.trans (hbo.mono (by omega))
      generalize we.alloc (.cells #[.int .i64 5,.int .i64 0] 86) = wo at *
      have HLo:=Lib.hid (HLd.out.ls (S:=fun x=>x = gk + 1) (by rw [HGk.out]; exact hbo) (fun x hx=>by subst hx; exact ⟨by rw [HGk.out]; exact Nat.le_succ gk,HXo.out.room⟩))
      have HBo:=Lib.hid (Below.trans HBd.out (hbo.mono hwd))
      have HTo:=Lib.hid (HTI.out.below HBo.out)
      obtain ⟨t,ht⟩ : ∃ t,Orm.tx 5 0 = t:=⟨_,rfl⟩
      have htl : t.length≤20:=by rw [← ht]; exact Orm.tx_len HRT.out
      have hev6:=dn6_ev true HRT.out
      obtain ⟨i1,i2,i3,i4,i5⟩:=denied_is true HRT.out HOw.out
      rw [ht] at hev6 i2 i3 i4 i5
      have HEV6:=Lib.hid hev6
      have HI1:=Lib.hid i1
      have HI2:=Lib.hid i2
      have HI3:=Lib.hid i3
      have HI4:=Lib.hid i4
      have HI5:=Lib.hid i5
      have HStr:=Lib.hid (show Calls Tryz.prog 47 #[.agg #[.int .i64 5,.int .i64 0]] wo (TextGives wo t) by rw [← ht,← text_is HRT.out]; exact ostring_any 5 0 wo HTo.out)
      have o0:=HXo.out.cell 0 (.int .i64 5) rfl
      have o1:=HXo.out.cell 1 (.int .i64 0) rfl
      have hts:=str_size t
      have hcat : (⟨#[29,58]⟩ ++ str t) ++ ⟨#[10]⟩ = str (esc t):=by
        unfold esc
        rw [str_app,str_app]
        rfl
      have hel : (esc t).length≤23:=by unfold esc; simp; omega
      clear hev6 i1 i2 i3 i4 i5 hbo hbk HLd HBd HTo HOw
      go_wp2_with fail
      refine HStr.out.mono ?_
      rintro e wf ⟨rfl,hbf⟩
      have HLf:=Lib.hid (HLo.out.quiet (only_of_below hbf))
      have HXf:=Lib.hid (HXo.out.go hbf HXo.out.room)
      have HBf:=Lib.hid (Below.trans HBo.out (hbf.mono HBo.out.size))
      clear hbf HStr HLo HXo HBo o0 o1
      go_wp2_with fail
      try rw [hcat]
      refine (ltyped_any 7 (esc t) (by decide) (by decide) (by omega) wf).mono ?_
      rintro e wg ⟨Ag,cg,rfl,hyg,hng,_,hbg⟩
      have HYg:=Lib.hid hyg
      have HXg:=Lib.hid (HXf.out.go hbg HXf.out.room)
      have HBg:=Lib.hid (Below.trans HBf.out (hbg.mono HBf.out.size))
      have HBy:=Lib.hid (ls_bytes HLf.out hbg hng (dn5_ev true) (by decide) 2 hid2 cg hyg (by rw [enc_len5]; show 6 * 1 + (esc t).length + 5≤1000000; omega))
      clear hyg hng hbg HLf HXf HBf
      go_wp2_with fail
      refine HBy.out.mono ?_
      rintro e wh ⟨rfl,hlh,hoh⟩
      rw [HI1.out]
      have HLh:=Lib.hid (show LS n0 (fun x=>x = gk + 1) g wh (dn6 true t) from hlh)
      have HXh:=Lib.hid (HXg.out.keep hoh (fun h=>h.2 rfl))
      have HBh:=Lib.hid (Below.trans HBg.out (hoh.below HBg.out.size fun k hk h=>by have:=h.1; omega))
      have HWh:=ls_write HLh.out HEV6.out.ok 2 5000 hid2
      rw [HI2.out,HI3.out] at HWh
      have HWh:=Lib.hid HWh
      clear hlh hoh HYg HXg HBg HBy HLh
      go_wp2_with fail
      refine HWh.out.mono ?_
      rintro e wi ⟨Ai,mi,ci,rfl,hli,hoi,hyi,hci,_⟩
      have HLi:=Lib.hid (show LS n0 (fun x=>x = gk + 1) g wi (dn7 true t) from hli)
      have HXi:=Lib.hid (HXh.out.keep hoi (fun h=>h.2 rfl))
      have HBi:=Lib.hid (Below.trans HBh.out (hoi.below HBh.out.size fun k hk h=>by have:=h.1; omega))
      have hmi : mi≤1000000000:=by
        have:=hyi.1
        rw [enc_len5] at this
        have : mi = 6 * 0 + t.length + 5:=this.symm
        omega
      have HMs:=Lib.hid (lmessages_any [deniedM t] (fun m hm=>by rw [List.mem_singleton.1 hm]; exact denied_ok (by omega)) wi (show Bytes wi wi.heap.size Ai mi (encs [deniedM t]) by rw [encs_one]; exact hyi) (Nat.le_refl _) hci hmi)
      clear hli hoi hyi hci hmi HWh HXh HBh
      go_wp2_with fail
      refine HMs.out.mono ?_
      rintro e wj ⟨R,rc,rfl,hrow,hbj⟩
      have HRow:=Lib.hid hrow
      have HLj:=Lib.hid (HLi.out.more (T:=fun x=>∃ p,R = some p∧p.block = x) hbj (fun x ⟨p,hp,e⟩=>by subst e; exact hrow.lt hp))
      have HXj:=Lib.hid (HXi.out.go hbj HXi.out.room)
      have HBj:=Lib.hid (Below.trans HBi.out (hbj.mono HBi.out.size))
      have HWj:=ls_write (b:=dn7 true t) HLj.out (HEV6.out.write 2 5000).ok 1 5000 hid1
      rw [show writeT (dn7 true t) 1 5000 = [] from HI4.out] at HWj
      have HWj:=Lib.hid HWj
      rw [show [deniedM t].length = 1 from rfl]
      clear hrow hbj HMs HLi HXi HBi HLj
      go_wp2_with fail
      refine HWj.out.mono ?_
      rintro e wk ⟨Ak,mk,ck,rfl,hlk,hok,hyk,_,_⟩
      obtain rfl : mk = 0:=hyk.1.symm
      have HLk:=Lib.hid (show LS n0 (fun x=>x = gk + 1∨∃ p,R = some p∧p.block = x) g wk (dn8 true t) from hlk)
      have HXk:=Lib.hid (HXj.out.keep hok (fun h=>h.2 (.inl rfl)))
      have HRk:=Lib.hid (HRow.out.only hok (fun p hp hn=>hn.2 (.inr ⟨p,hp,rfl⟩)))
      have HBk:=Lib.hid (Below.trans HBj.out (hok.below HBj.out.size fun k hk h=>by have:=h.1; omega))
      have HEV8:=Lib.hid ((HEV6.out.write 2 5000).write 1 5000)
      obtain ⟨b8,hb8⟩ : ∃ b8,dn8 true t = b8:=⟨_,rfl⟩
      have HE8:=Lib.hid (show BOk b8 by rw [← hb8]; exact HEV8.out.ok)
      have HF8:=Lib.hid (show b8.fl = flD true by rw [← hb8]; exact HI5.out)
      rw [hb8] at HLk
      have HR1:=Lib.hid (lb_role HLk.out.lbx HE8.out 1 hid1)
      clear hlk hok hyk HWj HXj HRow HBj HEV8 hb8 HI1 HI2 HI3 HI4 HI5 HEV6
      go_wp2_with fail
      refine HR1.out.mono ?_
      rintro e wl ⟨rfl,_,hbl⟩
      rw [HF8.out,show rrole (flD true).roles 1 = 2 from rfl,show rhas (flD true).roles 1 = true from rfl]
      have HLl:=Lib.hid (HLk.out.quiet (only_of_below hbl))
      have HXl:=Lib.hid (HXk.out.go hbl HXk.out.room)
      have HRl:=Lib.hid (HRk.out.below hbl)
      have HBl:=Lib.hid (Below.trans HBk.out (hbl.mono HBk.out.size))
      have HR2:=Lib.hid (lb_role HLl.out.lbx HE8.out 2 hid2)
      clear hbl HLk HXk HRk HBk HR1
      go_wp2_with fail
      refine HR2.out.mono ?_
      rintro e wm ⟨rfl,_,hbm⟩
      rw [HF8.out,show rrole (flD true).roles 2 = 0 from rfl,show rhas (flD true).roles 2 = true from rfl]
      have HLm:=Lib.hid (HLl.out.quiet (only_of_below hbm))
      have HXm:=Lib.hid (HXl.out.go hbm HXl.out.room)
      have HRm:=Lib.hid (HRl.out.below hbm)
      have HBm:=Lib.hid (Below.trans HBl.out (hbm.mono HBl.out.size))
      clear hbm HLl HXl HRl HBl HR2
      obtain ⟨rb,off,rfl,hrb,hcell⟩:=HRm.out.msin.outer (by simp)
      obtain ⟨y0,y1,y2,y3⟩:=msg_cells (hcell 0 (deniedM t) rfl) (o:=off) (by omega)
      have HY:=Lib.hid (And.intro y0 (And.intro y1 (And.intro y2 y3)))
      have HO:=Lib.hid (And.intro (HXm.out.cell 0 (.int .i64 5) rfl) (HXm.out.cell 1 (.int .i64 0) rfl))
      have hsr : ((str t).toList == (str t).toList) = true:=by simp
      clear hcell y0 y1 y2 y3 hcat
      go_wp2_with fail
      refine wp_region_held (S:=fun W=>Only (dnA n0 gk rb) wm W) hmix ?_
      change wpAnyH _ _ _ _ _ _ _ _ (World.drew _)
      have hS0 : Only (dnA n0 gk rb) wm wm.drew:=(Only.refl _ _).drew
      refine wpAnyH_take (i:=0) (v:=.bool true) rfl (by kernel_rfl) (by kernel_rfl) (by kernel_rfl) (fun _ _ _ h=>h) (.inl ⟨by kernel_rfl,fun W hW=>?_⟩) hS0 ?_
      · go_simp; try (first | rfl | (intro hh; exfalso; omega))
      refine wpAnyH_take (i:=1) (v:=.bool true) rfl (by kernel_rfl) (by kernel_rfl) (by kernel_rfl) (fun _ _ _ h=>h) (.inl ⟨by kernel_rfl,fun W hW=>?_⟩) hS0 ?_
      · go_simp; try (first | rfl | (intro hh; exfalso; omega))
      refine wpAnyH_take (i:=2) (v:=.slice (some ⟨rb,off,none⟩) 1 rc) rfl (by kernel_rfl) (by kernel_rfl) (by kernel_rfl) (fun _ _ _ h=>h) (.inl ⟨by kernel_rfl,fun W hW=>?_⟩) hS0 ?_
      · go_simp; try (first | rfl | (intro hh; exfalso; omega))
      refine wpAnyH_take (i:=3) (v:=.int .i64 1) rfl (by kernel_rfl) (by kernel_rfl) (by kernel_rfl) (fun _ _ _ h=>h) (.inl ⟨by kernel_rfl,fun W hW=>?_⟩) hS0 ?_
      · go_simp; try (first | rfl | (intro hh; exfalso; omega))
      refine wpAnyH_take (i:=4) (v:=.bool true) rfl (by kernel_rfl) (by kernel_rfl) (by kernel_rfl) (fun _ _ _ h=>h) (.inl ⟨by kernel_rfl,fun W hW=>?_⟩) hS0 ?_
      · go_simp; try (first | rfl | (intro hh; exfalso; omega))
      refine wpAnyH_take (i:=5) (v:=.bool true) rfl (by kernel_rfl) (by kernel_rfl) (by kernel_rfl) (fun _ _ _ h=>h) (.inl ⟨by kernel_rfl,fun W hW=>?_⟩) hS0 ?_
      · go_simp; try (first | rfl | (intro hh; exfalso; omega))
      refine wpAnyH_take (i:=6) (v:=.bool true) rfl (by kernel_rfl) (by kernel_rfl) (by kernel_rfl) (fun _ _ _ h=>h) (.inl ⟨by kernel_rfl,fun W hW=>?_⟩) hS0 ?_
      · go_simp; try (first | rfl | (intro hh; exfalso; omega))
      refine wpAnyH_take (i:=7) (v:=.slice (some ⟨rb,off,none⟩) 1 rc) rfl (by kernel_rfl) (by kernel_rfl) (by kernel_rfl) (fun _ _ _ h=>h) (.inl ⟨by kernel_rfl,fun W hW=>?_⟩) hS0 ?_
      · go_simp; try (first | rfl | (intro hh; exfalso; omega))
      refine wpAnyH_take (i:=8) (v:=.pointer (some ⟨rb,off,none⟩)) rfl (by kernel_rfl) (by kernel_rfl) (by kernel_rfl) (fun _ _ _ h=>h) (.inl ⟨by kernel_rfl,fun W hW=>?_⟩) hS0 ?_
      · go_simp; try (first | rfl | (intro hh; exfalso; omega))
      refine wpAnyH_take (i:=9) (v:=.agg #[.int .i64 11,.int .i64 0,.int .i64 0,.string (str t)]) rfl (by kernel_rfl) (by kernel_rfl) (by kernel_rfl) (fun _ _ _ h=>h) (.inl ⟨by kernel_rfl,fun W hW=>?_⟩) hS0 ?_
      · have hq : ∀ q : Addr,q.block < wm.heap.size→(q.block = gk + 1∨q.block = rb)→W.cell? q = wm.cell? q:=fun q h1 h2=>hW.cell h1 (fun hn=>h2.elim hn.2.1 hn.2.2); have l0:=(hq ⟨rb,off,none⟩ hrb (.inr rfl)).trans HY.out.1; have l1:=(hq ⟨rb,off + 1,none⟩ hrb (.inr rfl)).trans HY.out.2.1; have l2:=(hq ⟨rb,off + 2,none⟩ hrb (.inr rfl)).trans HY.out.2.2.1; have l3:=(hq ⟨rb,off + 3,none⟩ hrb (.inr rfl)).trans HY.out.2.2.2; dsimp only [deniedM] at l0 l1 l2 l3; have k0:=(hq ⟨gk + 1,0,none⟩ HXm.out.room (.inl rfl)).trans HO.out.1; have k1:=(hq ⟨gk + 1,1,none⟩ HXm.out.room (.inl rfl)).trans HO.out.2; clear hq; go_simp; try (first | rfl | (intro hh; exfalso; omega))
      refine wpAnyH_take (i:=10) (v:=.agg #[.int .i64 5,.int .i64 0]) rfl (by kernel_rfl) (by kernel_rfl) (by kernel_rfl) (fun _ _ _ h=>h) (.inl ⟨by kernel_rfl,fun W hW=>?_⟩) hS0 ?_
      · have hq : ∀ q : Addr,q.block < wm.heap.size→(q.block = gk + 1∨q.block = rb)→W.cell? q = wm.cell? q:=fun q h1 h2=>hW.cell h1 (fun hn=>h2.elim hn.2.1 hn.2.2); have l0:=(hq ⟨rb,off,none⟩ hrb (.inr rfl)).trans HY.out.1; have l1:=(hq ⟨rb,off + 1,none⟩ hrb (.inr rfl)).trans HY.out.2.1; have l2:=(hq ⟨rb,off + 2,none⟩ hrb (.inr rfl)).trans HY.out.2.2.1; have l3:=(hq ⟨rb,off + 3,none⟩ hrb (.inr rfl)).trans HY.out.2.2.2; dsimp only [deniedM] at l0 l1 l2 l3; have k0:=(hq ⟨gk + 1,0,none⟩ HXm.out.room (.inl rfl)).trans HO.out.1; have k1:=(hq ⟨gk + 1,1,none⟩ HXm.out.room (.inl rfl)).trans HO.out.2; clear hq; go_simp; try (first | rfl | (intro hh; exfalso; omega))
      refine wpAnyH_all (rs:=[11]) (by kernel_rfl) (by simp) ?_
      intro z hz
      rw [List.mem_singleton.1 hz]
      clear hz
      unfold wpOp
      go_simp
      refine .inl ?_
      refine (show Calls Tryz.prog 47 #[.agg #[.int .i64 5,.int .i64 0]] wm.drew (TextGives wm.drew t) by rw [← ht,← text_is HRT.out]; exact ostring_any 5 0 wm.drew (HTI.out.below (below_drew HBm.out))).mono ?_
      rintro e wn ⟨rfl,hbn⟩
      have HLn:=Lib.hid ((HLm.out.quiet ((Only.refl Nay wm).drew)).quiet (only_of_below hbn))
      have hS1:=hS0.trans (below_only hbn)
      have HHo:=Lib.hid (lb_holder HLn.out.lbx HE8.out)
      clear hbn
      refine ⟨hS1,?_⟩
      refine wpAnyH_take (i:=12) (v:=.agg #[.int .i64 11,.int .i64 0,.int .i64 0,.string (str t)]) rfl (by kernel_rfl) (by kernel_rfl) (by kernel_rfl) (fun _ _ _ h=>h) (.inl ⟨by kernel_rfl,fun W hW=>?_⟩) hS1 ?_
      · go_simp; try (first | rfl | (intro hh; exfalso; omega))
      refine wpAnyH_take (i:=13) (v:=.bool true) rfl (by kernel_rfl) (by kernel_rfl) (by kernel_rfl) (fun _ _ _ h=>h) (.inl ⟨by kernel_rfl,fun W hW=>?_⟩) hS1 ?_
      · go_simp; try (first | rfl | (intro hh; exfalso; omega))
      refine wpAnyH_take (i:=14) (v:=.bool true) rfl (by kernel_rfl) (by kernel_rfl) (by kernel_rfl) (fun _ _ _ h=>h) (.inl ⟨by kernel_rfl,fun W hW=>?_⟩) hS1 ?_
      · go_simp; try (first | rfl | (intro hh; exfalso; omega))
      refine wpAnyH_take (i:=15) (v:=.bool true) rfl (by kernel_rfl) (by kernel_rfl) (by kernel_rfl) (fun _ _ _ h=>h) (.inl ⟨by kernel_rfl,fun W hW=>?_⟩) hS1 ?_
      · go_simp; try (first | rfl | (intro hh; exfalso; omega))
      refine wpAnyH_take (i:=16) (v:=.slice Ak 0 ck) rfl (by kernel_rfl) (by kernel_rfl) (by kernel_rfl) (fun _ _ _ h=>h) (.inl ⟨by kernel_rfl,fun W hW=>?_⟩) hS1 ?_
      · go_simp; try (first | rfl | (intro hh; exfalso; omega))
      refine wpAnyH_take (i:=17) (v:=.int .i64 0) rfl (by kernel_rfl) (by kernel_rfl) (by kernel_rfl) (fun _ _ _ h=>h) (.inl ⟨by kernel_rfl,fun W hW=>?_⟩) hS1 ?_
      · go_simp; try (first | rfl | (intro hh; exfalso; omega))
      refine wpAnyH_take (i:=18) (v:=.bool true) rfl (by kernel_rfl) (by kernel_rfl) (by kernel_rfl) (fun _ _ _ h=>h) (.inl ⟨by kernel_rfl,fun W hW=>?_⟩) hS1 ?_
      · go_simp; try (first | rfl | (intro hh; exfalso; omega))
      refine wpAnyH_take (i:=19) (v:=.bool true) rfl (by kernel_rfl) (by kernel_rfl) (by kernel_rfl) (fun _ _ _ h=>h) (.inl ⟨by kernel_rfl,fun W hW=>?_⟩) hS1 ?_
      · go_simp; try (first | rfl | (intro hh; exfalso; omega))
      refine wpAnyH_take (i:=20) (v:=.bool true) rfl (by kernel_rfl) (by kernel_rfl) (by kernel_rfl) (fun _ _ _ h=>h) (.inl ⟨by kernel_rfl,fun W hW=>?_⟩) hS1 ?_
      · go_simp; try (first | rfl | (intro hh; exfalso; omega))
      refine wpAnyH_take (i:=21) (v:=.pointer (some (at0 g))) rfl (by kernel_rfl) (by kernel_rfl) (by kernel_rfl) (fun _ _ _ h=>h) (.inl ⟨by kernel_rfl,fun W hW=>?_⟩) hS1 ?_
      · go_simp; try (first | rfl | (intro hh; exfalso; omega))
      refine wpAnyH_all (rs:=[22]) (by kernel_rfl) (by simp) ?_
      intro z hz
      rw [List.mem_singleton.1 hz]
      clear hz
      unfold wpOp
      go_simp
      refine .inl ?_
      refine HHo.out.mono ?_
      rintro e wo2 ⟨rfl,_,hbo2⟩
      rw [HF8.out,show fhold (flD true) = 1 from rfl]
      have HLo2:=Lib.hid (HLn.out.quiet (only_of_below hbo2))
      have hS2:=hS1.trans (below_only hbo2)
      have HUs:=Lib.hid (ls_users HLo2.out HE8.out)
      clear hbo2
      refine ⟨hS2,?_⟩
      refine wpAnyH_take (i:=23) (v:=.bool true) rfl (by kernel_rfl) (by kernel_rfl) (by kernel_rfl) (fun _ _ _ h=>h) (.inl ⟨by kernel_rfl,fun W hW=>?_⟩) hS2 ?_
      · go_simp; try (first | rfl | (intro hh; exfalso; omega))
      refine wpAnyH_take (i:=24) (v:=.bool true) rfl (by kernel_rfl) (by kernel_rfl) (by kernel_rfl) (fun _ _ _ h=>h) (.inl ⟨by kernel_rfl,fun W hW=>?_⟩) hS2 ?_
      · go_simp; try (first | rfl | (intro hh; exfalso; omega))
      refine wpAnyH_take (i:=25) (v:=.bool true) rfl (by kernel_rfl) (by kernel_rfl) (by kernel_rfl) (fun _ _ _ h=>h) (.inl ⟨by kernel_rfl,fun W hW=>?_⟩) hS2 ?_
      · go_simp; try (first | rfl | (intro hh; exfalso; omega))
      refine wpAnyH_take (i:=26) (v:=.int .i64 2) rfl (by kernel_rfl) (by kernel_rfl) (by kernel_rfl) (fun _ _ _ h=>h) (.inl ⟨by kernel_rfl,fun W hW=>?_⟩) hS2 ?_
      · go_simp; try (first | rfl | (intro hh; exfalso; omega))
      refine wpAnyH_take (i:=27) (v:=.bool true) rfl (by kernel_rfl) (by kernel_rfl) (by kernel_rfl) (fun _ _ _ h=>h) (.inl ⟨by kernel_rfl,fun W hW=>?_⟩) hS2 ?_
      · go_simp; try (first | rfl | (intro hh; exfalso; omega))
      refine wpAnyH_take (i:=28) (v:=.bool true) rfl (by kernel_rfl) (by kernel_rfl) (by kernel_rfl) (fun _ _ _ h=>h) (.inl ⟨by kernel_rfl,fun W hW=>?_⟩) hS2 ?_
      · go_simp; try (first | rfl | (intro hh; exfalso; omega))
      refine wpAnyH_take (i:=29) (v:=.bool true) rfl (by kernel_rfl) (by kernel_rfl) (by kernel_rfl) (fun _ _ _ h=>h) (.inl ⟨by kernel_rfl,fun W hW=>?_⟩) hS2 ?_
      · go_simp; try (first | rfl | (intro hh; exfalso; omega))
      refine wpAnyH_take (i:=30) (v:=.int .i64 0) rfl (by kernel_rfl) (by kernel_rfl) (by kernel_rfl) (fun _ _ _ h=>h) (.inl ⟨by kernel_rfl,fun W hW=>?_⟩) hS2 ?_
      · go_simp; try (first | rfl | (intro hh; exfalso; omega))
      refine wpAnyH_take (i:=31) (v:=.int .i64 0) rfl (by kernel_rfl) (by kernel_rfl) (by kernel_rfl) (fun _ _ _ h=>h) (.inl ⟨by kernel_rfl,fun W hW=>?_⟩) hS2 ?_
      · go_simp; try (first | rfl | (intro hh; exfalso; omega))
      refine wpAnyH_take (i:=32) (v:=.bool true) rfl (by kernel_rfl) (by kernel_rfl) (by kernel_rfl) (fun _ _ _ h=>h) (.inl ⟨by kernel_rfl,fun W hW=>?_⟩) hS2 ?_
      · go_simp; try (first | rfl | (intro hh; exfalso; omega))
      refine wpAnyH_take (i:=33) (v:=.bool true) rfl (by kernel_rfl) (by kernel_rfl) (by kernel_rfl) (fun _ _ _ h=>h) (.inl ⟨by kernel_rfl,fun W hW=>?_⟩) hS2 ?_
      · go_simp; try (first | rfl | (intro hh; exfalso; omega))
      refine wpAnyH_take (i:=34) (v:=.bool true) rfl (by kernel_rfl) (by kernel_rfl) (by kernel_rfl) (fun _ _ _ h=>h) (.inl ⟨by kernel_rfl,fun W hW=>?_⟩) hS2 ?_
      · go_simp; try (first | rfl | (intro hh; exfalso; omega))
      refine wpAnyH_take (i:=35) (v:=.pointer (some (at0 g))) rfl (by kernel_rfl) (by kernel_rfl) (by kernel_rfl) (fun _ _ _ h=>h) (.inl ⟨by kernel_rfl,fun W hW=>?_⟩) hS2 ?_
      · go_simp; try (first | rfl | (intro hh; exfalso; omega))
      refine wpAnyH_all (rs:=[36]) (by kernel_rfl) (by simp) ?_
      intro z hz
      rw [List.mem_singleton.1 hz]
      clear hz
      unfold wpOp
      go_simp
      refine .inl ?_
      refine HUs.out.mono ?_
      rintro e wp ⟨ap,np,cp,rfl,_,hop,hnp⟩
      obtain rfl : np = 2:=by rw [hnp,HF8.out]; rfl
      have hS3:=hS2.trans (hop.mono fun x _ hx=>(show dnA n0 gk rb x from ⟨hx.1,fun e=>hx.2 (.inl e),fun e=>hx.2 (.inr ⟨_,rfl,e.symm⟩)⟩))
      clear hop hnp
      refine ⟨hS3,?_⟩
      refine wpAnyH_take (i:=37) (v:=.int .i64 2) rfl (by kernel_rfl) (by kernel_rfl) (by kernel_rfl) (fun _ _ _ h=>h) (.inl ⟨by kernel_rfl,fun W hW=>?_⟩) hS3 ?_
      · go_simp; try (first | rfl | (intro hh; exfalso; omega))
      refine wpAnyH_take (i:=38) (v:=.bool true) rfl (by kernel_rfl) (by kernel_rfl) (by kernel_rfl) (fun _ _ _ h=>h) (.inl ⟨by kernel_rfl,fun W hW=>?_⟩) hS3 ?_
      · go_simp; try (first | rfl | (intro hh; exfalso; omega))
      refine wpAnyH_take (i:=39) (v:=.bool true) rfl (by kernel_rfl) (by kernel_rfl) (by kernel_rfl) (fun _ _ _ h=>h) (.inl ⟨by kernel_rfl,fun W hW=>?_⟩) hS3 ?_
      · go_simp; try (first | rfl | (intro hh; exfalso; omega))
      refine wpAnyH_take (i:=40) (v:=.bool true) rfl (by kernel_rfl) (by kernel_rfl) (by kernel_rfl) (fun _ _ _ h=>h) (.inl ⟨by kernel_rfl,fun W hW=>?_⟩) hS3 ?_
      · go_simp; try (first | rfl | (intro hh; exfalso; omega))
      refine wpAnyH_done (by kernel_rfl) ?_ _
      go_simp
      go_wp2
      exact bodyPost_ret (v:=.bool true) (by simp [results,Tryz.results11,go_sem]) rfl ⟨rfl,Below.trans HBm.out (hS3.below HBm.out.size fun k hk h=>by have:=h.1; omega)⟩
    ·
      have HRT:=Lib.hid (HKR.out (fun h=>hk5 (HKZ.out.2 h)))
      have d5 : decide (kd = 5) = false:=decide_eq_false hk5
      have d6 : (kd == 5) = false:=by simp [hk5]
      have HOw:=Lib.hid (show isOwners kd = true from HKO.out)
      clear HKD HKO HKZ HKR
      go_upto_region 19 with fail
      generalize wd.alloc (.cells #[.int .i64 5,.int .i64 6,.int .i64 7,.int .i64 8,.int .i64 9,.int .i64 11] 82) = we at *
      obtain ⟨gk,hgk⟩ : ∃ gk,wd.heap.size = gk:=⟨_,rfl⟩
      rw [hgk] at hbk hwd hsz2 ⊢
      have HGk:=Lib.hid hgk
      clear hkc hgk
      have HXo:=Lib.hid (Bx.new we (gk + 1) hsz2 #[.int .i64 kd,.int .i64 (1 + (r : Int))] 86)
      have hbo : Below we.heap.size we (we.alloc (.cells #[.int .i64 kd,.int .i64 (1 + (r : Int))] 86)):=(Below.refl _ _).alloc (Nat.le_refl _) _
      have hbo : Below gk wd (we.alloc (.cells #[.int .i64 kd,.int .i64 (1 + (r : Int))] 86)):=hbk.trans (hbo.mono (by omega))
      generalize we.alloc (.cells #[.int .i64 kd,.int .i64 (1 + (r : Int))] 86) = wo at *
      have HLo:=Lib.hid (HLd.out.ls (S:=fun x=>x = gk + 1) (by rw [HGk.out]; exact hbo) (fun x hx=>by subst hx; exact ⟨by rw [HGk.out]; exact Nat.le_succ gk,HXo.out.room⟩))
      have HBo:=Lib.hid (Below.trans HBd.out (hbo.mono hwd))
      have HTo:=Lib.hid (HTI.out.below HBo.out)
      obtain ⟨t,ht⟩ : ∃ t,Orm.tx kd (1 + (r : Int)) = t:=⟨_,rfl⟩
      have htl : t.length≤20:=by rw [← ht]; exact Orm.tx_len HRT.out
      have hev6:=dn6_ev true HRT.out
      obtain ⟨i1,i2,i3,i4,i5⟩:=denied_is true HRT.out HOw.out
      rw [ht] at hev6 i2 i3 i4 i5
      have HEV6:=Lib.hid hev6
      have HI1:=Lib.hid i1
      have HI2:=Lib.hid i2
      have HI3:=Lib.hid i3
      have HI4:=Lib.hid i4
      have HI5:=Lib.hid i5
      have HStr:=Lib.hid (show Calls Tryz.prog 47 #[.agg #[.int .i64 kd,.int .i64 (1 + (r : Int))]] wo (TextGives wo t) by rw [← ht,← text_is HRT.out]; exact ostring_any kd (1 + (r : Int)) wo HTo.out)
      have o0:=HXo.out.cell 0 (.int .i64 kd) rfl
      have o1:=HXo.out.cell 1 (.int .i64 (1 + (r : Int))) rfl
      have hts:=str_size t
      have hcat : (⟨#[29,58]⟩ ++ str t) ++ ⟨#[10]⟩ = str (esc t):=by
        unfold esc
        rw [str_app,str_app]
        rfl
      have hel : (esc t).length≤23:=by unfold esc; simp; omega
      clear hev6 i1 i2 i3 i4 i5 hbo hbk HLd HBd HTo HOw
      go_wp2_with fail
      refine HStr.out.mono ?_
      rintro e wf ⟨rfl,hbf⟩
      have HLf:=Lib.hid (HLo.out.quiet (only_of_below hbf))
      have HXf:=Lib.hid (HXo.out.go hbf HXo.out.room)
      have HBf:=Lib.hid (Below.trans HBo.out (hbf.mono HBo.out.size))
      clear hbf HStr HLo HXo HBo o0 o1
      go_wp2_with fail
      try rw [hcat]
      refine (ltyped_any 7 (esc t) (by decide) (by decide) (by omega) wf).mono ?_
      rintro e wg ⟨Ag,cg,rfl,hyg,hng,_,hbg⟩
      have HYg:=Lib.hid hyg
      have HXg:=Lib.hid (HXf.out.go hbg HXf.out.room)
      have HBg:=Lib.hid (Below.trans HBf.out (hbg.mono HBf.out.size))
      have HBy:=Lib.hid (ls_bytes HLf.out hbg hng (dn5_ev true) (by decide) 2 hid2 cg hyg (by rw [enc_len5]; show 6 * 1 + (esc t).length + 5≤1000000; omega))
      clear hyg hng hbg HLf HXf HBf
      go_wp2_with fail
      refine HBy.out.mono ?_
      rintro e wh ⟨rfl,hlh,hoh⟩
      rw [HI1.out]
      have HLh:=Lib.hid (show LS n0 (fun x=>x = gk + 1) g wh (dn6 true t) from hlh)
      have HXh:=Lib.hid (HXg.out.keep hoh (fun h=>h.2 rfl))
      have HBh:=Lib.hid (Below.trans HBg.out (hoh.below HBg.out.size fun k hk h=>by have:=h.1; omega))
      have HWh:=ls_write HLh.out HEV6.out.ok 2 5000 hid2
      rw [HI2.out,HI3.out] at HWh
      have HWh:=Lib.hid HWh
      clear hlh hoh HYg HXg HBg HBy HLh
      go_wp2_with fail
      refine HWh.out.mono ?_
      rintro e wi ⟨Ai,mi,ci,rfl,hli,hoi,hyi,hci,_⟩
      have HLi:=Lib.hid (show LS n0 (fun x=>x = gk + 1) g wi (dn7 true t) from hli)
      have HXi:=Lib.hid (HXh.out.keep hoi (fun h=>h.2 rfl))
      have HBi:=Lib.hid (Below.trans HBh.out (hoi.below HBh.out.size fun k hk h=>by have:=h.1; omega))
      have hmi : mi≤1000000000:=by
        have:=hyi.1
        rw [enc_len5] at this
        have : mi = 6 * 0 + t.length + 5:=this.symm
        omega
      have HMs:=Lib.hid (lmessages_any [deniedM t] (fun m hm=>by rw [List.mem_singleton.1 hm]; exact denied_ok (by omega)) wi (show Bytes wi wi.heap.size Ai mi (encs [deniedM t]) by rw [encs_one]; exact hyi) (Nat.le_refl _) hci hmi)
      clear hli hoi hyi hci hmi HWh HXh HBh
      go_wp2_with fail
      refine HMs.out.mono ?_
      rintro e wj ⟨R,rc,rfl,hrow,hbj⟩
      have HRow:=Lib.hid hrow
      have HLj:=Lib.hid (HLi.out.more (T:=fun x=>∃ p,R = some p∧p.block = x) hbj (fun x ⟨p,hp,e⟩=>by subst e; exact hrow.lt hp))
      have HXj:=Lib.hid (HXi.out.go hbj HXi.out.room)
      have HBj:=Lib.hid (Below.trans HBi.out (hbj.mono HBi.out.size))
      have HWj:=ls_write (b:=dn7 true t) HLj.out (HEV6.out.write 2 5000).ok 1 5000 hid1
      rw [show writeT (dn7 true t) 1 5000 = [] from HI4.out] at HWj
      have HWj:=Lib.hid HWj
      rw [show [deniedM t].length = 1 from rfl]
      clear hrow hbj HMs HLi HXi HBi HLj
      go_wp2_with fail
      refine HWj.out.mono ?_
      rintro e wk ⟨Ak,mk,ck,rfl,hlk,hok,hyk,_,_⟩
      obtain rfl : mk = 0:=hyk.1.symm
      have HLk:=Lib.hid (show LS n0 (fun x=>x = gk + 1∨∃ p,R = some p∧p.block = x) g wk (dn8 true t) from hlk)
      have HXk:=Lib.hid (HXj.out.keep hok (fun h=>h.2 (.inl rfl)))
      have HRk:=Lib.hid (HRow.out.only hok (fun p hp hn=>hn.2 (.inr ⟨p,hp,rfl⟩)))
      have HBk:=Lib.hid (Below.trans HBj.out (hok.below HBj.out.size fun k hk h=>by have:=h.1; omega))
      have HEV8:=Lib.hid ((HEV6.out.write 2 5000).write 1 5000)
      obtain ⟨b8,hb8⟩ : ∃ b8,dn8 true t = b8:=⟨_,rfl⟩
      have HE8:=Lib.hid (show BOk b8 by rw [← hb8]; exact HEV8.out.ok)
      have HF8:=Lib.hid (show b8.fl = flD true by rw [← hb8]; exact HI5.out)
      rw [hb8] at HLk
      have HR1:=Lib.hid (lb_role HLk.out.lbx HE8.out 1 hid1)
      clear hlk hok hyk HWj HXj HRow HBj HEV8 hb8 HI1 HI2 HI3 HI4 HI5 HEV6
      go_wp2_with fail
      refine HR1.out.mono ?_
      rintro e wl ⟨rfl,_,hbl⟩
      rw [HF8.out,show rrole (flD true).roles 1 = 2 from rfl,show rhas (flD true).roles 1 = true from rfl]
      have HLl:=Lib.hid (HLk.out.quiet (only_of_below hbl))
      have HXl:=Lib.hid (HXk.out.go hbl HXk.out.room)
      have HRl:=Lib.hid (HRk.out.below hbl)
      have HBl:=Lib.hid (Below.trans HBk.out (hbl.mono HBk.out.size))
      have HR2:=Lib.hid (lb_role HLl.out.lbx HE8.out 2 hid2)
      clear hbl HLk HXk HRk HBk HR1
      go_wp2_with fail
      refine HR2.out.mono ?_
      rintro e wm ⟨rfl,_,hbm⟩
      rw [HF8.out,show rrole (flD true).roles 2 = 0 from rfl,show rhas (flD true).roles 2 = true from rfl]
      have HLm:=Lib.hid (HLl.out.quiet (only_of_below hbm))
      have HXm:=Lib.hid (HXl.out.go hbm HXl.out.room)
      have HRm:=Lib.hid (HRl.out.below hbm)
      have HBm:=Lib.hid (Below.trans HBl.out (hbm.mono HBl.out.size))
      clear hbm HLl HXl HRl HBl HR2
      obtain ⟨rb,off,rfl,hrb,hcell⟩:=HRm.out.msin.outer (by simp)
      obtain ⟨y0,y1,y2,y3⟩:=msg_cells (hcell 0 (deniedM t) rfl) (o:=off) (by omega)
      have HY:=Lib.hid (And.intro y0 (And.intro y1 (And.intro y2 y3)))
      have HO:=Lib.hid (And.intro (HXm.out.cell 0 (.int .i64 kd) rfl) (HXm.out.cell 1 (.int .i64 (1 + (r : Int))) rfl))
      have hsr : ((str t).toList == (str t).toList) = true:=by simp
      clear hcell y0 y1 y2 y3 hcat
      go_wp2_with fail
      refine wp_region_held (S:=fun W=>Only (dnA n0 gk rb) wm W) hmix ?_
      change wpAnyH _ _ _ _ _ _ _ _ (World.drew _)
      have hS0 : Only (dnA n0 gk rb) wm wm.drew:=(Only.refl _ _).drew
      refine wpAnyH_take (i:=0) (v:=.bool true) rfl (by kernel_rfl) (by kernel_rfl) (by kernel_rfl) (fun _ _ _ h=>h) (.inl ⟨by kernel_rfl,fun W hW=>?_⟩) hS0 ?_
      · go_simp; try (first | rfl | (intro hh; exfalso; omega))
      refine wpAnyH_take (i:=1) (v:=.bool true) rfl (by kernel_rfl) (by kernel_rfl) (by kernel_rfl) (fun _ _ _ h=>h) (.inl ⟨by kernel_rfl,fun W hW=>?_⟩) hS0 ?_
      · go_simp; try (first | rfl | (intro hh; exfalso; omega))
      refine wpAnyH_take (i:=2) (v:=.slice (some ⟨rb,off,none⟩) 1 rc) rfl (by kernel_rfl) (by kernel_rfl) (by kernel_rfl) (fun _ _ _ h=>h) (.inl ⟨by kernel_rfl,fun W hW=>?_⟩) hS0 ?_
      · go_simp; try (first | rfl | (intro hh; exfalso; omega))
      refine wpAnyH_take (i:=3) (v:=.int .i64 1) rfl (by kernel_rfl) (by kernel_rfl) (by kernel_rfl) (fun _ _ _ h=>h) (.inl ⟨by kernel_rfl,fun W hW=>?_⟩) hS0 ?_
      · go_simp; try (first | rfl | (intro hh; exfalso; omega))
      refine wpAnyH_take (i:=4) (v:=.bool true) rfl (by kernel_rfl) (by kernel_rfl) (by kernel_rfl) (fun _ _ _ h=>h) (.inl ⟨by kernel_rfl,fun W hW=>?_⟩) hS0 ?_
      · go_simp; try (first | rfl | (intro hh; exfalso; omega))
      refine wpAnyH_take (i:=5) (v:=.bool true) rfl (by kernel_rfl) (by kernel_rfl) (by kernel_rfl) (fun _ _ _ h=>h) (.inl ⟨by kernel_rfl,fun W hW=>?_⟩) hS0 ?_
      · go_simp; try (first | rfl | (intro hh; exfalso; omega))
      refine wpAnyH_take (i:=6) (v:=.bool true) rfl (by kernel_rfl) (by kernel_rfl) (by kernel_rfl) (fun _ _ _ h=>h) (.inl ⟨by kernel_rfl,fun W hW=>?_⟩) hS0 ?_
      · go_simp; try (first | rfl | (intro hh; exfalso; omega))
      refine wpAnyH_take (i:=7) (v:=.slice (some ⟨rb,off,none⟩) 1 rc) rfl (by kernel_rfl) (by kernel_rfl) (by kernel_rfl) (fun _ _ _ h=>h) (.inl ⟨by kernel_rfl,fun W hW=>?_⟩) hS0 ?_
      · go_simp; try (first | rfl | (intro hh; exfalso; omega))
      refine wpAnyH_take (i:=8) (v:=.pointer (some ⟨rb,off,none⟩)) rfl (by kernel_rfl) (by kernel_rfl) (by kernel_rfl) (fun _ _ _ h=>h) (.inl ⟨by kernel_rfl,fun W hW=>?_⟩) hS0 ?_
      · go_simp; try (first | rfl | (intro hh; exfalso; omega))
      refine wpAnyH_take (i:=9) (v:=.agg #[.int .i64 11,.int .i64 0,.int .i64 0,.string (str t)]) rfl (by kernel_rfl) (by kernel_rfl) (by kernel_rfl) (fun _ _ _ h=>h) (.inl ⟨by kernel_rfl,fun W hW=>?_⟩) hS0 ?_
      · have hq : ∀ q : Addr,q.block < wm.heap.size→(q.block = gk + 1∨q.block = rb)→W.cell? q = wm.cell? q:=fun q h1 h2=>hW.cell h1 (fun hn=>h2.elim hn.2.1 hn.2.2); have l0:=(hq ⟨rb,off,none⟩ hrb (.inr rfl)).trans HY.out.1; have l1:=(hq ⟨rb,off + 1,none⟩ hrb (.inr rfl)).trans HY.out.2.1; have l2:=(hq ⟨rb,off + 2,none⟩ hrb (.inr rfl)).trans HY.out.2.2.1; have l3:=(hq ⟨rb,off + 3,none⟩ hrb (.inr rfl)).trans HY.out.2.2.2; dsimp only [deniedM] at l0 l1 l2 l3; have k0:=(hq ⟨gk + 1,0,none⟩ HXm.out.room (.inl rfl)).trans HO.out.1; have k1:=(hq ⟨gk + 1,1,none⟩ HXm.out.room (.inl rfl)).trans HO.out.2; clear hq; go_simp; try (first | rfl | (intro hh; exfalso; omega))
      refine wpAnyH_take (i:=10) (v:=.agg #[.int .i64 kd,.int .i64 (1 + (r : Int))]) rfl (by kernel_rfl) (by kernel_rfl) (by kernel_rfl) (fun _ _ _ h=>h) (.inl ⟨by kernel_rfl,fun W hW=>?_⟩) hS0 ?_
      · have hq : ∀ q : Addr,q.block < wm.heap.size→(q.block = gk + 1∨q.block = rb)→W.cell? q = wm.cell? q:=fun q h1 h2=>hW.cell h1 (fun hn=>h2.elim hn.2.1 hn.2.2); have l0:=(hq ⟨rb,off,none⟩ hrb (.inr rfl)).trans HY.out.1; have l1:=(hq ⟨rb,off + 1,none⟩ hrb (.inr rfl)).trans HY.out.2.1; have l2:=(hq ⟨rb,off + 2,none⟩ hrb (.inr rfl)).trans HY.out.2.2.1; have l3:=(hq ⟨rb,off + 3,none⟩ hrb (.inr rfl)).trans HY.out.2.2.2; dsimp only [deniedM] at l0 l1 l2 l3; have k0:=(hq ⟨gk + 1,0,none⟩ HXm.out.room (.inl rfl)).trans HO.out.1; have k1:=(hq ⟨gk + 1,1,none⟩ HXm.out.room (.inl rfl)).trans HO.out.2; clear hq; go_simp; try (first | rfl | (intro hh; exfalso; omega))
      refine wpAnyH_all (rs:=[11]) (by kernel_rfl) (by simp) ?_
      intro z hz
      rw [List.mem_singleton.1 hz]
      clear hz
      unfold wpOp
      go_simp
      refine .inl ?_
      refine (show Calls Tryz.prog 47 #[.agg #[.int .i64 kd,.int .i64 (1 + (r : Int))]] wm.drew (TextGives wm.drew t) by rw [← ht,← text_is HRT.out]; exact ostring_any kd (1 + (r : Int)) wm.drew (HTI.out.below (below_drew HBm.out))).mono ?_
      rintro e wn ⟨rfl,hbn⟩
      have HLn:=Lib.hid ((HLm.out.quiet ((Only.refl Nay wm).drew)).quiet (only_of_below hbn))
      have hS1:=hS0.trans (below_only hbn)
      have HHo:=Lib.hid (lb_holder HLn.out.lbx HE8.out)
      clear hbn
      refine ⟨hS1,?_⟩
      refine wpAnyH_take (i:=12) (v:=.agg #[.int .i64 11,.int .i64 0,.int .i64 0,.string (str t)]) rfl (by kernel_rfl) (by kernel_rfl) (by kernel_rfl) (fun _ _ _ h=>h) (.inl ⟨by kernel_rfl,fun W hW=>?_⟩) hS1 ?_
      · go_simp; try (first | rfl | (intro hh; exfalso; omega))
      refine wpAnyH_take (i:=13) (v:=.bool true) rfl (by kernel_rfl) (by kernel_rfl) (by kernel_rfl) (fun _ _ _ h=>h) (.inl ⟨by kernel_rfl,fun W hW=>?_⟩) hS1 ?_
      · go_simp; try (first | rfl | (intro hh; exfalso; omega))
      refine wpAnyH_take (i:=14) (v:=.bool true) rfl (by kernel_rfl) (by kernel_rfl) (by kernel_rfl) (fun _ _ _ h=>h) (.inl ⟨by kernel_rfl,fun W hW=>?_⟩) hS1 ?_
      · go_simp; try (first | rfl | (intro hh; exfalso; omega))
      refine wpAnyH_take (i:=15) (v:=.bool true) rfl (by kernel_rfl) (by kernel_rfl) (by kernel_rfl) (fun _ _ _ h=>h) (.inl ⟨by kernel_rfl,fun W hW=>?_⟩) hS1 ?_
      · go_simp; try (first | rfl | (intro hh; exfalso; omega))
      refine wpAnyH_take (i:=16) (v:=.slice Ak 0 ck) rfl (by kernel_rfl) (by kernel_rfl) (by kernel_rfl) (fun _ _ _ h=>h) (.inl ⟨by kernel_rfl,fun W hW=>?_⟩) hS1 ?_
      · go_simp; try (first | rfl | (intro hh; exfalso; omega))
      refine wpAnyH_take (i:=17) (v:=.int .i64 0) rfl (by kernel_rfl) (by kernel_rfl) (by kernel_rfl) (fun _ _ _ h=>h) (.inl ⟨by kernel_rfl,fun W hW=>?_⟩) hS1 ?_
      · go_simp; try (first | rfl | (intro hh; exfalso; omega))
      refine wpAnyH_take (i:=18) (v:=.bool true) rfl (by kernel_rfl) (by kernel_rfl) (by kernel_rfl) (fun _ _ _ h=>h) (.inl ⟨by kernel_rfl,fun W hW=>?_⟩) hS1 ?_
      · go_simp; try (first | rfl | (intro hh; exfalso; omega))
      refine wpAnyH_take (i:=19) (v:=.bool true) rfl (by kernel_rfl) (by kernel_rfl) (by kernel_rfl) (fun _ _ _ h=>h) (.inl ⟨by kernel_rfl,fun W hW=>?_⟩) hS1 ?_
      · go_simp; try (first | rfl | (intro hh; exfalso; omega))
      refine wpAnyH_take (i:=20) (v:=.bool true) rfl (by kernel_rfl) (by kernel_rfl) (by kernel_rfl) (fun _ _ _ h=>h) (.inl ⟨by kernel_rfl,fun W hW=>?_⟩) hS1 ?_
      · go_simp; try (first | rfl | (intro hh; exfalso; omega))
      refine wpAnyH_take (i:=21) (v:=.pointer (some (at0 g))) rfl (by kernel_rfl) (by kernel_rfl) (by kernel_rfl) (fun _ _ _ h=>h) (.inl ⟨by kernel_rfl,fun W hW=>?_⟩) hS1 ?_
      · go_simp; try (first | rfl | (intro hh; exfalso; omega))
      refine wpAnyH_all (rs:=[22]) (by kernel_rfl) (by simp) ?_
      intro z hz
      rw [List.mem_singleton.1 hz]
      clear hz
      unfold wpOp
      go_simp
      refine .inl ?_
      refine HHo.out.mono ?_
      rintro e wo2 ⟨rfl,_,hbo2⟩
      rw [HF8.out,show fhold (flD true) = 1 from rfl]
      have HLo2:=Lib.hid (HLn.out.quiet (only_of_below hbo2))
      have hS2:=hS1.trans (below_only hbo2)
      have HUs:=Lib.hid (ls_users HLo2.out HE8.out)
      clear hbo2
      refine ⟨hS2,?_⟩
      refine wpAnyH_take (i:=23) (v:=.bool true) rfl (by kernel_rfl) (by kernel_rfl) (by kernel_rfl) (fun _ _ _ h=>h) (.inl ⟨by kernel_rfl,fun W hW=>?_⟩) hS2 ?_
      · go_simp; try (first | rfl | (intro hh; exfalso; omega))
      refine wpAnyH_take (i:=24) (v:=.bool true) rfl (by kernel_rfl) (by kernel_rfl) (by kernel_rfl) (fun _ _ _ h=>h) (.inl ⟨by kernel_rfl,fun W hW=>?_⟩) hS2 ?_
      · go_simp; try (first | rfl | (intro hh; exfalso; omega))
      refine wpAnyH_take (i:=25) (v:=.bool true) rfl (by kernel_rfl) (by kernel_rfl) (by kernel_rfl) (fun _ _ _ h=>h) (.inl ⟨by kernel_rfl,fun W hW=>?_⟩) hS2 ?_
      · go_simp; try (first | rfl | (intro hh; exfalso; omega))
      refine wpAnyH_take (i:=26) (v:=.int .i64 2) rfl (by kernel_rfl) (by kernel_rfl) (by kernel_rfl) (fun _ _ _ h=>h) (.inl ⟨by kernel_rfl,fun W hW=>?_⟩) hS2 ?_
      · go_simp; try (first | rfl | (intro hh; exfalso; omega))
      refine wpAnyH_take (i:=27) (v:=.bool true) rfl (by kernel_rfl) (by kernel_rfl) (by kernel_rfl) (fun _ _ _ h=>h) (.inl ⟨by kernel_rfl,fun W hW=>?_⟩) hS2 ?_
      · go_simp; try (first | rfl | (intro hh; exfalso; omega))
      refine wpAnyH_take (i:=28) (v:=.bool true) rfl (by kernel_rfl) (by kernel_rfl) (by kernel_rfl) (fun _ _ _ h=>h) (.inl ⟨by kernel_rfl,fun W hW=>?_⟩) hS2 ?_
      · go_simp; try (first | rfl | (intro hh; exfalso; omega))
      refine wpAnyH_take (i:=29) (v:=.bool true) rfl (by kernel_rfl) (by kernel_rfl) (by kernel_rfl) (fun _ _ _ h=>h) (.inl ⟨by kernel_rfl,fun W hW=>?_⟩) hS2 ?_
      · go_simp; try (first | rfl | (intro hh; exfalso; omega))
      refine wpAnyH_take (i:=30) (v:=.int .i64 0) rfl (by kernel_rfl) (by kernel_rfl) (by kernel_rfl) (fun _ _ _ h=>h) (.inl ⟨by kernel_rfl,fun W hW=>?_⟩) hS2 ?_
      · go_simp; try (first | rfl | (intro hh; exfalso; omega))
      refine wpAnyH_take (i:=31) (v:=.int .i64 0) rfl (by kernel_rfl) (by kernel_rfl) (by kernel_rfl) (fun _ _ _ h=>h) (.inl ⟨by kernel_rfl,fun W hW=>?_⟩) hS2 ?_
      · go_simp; try (first | rfl | (intro hh; exfalso; omega))
      refine wpAnyH_take (i:=32) (v:=.bool true) rfl (by kernel_rfl) (by kernel_rfl) (by kernel_rfl) (fun _ _ _ h=>h) (.inl ⟨by kernel_rfl,fun W hW=>?_⟩) hS2 ?_
      · go_simp; try (first | rfl | (intro hh; exfalso; omega))
      refine wpAnyH_take (i:=33) (v:=.bool true) rfl (by kernel_rfl) (by kernel_rfl) (by kernel_rfl) (fun _ _ _ h=>h) (.inl ⟨by kernel_rfl,fun W hW=>?_⟩) hS2 ?_
      · go_simp; try (first | rfl | (intro hh; exfalso; omega))
      refine wpAnyH_take (i:=34) (v:=.bool true) rfl (by kernel_rfl) (by kernel_rfl) (by kernel_rfl) (fun _ _ _ h=>h) (.inl ⟨by kernel_rfl,fun W hW=>?_⟩) hS2 ?_
      · go_simp; try (first | rfl | (intro hh; exfalso; omega))
      refine wpAnyH_take (i:=35) (v:=.pointer (some (at0 g))) rfl (by kernel_rfl) (by kernel_rfl) (by kernel_rfl) (fun _ _ _ h=>h) (.inl ⟨by kernel_rfl,fun W hW=>?_⟩) hS2 ?_
      · go_simp; try (first | rfl | (intro hh; exfalso; omega))
      refine wpAnyH_all (rs:=[36]) (by kernel_rfl) (by simp) ?_
      intro z hz
      rw [List.mem_singleton.1 hz]
      clear hz
      unfold wpOp
      go_simp
      refine .inl ?_
      refine HUs.out.mono ?_
      rintro e wp ⟨ap,np,cp,rfl,_,hop,hnp⟩
      obtain rfl : np = 2:=by rw [hnp,HF8.out]; rfl
      have hS3:=hS2.trans (hop.mono fun x _ hx=>(show dnA n0 gk rb x from ⟨hx.1,fun e=>hx.2 (.inl e),fun e=>hx.2 (.inr ⟨_,rfl,e.symm⟩)⟩))
      clear hop hnp
      refine ⟨hS3,?_⟩
      refine wpAnyH_take (i:=37) (v:=.int .i64 2) rfl (by kernel_rfl) (by kernel_rfl) (by kernel_rfl) (fun _ _ _ h=>h) (.inl ⟨by kernel_rfl,fun W hW=>?_⟩) hS3 ?_
      · go_simp; try (first | rfl | (intro hh; exfalso; omega))
      refine wpAnyH_take (i:=38) (v:=.bool true) rfl (by kernel_rfl) (by kernel_rfl) (by kernel_rfl) (fun _ _ _ h=>h) (.inl ⟨by kernel_rfl,fun W hW=>?_⟩) hS3 ?_
      · go_simp; try (first | rfl | (intro hh; exfalso; omega))
      refine wpAnyH_take (i:=39) (v:=.bool true) rfl (by kernel_rfl) (by kernel_rfl) (by kernel_rfl) (fun _ _ _ h=>h) (.inl ⟨by kernel_rfl,fun W hW=>?_⟩) hS3 ?_
      · go_simp; try (first | rfl | (intro hh; exfalso; omega))
      refine wpAnyH_take (i:=40) (v:=.bool true) rfl (by kernel_rfl) (by kernel_rfl) (by kernel_rfl) (fun _ _ _ h=>h) (.inl ⟨by kernel_rfl,fun W hW=>?_⟩) hS3 ?_
      · go_simp; try (first | rfl | (intro hh; exfalso; omega))
      refine wpAnyH_done (by kernel_rfl) ?_ _
      go_simp
      go_wp2
      exact bodyPost_ret (v:=.bool true) (by simp [results,Tryz.results11,go_sem]) rfl ⟨rfl,Below.trans HBm.out (hS3.below HBm.out.size fun k hk h=>by have:=h.1; omega)⟩
theorem w_in : Tryz.checked.prog.inits.idxOf? 11 = none:=by kernel_rfl
theorem w_ok (os : Os) : Input.okWideB Tryz.prog ((World.doorLaid Tryz.prog 400 os).forCall (fun _ _=>0) ⟨#[],#[.int .i64 0,.int .i64 0,.bool false],[]⟩) 11 ⟨#[],#[.int .i64 0,.int .i64 0,.bool false],[]⟩ = true:=by kernel_rfl
theorem w_pre (os : Os) (H : Type) (enc : TypeId×Value→H) : Rows.brokerDeniedSpec.preB enc Tryz.prog Tryz.f11 [] false ((World.doorLaid Tryz.prog 400 os).forCall (fun _ _=>0) ⟨#[],#[.int .i64 0,.int .i64 0,.bool false],[]⟩).memory #[.int .i64 0,.int .i64 0,.bool false] 8 = true:=by kernel_rfl
theorem w_sz (os : Os) (H : Type) (enc : TypeId×Value→H) : Rows.brokerDeniedSpec.sizedB enc Tryz.prog Tryz.f11 false ((World.doorLaid Tryz.prog 400 os).forCall (fun _ _=>0) ⟨#[],#[.int .i64 0,.int .i64 0,.bool false],[]⟩).memory #[.int .i64 0,.int .i64 0,.bool false] 8 = true:=by kernel_rfl
set_option maxRecDepth 100000 in
theorem lifted (os : Os) (started : os.Started) (H : Type) (enc : TypeId×Value→H) :
    ReturnsInHanded {} Tryz.checked os 11 .any (fun w args=>(Rows.brokerDeniedSpec.pre enc Tryz.prog Tryz.f11 [] false w args∧laidMetH Tryz.prog laidL w)∧sizedMet enc Tryz.prog Tryz.f11 (OpenSpec.ofChange Rows.brokerDeniedSpec) false w args)
      (Rows.brokerDeniedSpec.post enc Tryz.prog Tryz.f11 false true false false):=by
  refine returnsInHanded_of_change_and (C:=Tryz.checked) (X:=fun w _=>laidMetH Tryz.prog laidL w) (fun _ _ _ hh h=>h.of_heap hh) own started w_in Tryz.func11
    (ChangeSpec.witness_shaped (enc:=enc) (C:=Tryz.checked) (os:=os) (X:=fun w _=>laidMetH Tryz.prog laidL w) false (World.doorLaid Tryz.prog 400 os) #[.int .i64 0,.int .i64 0,.bool false] 8 rfl (door_shaped os _) (w_ok os) (w_pre os H enc) (w_sz os H enc) (door_met os _)) ?_
  intro W base args ds gs before hval0 hW hcnd hsz0 hL _
  have hti:=ti_of hL
  have hval : ∀ (j : Nat) t v,Tryz.f11.params[j]? = some t→args[j]? = some v→Value.okWide Tryz.prog W .any base t v:=hval0
  have hW':=hW
  obtain ⟨p,q,hA0,hV,rfl,hfz,hnd⟩:=hW
  have hsz : (DataW.weightsEach Tryz.prog (Tryz.f11.params.toList ++ Rows.brokerDeniedSpec.plain.varTypes Tryz.prog) (ds ++ gs)).all (·≤reachBytes) = true:=hsz0
  have hA : DataW.TrodAll enc Tryz.prog W 0 (fun _=>true) true Tryz.f11.params.toList args.toList ds p:=hA0
  rw [Tryz.params11] at hA hval hsz
  obtain ⟨v0,vs0,d0,ds0,p0,q0,hargs,rfl,rfl,h0,r0⟩:=trodAll_cons hA
  obtain ⟨v1,vs1,d1,ds1,p1,q1,rfl,rfl,rfl,h1,r1⟩:=trodAll_cons r0
  obtain ⟨v2,vs2,d2,ds2,p2,q2,rfl,rfl,rfl,h2,r2⟩:=trodAll_cons r1
  obtain ⟨rfl,rfl,rfl⟩:=trodAll_nil r2
  obtain rfl : args = #[v0,v1,v2]:=by cases args; simp_all
  obtain ⟨rfl,rfl⟩:=trodVars_none hV
  obtain ⟨a0,rfl,rfl,rfl,w0⟩:=open_int Tryz.underlying3 (hval 0 3 v0 rfl rfl) h0
  obtain ⟨a1,rfl,rfl,rfl,w1⟩:=open_int Tryz.underlying3 (hval 1 3 v1 rfl rfl) h1
  obtain ⟨b2,rfl,rfl,rfl⟩:=open_bool Tryz.underlying4 (hval 2 4 v2 rfl rfl) h2
  clear hA0 hval0 hsz hsz0
  refine (walk a0 a1 b2 W w0 w1 hti).mono fun e W' ⟨he,bel⟩=>?_
  subst he
  exact ⟨_,rfl,_,_,_,[],_,[],hW',trodAll_mk1 (shut_bool Tryz.underlying4 _),(trodAll_cons_mk (shut_int Tryz.underlying3 w0) (trodAll_cons_mk (shut_int Tryz.underlying3 w1) (trodAll_cons_mk (shut_bool Tryz.underlying4 b2) trodAll_mk0))),rfl,bel.frame _,fun h=>by cases h⟩
theorem q0 : (Rows.brokerDeniedRow.wf (OpenSpec.ofChange Rows.brokerDeniedSpec)) = true:=by kernel_rfl
theorem q3 : (Tryz.f11.params.all (Tryz.prog.readableRec ·)) = true:=by kernel_rfl
theorem q4 : (namedTie Tryz.prog Rows.brokerDeniedRow.named Rows.brokerDeniedSpec.vars) = true:=by kernel_rfl
theorem q5 : ((Rows.brokerDeniedRow.stops == [])) = true:=by kernel_rfl
theorem q7 : ((Rows.brokerDeniedRow.knobs == [])) = true:=by kernel_rfl
theorem q9 : ((Rows.brokerDeniedRow.inPlace == Tryz.prog.inPlace 11)) = true:=by kernel_rfl
theorem q10 : ((Rows.brokerDeniedRow.unfollowed == Tryz.prog.unfollowed 11)) = true:=by kernel_rfl
theorem q11 : ((Rows.brokerDeniedRow.recurses == Tryz.prog.recurses 11)) = true:=by kernel_rfl
theorem q12 : ((Rows.brokerDeniedRow.named == Tryz.prog.varsNamed 11)) = true:=by kernel_rfl
theorem q13 : ((Rows.brokerDeniedRow.maps == (Tryz.f11.params.toList ++ Rows.brokerDeniedSpec.plain.varTypes Tryz.prog).any (Tryz.prog.mapsRec ·))) = true:=by kernel_rfl
theorem q14 : ((Rows.brokerDeniedRow.ifaces == (Tryz.f11.params.toList ++ Rows.brokerDeniedSpec.plain.varTypes Tryz.prog).any (Tryz.prog.ifacesRec ·))) = true:=by kernel_rfl
theorem q15 : ((Rows.brokerDeniedRow.mapsOut == Tryz.prog.mapsAmong Tryz.f11.resultTypes.toList)) = true:=by kernel_rfl
theorem q16 : ((Rows.brokerDeniedRow.loops == (Tryz.f11.params.toList ++ Rows.brokerDeniedSpec.plain.varTypes Tryz.prog).any (Tryz.prog.loopsFrom ·))) = true:=by kernel_rfl
theorem q17 : ((Rows.brokerDeniedRow.wideKeys == (Tryz.f11.params.toList ++ Rows.brokerDeniedSpec.plain.varTypes Tryz.prog ++ Tryz.f11.resultTypes.toList).any (Tryz.prog.wideKeysFrom ·))) = true:=by kernel_rfl
theorem q18 : (Rows.brokerDeniedSpec.vars.all (Tryz.prog.varReadable ·)) = true:=by kernel_rfl
theorem q19 : (Tryz.f11.resultTypes.all (fun t=>Tryz.prog.readableRec t && decide (t < Tryz.prog.types.size))) = true:=by kernel_rfl
theorem q20 : ((Rows.brokerDeniedRow.ifacesOut == Tryz.f11.resultTypes.toList.any (Tryz.prog.ifacesRec ·))) = true:=by kernel_rfl
theorem q21 : ((Rows.brokerDeniedRow.loopsOut == Tryz.f11.resultTypes.toList.any (Tryz.prog.loopsFrom ·))) = true:=by kernel_rfl
theorem q22 : ((Rows.brokerDeniedRow.plainKeys == Tryz.prog.plainKeys)) = true:=(show Rows.brokerDeniedRow.plainKeys = Rows.brokerEventsRow.plainKeys from rfl) ▸ pq22
theorem q23 : (Rows.brokerDeniedRow.shortTexts.isNone) = true:=by kernel_rfl
theorem q26 : ((Rows.brokerDeniedRow.lifted == Tryz.prog.liftsFinal)) = true:=(show Rows.brokerDeniedRow.lifted = Rows.brokerEventsRow.lifted from rfl) ▸ pq26
theorem q27 : ((Tryz.prog.make == some Rows.brokerDeniedRow.make)) = true:=(show Rows.brokerDeniedRow.make = Rows.brokerEventsRow.make from rfl) ▸ pq27
theorem q28 : kindsAre Tryz.prog Rows.brokerDeniedRow Tryz.f11 = true:=by kernel_rfl
theorem q29 : ((Rows.brokerDeniedRow.pinned == Rows.brokerDeniedRow.pinnedBy)) = true:=by kernel_rfl
theorem q30 : ((Rows.brokerDeniedRow.veiled == (Tryz.f11.params.toList ++ Rows.brokerDeniedSpec.plain.varTypes Tryz.prog ++ Tryz.f11.resultTypes.toList).any (Tryz.prog.veiledRec ·))) = true:=by kernel_rfl
theorem q31 : (Rows.brokerDeniedRow.veiledFits Tryz.prog Tryz.f11.params.toList (Tryz.f11.params.toList ++ Rows.brokerDeniedSpec.plain.varTypes Tryz.prog ++ Tryz.f11.resultTypes.toList)) = true:=by kernel_rfl
theorem q_named : Tryz.prog.funcNamed Rows.brokerDeniedRow.func = some 11:=by kernel_rfl
theorem q_inst : Tryz.f11.isInstance Tryz.prog Rows.brokerDeniedRow.origin Rows.brokerDeniedRow.targs:=of_decide_eq_true (by kernel_rfl)
theorem q_wrap : Tryz.f11.isWrapper Tryz.prog Rows.brokerDeniedRow.wrapper Rows.brokerDeniedRow.mainSum:=by unfold Func.isWrapper; first | (rw [if_pos (by decide +kernel)]; kernel_rfl) | (rw [if_neg (by decide +kernel)]; exact ⟨rfl,rfl⟩)
set_option maxRecDepth 100000 in
theorem q_all : joinedFacts Tryz.prog 11 Tryz.f11 Rows.brokerDeniedSpec Rows.brokerDeniedRow = true:=joined_of (P:=Tryz.prog) (f:=11) (fn:=Tryz.f11) (s:=Rows.brokerDeniedSpec) (c:=Rows.brokerDeniedRow) q0 pq1 pq2 q3 q4 q5 pq6 q7 pq8 q9 q10 q11 q12 q13 q14 q15 q16 q17 q18 q19 q20 q21 q22 q23 pq24 pq25 q26 q27 q28 q29 q30 q31
theorem over : Rows.BrokerDeniedSaid:=
  OpenClaim.holds_of_wide 11 Tryz.f11 rfl rfl rfl rfl rfl rfl rfl ⟨rfl,rfl,rfl,rfl,rfl⟩ rfl rfl rfl rfl rfl q_named Tryz.func11 q_all q_inst q_wrap
    (fun os started H enc _=>lifted os started H enc)
theorem c_wf : Rows.brokerDeniedRow.wfByText (OpenSpec.ofChange Rows.brokerDeniedSpec) = true:=by kernel_rfl
theorem c_looks : true = Tryz.prog.looks []:=by kernel_rfl
theorem c_stand : ([3,3,4].all fun u=>!Tryz.prog.wantsStandIn u) = true:=by kernel_rfl
theorem c_goes : false = Rows.brokerDeniedRow.goesBy Tryz.prog:=by kernel_rfl
end Go.Proofs.YtjmdddhbdofppaaGreatDoor.brokerDenied
namespace Go.Proofs.YtjmdddhbdofppaaGreatDoor
theorem brokerDenied_holds : Rows.BrokerDeniedCardSaid:=
  Claim7.holds_tied_plain_at (c:=Rows.brokerDeniedRow) .later [] _ true _ true
    brokerDenied.over (fun _ h=>by cases h) brokerDenied.c_wf (fun _ h=>by cases h) brokerDenied_row_tie rfl ⟨rfl,rfl⟩ main_is rfl
    (fun f fn hf hfn=>by
      obtain rfl : f = 11:=Option.some.inj (brokerDenied.q_named.symm.trans hf) |>.symm
      obtain rfl : fn = Tryz.f11:=(Option.some.inj (Tryz.func11.symm.trans hfn)).symm
      exact ⟨brokerDenied.c_looks,fun j t ht=>by
        rw [Tryz.params11] at ht
        have hm : t∈[3,3,4]:=by simpa using Array.mem_of_getElem? ht
        exact (show Tryz.prog.wantsStandIn t = false by simpa using List.all_eq_true.1 brokerDenied.c_stand t hm)⟩)
    brokerDenied.c_goes
#print axioms brokerDenied_holds
end Go.Proofs.YtjmdddhbdofppaaGreatDoor
