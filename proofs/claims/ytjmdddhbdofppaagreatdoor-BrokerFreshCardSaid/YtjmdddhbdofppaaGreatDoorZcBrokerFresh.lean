/- BrokerFresh: for every input the law answers true, and its arguments read as before. Conditions: none. -/
import Derived.Test.YtjmdddhbdofppaaGreatDoorZc06
import Derived.Test.YtjmdddhbdofppaaGreatDoorZc07
import Derived.Test.YtjmdddhbdofppaaGreatDoorZc42
import Derived.Test.YtjmdddhbdofppaaGreatDoorZcInsm
import Derived.Test.YtjmdddhbdofppaaGreatDoorZcQj

namespace Go.Proofs.YtjmdddhbdofppaaGreatDoor.brokerFresh
open Go.ChangeShapes Go.WideShapes Go.ChangeAt Go.RowKit
open Fr Bk
noncomputable def fr1 (m : M) : Br:=bytesB (connectB (bnew cfd) 5) 5 (enc m)
theorem fr_con : connectE (bnew cfd) 5 = 0∧connectB (bnew cfd) 5 = Bk.lone (bnew cfd) 5 cnew:=by
  obtain ⟨h1,h2⟩:=connect_new (b:=bnew cfd) (k:=5) (by decide) (by decide) rfl
  have e : connectB (bnew cfd) 5 = Bk.lone (bnew cfd) 5 cnew:=h2
  exact ⟨h1,e⟩
theorem fr_good {m : M} (hm : m.ok = true) (hk : m.k = 1) (ha : m.a / 4 = 1) (hn : isName m.t = true) :
    bytesE (connectB (bnew cfd) 5) 5 = 0∧writeT (fr1 m) 5 5000 = encs [welcome 5 0 (roleOf m),mfloor 0]∧(writeB (fr1 m) 5 5000).fl.roles.length = 1:=by
  obtain ⟨e1,e2⟩:=lone_come (b:=bnew cfd) (k:=5) (m:=m) (by decide) (by decide) (by decide) rfl rfl rfl rfl hm hk ha hn
  have hro:=(come_roles cfd.lease (k:=5) (by decide) (roleOf m) (by unfold roleOf; split <;> simp)).1
  have hf : fr1 m = Bk.lone (setFl (bnew cfd) (fjoin (fnew cfd.lease) (5 : Nat) (roleOf m))) 5 (firstR 5 m.t (roleOf m)):=by
    unfold fr1
    rw [fr_con.2]
    exact e1
  have hlen : (firstR 5 m.t (roleOf m)).out.length≤5000:=by
    show (enc (welcome 5 0 (roleOf m)) ++ enc (mfloor 0)).length≤5000
    have h1:=welcome_len 5 0 (roleOf m)
    have h2:=floor_len 0
    rw [List.length_append]
    omega
  have hw:=write_all (b:=fr1 m) (k:=5) (c:=firstR 5 m.t (roleOf m)) (n:=5000) (by decide) (by decide) (by rw [hf]; exact lone_cs _ _ _) (by omega)
  refine ⟨by rw [fr_con.2]; exact e2,?_,?_⟩
  · refine hw.1.trans ?_
    show enc (welcome 5 0 (roleOf m)) ++ enc (mfloor 0) = _
    unfold encs
    simp
  · have h3 : writeB (fr1 m) 5 5000 = _:=hw.2.2
    rw [h3,hf,lone_setc]
    have hj:=(come_roles cfd.lease (k:=5) (by decide) (roleOf m) (by unfold roleOf; split <;> simp)).1
    have hto : fhold (fjoin (fnew cfd.lease) (5 : Nat) (roleOf m)) = 0:=by
      unfold fjoin
      split <;> rfl
    rw [settle_rest (lone_rest (by show fhold (fjoin _ _ _) = 0; exact hto) (by show 0 = 0; rfl) (by show (1 : Nat)≠2; decide))]
    show (fjoin (fnew cfd.lease) (5 : Nat) (roleOf m)).roles.length = 1
    rw [hj]
    rfl
theorem fr_bad {m : M} (hm : m.ok = true) (hb : m.k≠1∨m.a / 4≠1∨isName m.t = false) :
    bytesE (connectB (bnew cfd) 5) 5 = 0∧writeT (fr1 m) 5 5000 = encs [closed (whyFirst m)]∧writeB (fr1 m) 5 5000 = bare (bnew cfd):=by
  obtain ⟨e1,e2⟩:=lone_bad (b:=bnew cfd) (k:=5) (m:=m) (by decide) (by decide) (by decide) rfl hm hb
  have hf : fr1 m = Bk.lone (bnew cfd) 5 (goneC (whyFirst m)):=by
    unfold fr1
    rw [fr_con.2]
    exact e1
  obtain ⟨w1,_,w3⟩:=lone_gone (b:=bnew cfd) (k:=5) (c:=goneC (whyFirst m)) (n:=5000) (by decide) (by decide) (by
    have:=closed_len (whyFirst m)
    show ((enc (closed (whyFirst m))).length : Int)≤5000
    omega) rfl rfl
  refine ⟨by rw [fr_con.2]; exact e2,?_,by rw [hf]; exact w3⟩
  rw [hf]
  refine w1.trans ?_
  show enc (closed (whyFirst m)) = _
  unfold encs
  simp
theorem frBad_ok {m : M} : ∀ x∈[closed (whyFirst m)],x.ok = true:=by
  intro x hx
  rw [List.mem_singleton.1 hx]
  unfold whyFirst
  split
  · decide
  · split <;> decide
theorem frGood_ok (m : M) : ∀ x∈[welcome 5 0 (roleOf m),mfloor 0],x.ok = true:=by
  intro x hx
  simp only [List.mem_cons,List.not_mem_nil,or_false] at hx
  rcases hx with rfl | rfl
  · unfold roleOf; split <;> decide
  · decide
theorem frOut_ok {m : M} (hl : m.t.length≤300) : EvOk (connectB (bnew cfd) 5) 0 0 0∧EvOk (fr1 m) 0 3000 0:=by
  have h1 : EvOk (connectB (bnew cfd) 5) 0 0 0:=cfd_ok.connect 5
  refine ⟨h1,?_⟩
  have h2:=h1.bytes 5 (enc m)
  refine ⟨h2.ok,h2.cn,Nat.le_trans h2.tot ?_,h2.len,h2.sp⟩
  have:=Ms.nu_le m.k
  rw [enc_len5]
  omega
theorem at_of {t : Bs} {j : Nat} (h : j < t.length) : Lx.at_ t j = t[j]:=by unfold Lx.at_; rw [List.getElem?_eq_getElem h]; rfl
def badAt (t : Bs) (j : Nat) : Bool:=decide ((Lx.at_ t j).toNat < 33) || decide (126 < (Lx.at_ t j).toNat)
theorem name_all {t : Bs} (hne : t≠[]) (h : ∀ j,j < t.length→badAt t j = false) : isName t = true:=by
  unfold isName
  rw [Bool.and_eq_true]
  refine ⟨by cases t with | nil=>exact absurd rfl hne | cons _ _=>rfl,?_⟩
  rw [List.all_eq_true]
  intro c hc
  obtain ⟨j,hj,rfl⟩:=List.getElem_of_mem hc
  have:=h j hj
  unfold badAt at this
  rw [at_of hj] at this
  simp at this ⊢
  omega
theorem name_bad {t : Bs} {j : Nat} (hj : j < t.length) (h : badAt t j = true) : isName t = false:=by
  unfold isName
  rw [Bool.and_eq_false_iff]
  refine .inr ?_
  rw [List.all_eq_false]
  refine ⟨t[j],List.getElem_mem hj,?_⟩
  unfold badAt at h
  rw [at_of hj] at h
  simp at h ⊢
  omega
set_option maxRecDepth 100000 in
set_option maxHeartbeats 4000000 in
theorem walk (k_0 x0 y0 : Int) (t0 : Bs) (w : World) (w0 : (Lit.int .i64 k_0).wf = true∧(Lit.int .i64 x0).wf = true∧(Lit.int .i64 y0).wf = true∧t0.length≤maxLen) (ht : TI w) :
    Calls Tryz.prog 18 #[.agg #[.int .i64 k_0,.int .i64 x0,.int .i64 y0,.string (str t0)]] w fun e w'=>e = .returned (.bool true)∧Below w.heap.size w w':=by
  have HTI:=Lib.hid ht
  have HW0:=Lib.hid w0
  have hid5 : wf64 5:=by decide
  clear ht w0
  go_enter Tryz.func18,Tryz.ntmps18
  have hxm:=Bx.new w _ rfl #[.int .i64 k_0,.int .i64 x0,.int .i64 y0,.string (str t0)] 65
  have hba : Below w.heap.size w (w.alloc (.cells #[.int .i64 k_0,.int .i64 x0,.int .i64 y0,.string (str t0)] 65)):=(Below.refl _ _).alloc (Nat.le_refl _) _
  have hsz : w.heap.size < (w.alloc (.cells #[.int .i64 k_0,.int .i64 x0,.int .i64 y0,.string (str t0)] 65)).heap.size:=by simp
  go_wp2_with fail
  generalize w.alloc (.cells #[.int .i64 k_0,.int .i64 x0,.int .i64 y0,.string (str t0)] 65) = wa at *
  obtain ⟨gm,hgm⟩ : ∃ gm,w.heap.size = gm:=⟨_,rfl⟩
  rw [hgm] at hxm hba hsz
  have HG:=Lib.hid hgm
  have hTI:=HTI.out.below (hgm ▸ hba)
  rw [hgm]
  clear hgm
  refine (bhead_any wa hTI).mono ?_
  rintro e w1 ⟨rfl,hb1⟩
  have HX1:=Lib.hid (hxm.go hb1 hsz)
  have HB1:=Lib.hid (Below.trans hba (hb1.mono (Nat.le_of_lt hsz)))
  have HT1:=Lib.hid (hTI.below hb1)
  have HS1:=Lib.hid (Nat.lt_of_lt_of_le hsz hb1.size)
  have z0:=HX1.out.cell 0 (.int .i64 k_0) rfl
  have z1:=HX1.out.cell 1 (.int .i64 x0) rfl
  have z2:=HX1.out.cell 2 (.int .i64 y0) rfl
  have z3:=HX1.out.cell 3 (.string (str t0)) rfl
  clear hxm hba hb1 hTI hsz
  go_wp2_with fail
  refine (mright_any k_0 x0 y0 (str t0) w1).mono ?_
  rintro e w2 ⟨rfl,hb2⟩
  rw [str_size]
  have HX2:=Lib.hid (HX1.out.go hb2 HS1.out)
  have HB2:=Lib.hid (Below.trans HB1.out (hb2.mono (Nat.le_of_lt HS1.out)))
  have HT2:=Lib.hid (HT1.out.below hb2)
  have HS2:=Lib.hid (Nat.lt_of_lt_of_le HS1.out hb2.size)
  have z3:=HX2.out.cell 3 (.string (str t0)) rfl
  clear hb2 z0 z1 z2 HX1 HB1 HT1 HS1
  by_cases hok : Ms.rt k_0 x0 y0 t0.length = true
  rotate_left
  · have hok : Ms.rt k_0 x0 y0 t0.length = false:=by simpa using hok
    rw [hok]
    go_wp2
    go_ret
    exact ⟨rfl,by rw [HG.out]; exact HB2.out⟩
  rw [hok]
  have hbl:=str_size t0
  by_cases h300 : 300 < t0.length
  · have hd0 : decide (((str t0).size : Int) > 300) = true:=by simp [hbl]; omega
    have hd1 : decide (300 < ((str t0).size : Int)) = true:=by simp [hbl]; omega
    go_wp2
    go_ret
    exact ⟨rfl,by rw [HG.out]; exact HB2.out⟩
  have hd0 : decide (((str t0).size : Int) > 300) = false:=by simp [hbl]; omega
  have hd1 : decide (300 < ((str t0).size : Int)) = false:=by simp [hbl]; omega
  go_wp2_with fail
  refine (default_any _).mono ?_
  rintro e w3 ⟨rfl,hb3⟩
  have HX3:=Lib.hid (HX2.out.go hb3 HS2.out)
  have HB3:=Lib.hid (Below.trans HB2.out (hb3.mono (Nat.le_of_lt HS2.out)))
  have HT3:=Lib.hid (HT2.out.below hb3)
  have HS3:=Lib.hid (Nat.lt_of_lt_of_le HS2.out hb3.size)
  clear hb3 z3 HX2 HB2 HT2 HS2
  go_wp2_with fail
  refine (lb_new cfd_right w3 HT3.out).mono ?_
  rintro e w4 ⟨g,rfl,hl4,hb4⟩
  have HX4:=Lib.hid (HX3.out.go hb4 HS3.out)
  have HL4:=Lib.hid hl4
  have HB4:=Lib.hid (Below.trans HB3.out (hb4.mono (Nat.le_of_lt HS3.out)))
  have hn0:=HS3.out
  clear hl4 hb4 HX3 HB3 HT3 HS3
  generalize w3.heap.size = n0 at *
  have hn1 : gm≤n0:=Nat.le_of_lt hn0
  go_wp2_with fail
  refine (lb_connect HL4.out cfd_ok.ok 5 hid5).mono ?_
  rintro e w5 ⟨rfl,hl5,hb5⟩
  have HX5:=Lib.hid (HX4.out.go hb5 hn0)
  have HL5:=Lib.hid hl5
  have HB5:=Lib.hid (Below.trans HB4.out (hb5.mono hn1))
  have z0:=HX5.out.cell 0 (.int .i64 k_0) rfl
  have z1:=HX5.out.cell 1 (.int .i64 x0) rfl
  have z2:=HX5.out.cell 2 (.int .i64 y0) rfl
  have z3:=HX5.out.cell 3 (.string (str t0)) rfl
  clear hl5 hb5 HX4 HL4 HB4
  obtain ⟨m,hm⟩ : ∃ m : M,(⟨k_0,x0,y0,t0⟩ : M) = m:=⟨_,rfl⟩
  have m1 : m.k = k_0:=by rw [← hm]
  have m2 : m.a = x0:=by rw [← hm]
  have m4 : m.t = t0:=by rw [← hm]
  have hmo : m.ok = true:=by rw [← hm]; exact hok
  have HEV:=Lib.hid (frOut_ok (m:=m) (by rw [m4]; omega))
  have HP:=Lib.hid (show Calls Tryz.prog 44 #[.slice none 0 0,.agg #[.int .i64 k_0,.int .i64 x0,.int .i64 y0,.string (str t0)]] w5 (NewBytes w5 (enc m)) by rw [← hm]; exact put_new ⟨k_0,x0,y0,t0⟩ hok w5)
  have hel : (enc m).length≤1000000:=by
    have:=Ms.nu_le m.k
    rw [enc_len5,m4]
    omega
  have he0 : bytesE (connectB (bnew cfd) 5) 5 = 0:=by
    by_cases hg : m.k = 1∧m.a / 4 = 1∧isName m.t = true
    · exact (fr_good hmo hg.1 hg.2.1 hg.2.2).1
    · refine (fr_bad hmo ?_).1
      by_cases h1 : m.k = 1
      · by_cases h2 : m.a / 4 = 1
        · exact .inr (.inr (by simpa using fun h3=>hg ⟨h1,h2,h3⟩))
        · exact .inr (.inl h2)
      · exact .inl h1
  clear hm hok
  go_wp2_with fail
  refine HP.out.mono ?_
  rintro e w6 ⟨A6,c6,rfl,hy6,hn6,_,hb6⟩
  have HW6:=Lib.hid (LAway.made (n:=(enc m).length) HL5.out hb6 hn6)
  have HY6:=Lib.hid hy6
  have HX6:=Lib.hid (HX5.out.go hb6 (Nat.lt_of_lt_of_le hn0 HL5.out.le))
  have HB6:=Lib.hid (Below.trans HB5.out (hb6.mono (by rw [← HG.out]; exact HB5.out.size)))
  clear hy6 hn6 hb6 HX5 HL5 HB5 HP z0 z1 z2 z3
  go_wp2_with fail
  refine (lb_bytes HW6.out HEV.out.1 (by decide) 5 hid5 c6 HY6.out hel).mono ?_
  rintro e w7 ⟨rfl,hl7,hb7⟩
  rw [he0]
  have HX7:=Lib.hid (HX6.out.go hb7 hn0)
  have HL7:=Lib.hid (show LBx n0 g w7 (fr1 m) from hl7)
  have HB7:=Lib.hid (Below.trans HB6.out (hb7.mono hn1))
  have z0:=HX7.out.cell 0 (.int .i64 k_0) rfl
  have z1:=HX7.out.cell 1 (.int .i64 x0) rfl
  have z3:=HX7.out.cell 3 (.string (str t0)) rfl
  clear hl7 hb7 HW6 HY6 HX6 HB6 he0 hel
  by_cases hz : t0.length = 0
  · have ht0 : t0 = []:=List.eq_nil_of_length_eq_zero hz
    have dz0 : decide ((0 : Int) < (t0.length : Int)) = false:=by simp; omega
    by_cases hk : k_0 = 1
    rotate_left
    · have dk : (k_0 != 1) = true:=by simpa using hk
      have hbad : m.k≠1∨m.a / 4≠1∨isName m.t = false:=.inl (by rw [m1]; exact hk)
      have hwhy : whyFirst m = 4:=by unfold whyFirst; rw [if_pos (by rw [m1]; exact hk)]
      skip
      go_wp2
      go_loopw [4,5] (fun s4 s5 wr=>s4 = .int .i64 4∧s5 = .int .i64 0∧wr = w7) (fun _ _ _=>0)
      case atStart=>exact ⟨rfl,rfl,rfl⟩
      case round =>
        obtain ⟨rfl,rfl,rfl⟩:=hrel
        have HQ:=Lib.hid (fr_bad hmo hbad)
        rw [hwhy] at HQ
        have HWr:=Lib.hid (lb_write HL7.out HEV.out.2.ok 5 5000 hid5)
        go_wp2_with fail
        refine HWr.out.mono ?_
        rintro e w8 ⟨A8,m8,c8,rfl,hl8,hb8,hy8,hc8,hn8⟩
        rw [HQ.out.2.1] at hy8
        rw [HQ.out.2.2] at hl8
        have HE8:=Lib.hid (show EvOk (bare (bnew cfd)) 0 3000 0 by rw [← HQ.out.2.2]; exact HEV.out.2.write 5 5000)
        have HL8:=Lib.hid hl8
        have HB8:=Lib.hid (Below.trans HB7.out (hb8.mono hn1))
        have hm8 : m8≤1000000000:=by
          have:=hy8.1
          rw [encs_one,closed_len] at this
          omega
        have HMs:=Lib.hid (lmessages_any [closed 4] (fun x hx=>by rw [List.mem_singleton.1 hx]; decide) w8 hy8 (Nat.le_refl _) hc8 hm8)
        clear hl8 hb8 hy8 hc8 hn8 hm8 HWr HQ
        go_wp2_with fail
        refine HMs.out.mono ?_
        rintro e w9 ⟨R,rc,rfl,hrow,hb9⟩
        have HL9:=Lib.hid (HL8.out.ls (S:=fun x=>∃ p,R = some p∧p.block = x) hb9 (fun x ⟨p,hp,e⟩=>by subst e; exact hrow.lt hp))
        have HB9:=Lib.hid (Below.trans HB8.out (hb9.mono (by rw [← HG.out]; exact HB8.out.size)))
        have HRow:=Lib.hid hrow
        clear hrow hb9 HMs
        rw [show [closed 4].length = 1 from rfl]
        obtain ⟨rb,off,rfl,_,hcell⟩:=HRow.out.msin.outer (by decide)
        obtain ⟨y0',y1',y2',y3'⟩:=msg_cells (hcell 0 ⟨13,4,0,[]⟩ rfl) (o:=off) (by omega)
        dsimp only at y0' y1' y2'
        rw [show str (⟨13,4,0,[]⟩ : M).t = ⟨#[]⟩ from rfl] at y3'
        clear hcell
        have HUs:=Lib.hid (ls_users HL9.out HE8.out.ok)
        go_wp2_with fail
        refine HUs.out.mono ?_
        rintro e w10 ⟨a10,n10,c10,rfl,hl10,ho10,hn10⟩
        obtain rfl : n10 = 0:=by rw [hn10]; rfl
        have HL10:=Lib.hid hl10.lbx
        have HB10:=Lib.hid (Below.trans HB9.out (ho10.below (by rw [← HG.out]; exact HB9.out.size) fun x hx hn=>by omega))
        have HRow10:=Lib.hid (HRow.out.only ho10 (fun p hp hn=>hn.2 ⟨p,hp,rfl⟩))
        clear hl10 ho10 hn10 HUs
        have HCs:=Lib.hid (lb_conns HL10.out)
        go_wp2_with fail
        refine HCs.out.mono ?_
        rintro e w11 ⟨a11,n11,c11,rfl,_,hb11,hn11,_,_⟩
        obtain rfl : n11 = 0:=by rw [hn11]; rfl
        have HB11:=Lib.hid (Below.trans HB10.out (hb11.mono (by rw [← HG.out]; exact HB10.out.size)))
        clear hn11 hb11 HCs
        go_wp2
        exact bodyPost_ret (v:=.bool true) (by simp [results,Tryz.results18,go_sem]) rfl ⟨rfl,by rw [HG.out]; exact HB11.out⟩
    have dk : (k_0 != 1) = false:=by simpa using hk
    by_cases ha4 : x0 < 4
    · have da : decide (x0 < 4) = true:=by simpa using ha4
      have hbad : m.k≠1∨m.a / 4≠1∨isName m.t = false:=.inr (.inl (by rw [m2]; omega))
      have hwhy : whyFirst m = 2:=by unfold whyFirst; rw [if_neg (by rw [m1]; omega),if_pos (by rw [m2]; omega)]
      skip
      go_wp2
      go_loopw [4,5] (fun s4 s5 wr=>s4 = .int .i64 2∧s5 = .int .i64 0∧wr = w7) (fun _ _ _=>0)
      case atStart=>exact ⟨rfl,rfl,rfl⟩
      case round =>
        obtain ⟨rfl,rfl,rfl⟩:=hrel
        have HQ:=Lib.hid (fr_bad hmo hbad)
        rw [hwhy] at HQ
        have HWr:=Lib.hid (lb_write HL7.out HEV.out.2.ok 5 5000 hid5)
        go_wp2_with fail
        refine HWr.out.mono ?_
        rintro e w8 ⟨A8,m8,c8,rfl,hl8,hb8,hy8,hc8,hn8⟩
        rw [HQ.out.2.1] at hy8
        rw [HQ.out.2.2] at hl8
        have HE8:=Lib.hid (show EvOk (bare (bnew cfd)) 0 3000 0 by rw [← HQ.out.2.2]; exact HEV.out.2.write 5 5000)
        have HL8:=Lib.hid hl8
        have HB8:=Lib.hid (Below.trans HB7.out (hb8.mono hn1))
        have hm8 : m8≤1000000000:=by
          have:=hy8.1
          rw [encs_one,closed_len] at this
          omega
        have HMs:=Lib.hid (lmessages_any [closed 2] (fun x hx=>by rw [List.mem_singleton.1 hx]; decide) w8 hy8 (Nat.le_refl _) hc8 hm8)
        clear hl8 hb8 hy8 hc8 hn8 hm8 HWr HQ
        go_wp2_with fail
        refine HMs.out.mono ?_
        rintro e w9 ⟨R,rc,rfl,hrow,hb9⟩
        have HL9:=Lib.hid (HL8.out.ls (S:=fun x=>∃ p,R = some p∧p.block = x) hb9 (fun x ⟨p,hp,e⟩=>by subst e; exact hrow.lt hp))
        have HB9:=Lib.hid (Below.trans HB8.out (hb9.mono (by rw [← HG.out]; exact HB8.out.size)))
        have HRow:=Lib.hid hrow
        clear hrow hb9 HMs
        rw [show [closed 2].length = 1 from rfl]
        obtain ⟨rb,off,rfl,_,hcell⟩:=HRow.out.msin.outer (by decide)
        obtain ⟨y0',y1',y2',y3'⟩:=msg_cells (hcell 0 ⟨13,2,0,[]⟩ rfl) (o:=off) (by omega)
        dsimp only at y0' y1' y2'
        rw [show str (⟨13,2,0,[]⟩ : M).t = ⟨#[]⟩ from rfl] at y3'
        clear hcell
        have HUs:=Lib.hid (ls_users HL9.out HE8.out.ok)
        go_wp2_with fail
        refine HUs.out.mono ?_
        rintro e w10 ⟨a10,n10,c10,rfl,hl10,ho10,hn10⟩
        obtain rfl : n10 = 0:=by rw [hn10]; rfl
        have HL10:=Lib.hid hl10.lbx
        have HB10:=Lib.hid (Below.trans HB9.out (ho10.below (by rw [← HG.out]; exact HB9.out.size) fun x hx hn=>by omega))
        have HRow10:=Lib.hid (HRow.out.only ho10 (fun p hp hn=>hn.2 ⟨p,hp,rfl⟩))
        clear hl10 ho10 hn10 HUs
        have HCs:=Lib.hid (lb_conns HL10.out)
        go_wp2_with fail
        refine HCs.out.mono ?_
        rintro e w11 ⟨a11,n11,c11,rfl,_,hb11,hn11,_,_⟩
        obtain rfl : n11 = 0:=by rw [hn11]; rfl
        have HB11:=Lib.hid (Below.trans HB10.out (hb11.mono (by rw [← HG.out]; exact HB10.out.size)))
        clear hn11 hb11 HCs
        go_wp2
        exact bodyPost_ret (v:=.bool true) (by simp [results,Tryz.results18,go_sem]) rfl ⟨rfl,by rw [HG.out]; exact HB11.out⟩
    have da : decide (x0 < 4) = false:=by simpa using ha4
    by_cases ha7 : x0 > 7
    · have db : decide (x0 > 7) = true:=by simpa using ha7
      have db2 : decide (7 < x0) = true:=by simpa using ha7
      have hbad : m.k≠1∨m.a / 4≠1∨isName m.t = false:=.inr (.inl (by rw [m2]; omega))
      have hwhy : whyFirst m = 2:=by unfold whyFirst; rw [if_neg (by rw [m1]; omega),if_pos (by rw [m2]; omega)]
      skip
      go_wp2
      go_loopw [4,5] (fun s4 s5 wr=>s4 = .int .i64 2∧s5 = .int .i64 0∧wr = w7) (fun _ _ _=>0)
      case atStart=>exact ⟨rfl,rfl,rfl⟩
      case round =>
        obtain ⟨rfl,rfl,rfl⟩:=hrel
        have HQ:=Lib.hid (fr_bad hmo hbad)
        rw [hwhy] at HQ
        have HWr:=Lib.hid (lb_write HL7.out HEV.out.2.ok 5 5000 hid5)
        go_wp2_with fail
        refine HWr.out.mono ?_
        rintro e w8 ⟨A8,m8,c8,rfl,hl8,hb8,hy8,hc8,hn8⟩
        rw [HQ.out.2.1] at hy8
        rw [HQ.out.2.2] at hl8
        have HE8:=Lib.hid (show EvOk (bare (bnew cfd)) 0 3000 0 by rw [← HQ.out.2.2]; exact HEV.out.2.write 5 5000)
        have HL8:=Lib.hid hl8
        have HB8:=Lib.hid (Below.trans HB7.out (hb8.mono hn1))
        have hm8 : m8≤1000000000:=by
          have:=hy8.1
          rw [encs_one,closed_len] at this
          omega
        have HMs:=Lib.hid (lmessages_any [closed 2] (fun x hx=>by rw [List.mem_singleton.1 hx]; decide) w8 hy8 (Nat.le_refl _) hc8 hm8)
        clear hl8 hb8 hy8 hc8 hn8 hm8 HWr HQ
        go_wp2_with fail
        refine HMs.out.mono ?_
        rintro e w9 ⟨R,rc,rfl,hrow,hb9⟩
        have HL9:=Lib.hid (HL8.out.ls (S:=fun x=>∃ p,R = some p∧p.block = x) hb9 (fun x ⟨p,hp,e⟩=>by subst e; exact hrow.lt hp))
        have HB9:=Lib.hid (Below.trans HB8.out (hb9.mono (by rw [← HG.out]; exact HB8.out.size)))
        have HRow:=Lib.hid hrow
        clear hrow hb9 HMs
        rw [show [closed 2].length = 1 from rfl]
        obtain ⟨rb,off,rfl,_,hcell⟩:=HRow.out.msin.outer (by decide)
        obtain ⟨y0',y1',y2',y3'⟩:=msg_cells (hcell 0 ⟨13,2,0,[]⟩ rfl) (o:=off) (by omega)
        dsimp only at y0' y1' y2'
        rw [show str (⟨13,2,0,[]⟩ : M).t = ⟨#[]⟩ from rfl] at y3'
        clear hcell
        have HUs:=Lib.hid (ls_users HL9.out HE8.out.ok)
        go_wp2_with fail
        refine HUs.out.mono ?_
        rintro e w10 ⟨a10,n10,c10,rfl,hl10,ho10,hn10⟩
        obtain rfl : n10 = 0:=by rw [hn10]; rfl
        have HL10:=Lib.hid hl10.lbx
        have HB10:=Lib.hid (Below.trans HB9.out (ho10.below (by rw [← HG.out]; exact HB9.out.size) fun x hx hn=>by omega))
        have HRow10:=Lib.hid (HRow.out.only ho10 (fun p hp hn=>hn.2 ⟨p,hp,rfl⟩))
        clear hl10 ho10 hn10 HUs
        have HCs:=Lib.hid (lb_conns HL10.out)
        go_wp2_with fail
        refine HCs.out.mono ?_
        rintro e w11 ⟨a11,n11,c11,rfl,_,hb11,hn11,_,_⟩
        obtain rfl : n11 = 0:=by rw [hn11]; rfl
        have HB11:=Lib.hid (Below.trans HB10.out (hb11.mono (by rw [← HG.out]; exact HB10.out.size)))
        clear hn11 hb11 HCs
        go_wp2
        exact bodyPost_ret (v:=.bool true) (by simp [results,Tryz.results18,go_sem]) rfl ⟨rfl,by rw [HG.out]; exact HB11.out⟩
    have db : decide (x0 > 7) = false:=by simpa using ha7
    have db2 : decide (7 < x0) = false:=by simpa using ha7
    have hq4 : m.a / 4 = 1:=by rw [m2]; omega
    have hbad : m.k≠1∨m.a / 4≠1∨isName m.t = false:=.inr (.inr (by rw [m4,ht0]; rfl))
    have hwhy : whyFirst m = 3:=by unfold whyFirst; rw [if_neg (by rw [m1]; omega),if_neg (by rw [hq4]; decide)]
    subst ht0
    have ds : (str ([] : Bs)).toList.isEmpty = true:=by rw [str_empty]; rfl
    skip
    go_wp2
    go_loopw [4,5] (fun s4 s5 wr=>s4 = .int .i64 3∧s5 = .int .i64 0∧wr = w7) (fun _ _ _=>0)
    case atStart=>exact ⟨rfl,rfl,rfl⟩
    case round =>
      obtain ⟨rfl,rfl,rfl⟩:=hrel
      have HQ:=Lib.hid (fr_bad hmo hbad)
      rw [hwhy] at HQ
      have HWr:=Lib.hid (lb_write HL7.out HEV.out.2.ok 5 5000 hid5)
      go_wp2_with fail
      refine HWr.out.mono ?_
      rintro e w8 ⟨A8,m8,c8,rfl,hl8,hb8,hy8,hc8,hn8⟩
      rw [HQ.out.2.1] at hy8
      rw [HQ.out.2.2] at hl8
      have HE8:=Lib.hid (show EvOk (bare (bnew cfd)) 0 3000 0 by rw [← HQ.out.2.2]; exact HEV.out.2.write 5 5000)
      have HL8:=Lib.hid hl8
      have HB8:=Lib.hid (Below.trans HB7.out (hb8.mono hn1))
      have hm8 : m8≤1000000000:=by
        have:=hy8.1
        rw [encs_one,closed_len] at this
        omega
      have HMs:=Lib.hid (lmessages_any [closed 3] (fun x hx=>by rw [List.mem_singleton.1 hx]; decide) w8 hy8 (Nat.le_refl _) hc8 hm8)
      clear hl8 hb8 hy8 hc8 hn8 hm8 HWr HQ
      go_wp2_with fail
      refine HMs.out.mono ?_
      rintro e w9 ⟨R,rc,rfl,hrow,hb9⟩
      have HL9:=Lib.hid (HL8.out.ls (S:=fun x=>∃ p,R = some p∧p.block = x) hb9 (fun x ⟨p,hp,e⟩=>by subst e; exact hrow.lt hp))
      have HB9:=Lib.hid (Below.trans HB8.out (hb9.mono (by rw [← HG.out]; exact HB8.out.size)))
      have HRow:=Lib.hid hrow
      clear hrow hb9 HMs
      rw [show [closed 3].length = 1 from rfl]
      obtain ⟨rb,off,rfl,_,hcell⟩:=HRow.out.msin.outer (by decide)
      obtain ⟨y0',y1',y2',y3'⟩:=msg_cells (hcell 0 ⟨13,3,0,[]⟩ rfl) (o:=off) (by omega)
      dsimp only at y0' y1' y2'
      rw [show str (⟨13,3,0,[]⟩ : M).t = ⟨#[]⟩ from rfl] at y3'
      clear hcell
      have HUs:=Lib.hid (ls_users HL9.out HE8.out.ok)
      go_wp2_with fail
      refine HUs.out.mono ?_
      rintro e w10 ⟨a10,n10,c10,rfl,hl10,ho10,hn10⟩
      obtain rfl : n10 = 0:=by rw [hn10]; rfl
      have HL10:=Lib.hid hl10.lbx
      have HB10:=Lib.hid (Below.trans HB9.out (ho10.below (by rw [← HG.out]; exact HB9.out.size) fun x hx hn=>by omega))
      have HRow10:=Lib.hid (HRow.out.only ho10 (fun p hp hn=>hn.2 ⟨p,hp,rfl⟩))
      clear hl10 ho10 hn10 HUs
      have HCs:=Lib.hid (lb_conns HL10.out)
      go_wp2_with fail
      refine HCs.out.mono ?_
      rintro e w11 ⟨a11,n11,c11,rfl,_,hb11,hn11,_,_⟩
      obtain rfl : n11 = 0:=by rw [hn11]; rfl
      have HB11:=Lib.hid (Below.trans HB10.out (hb11.mono (by rw [← HG.out]; exact HB10.out.size)))
      clear hn11 hb11 HCs
      go_wp2
      exact bodyPost_ret (v:=.bool true) (by simp [results,Tryz.results18,go_sem]) rfl ⟨rfl,by rw [HG.out]; exact HB11.out⟩
  · have hzp : 0 < t0.length:=by omega
    have dz0 : decide ((0 : Int) < (t0.length : Int)) = true:=by simp; omega
    by_cases hk : k_0 = 1
    rotate_left
    · have dk : (k_0 != 1) = true:=by simpa using hk
      have hbad : m.k≠1∨m.a / 4≠1∨isName m.t = false:=.inl (by rw [m1]; exact hk)
      have hwhy : whyFirst m = 4:=by unfold whyFirst; rw [if_pos (by rw [m1]; exact hk)]
      skip
      go_wp2
      go_loopw [4,5] (fun s4 s5 wr=>s4 = .int .i64 4∧s5 = .int .i64 0∧wr = w7) (fun _ _ _=>0)
      case atStart=>exact ⟨rfl,rfl,rfl⟩
      case round =>
        obtain ⟨rfl,rfl,rfl⟩:=hrel
        have HQ:=Lib.hid (fr_bad hmo hbad)
        rw [hwhy] at HQ
        have HWr:=Lib.hid (lb_write HL7.out HEV.out.2.ok 5 5000 hid5)
        go_wp2_with fail
        refine HWr.out.mono ?_
        rintro e w8 ⟨A8,m8,c8,rfl,hl8,hb8,hy8,hc8,hn8⟩
        rw [HQ.out.2.1] at hy8
        rw [HQ.out.2.2] at hl8
        have HE8:=Lib.hid (show EvOk (bare (bnew cfd)) 0 3000 0 by rw [← HQ.out.2.2]; exact HEV.out.2.write 5 5000)
        have HL8:=Lib.hid hl8
        have HB8:=Lib.hid (Below.trans HB7.out (hb8.mono hn1))
        have hm8 : m8≤1000000000:=by
          have:=hy8.1
          rw [encs_one,closed_len] at this
          omega
        have HMs:=Lib.hid (lmessages_any [closed 4] (fun x hx=>by rw [List.mem_singleton.1 hx]; decide) w8 hy8 (Nat.le_refl _) hc8 hm8)
        clear hl8 hb8 hy8 hc8 hn8 hm8 HWr HQ
        go_wp2_with fail
        refine HMs.out.mono ?_
        rintro e w9 ⟨R,rc,rfl,hrow,hb9⟩
        have HL9:=Lib.hid (HL8.out.ls (S:=fun x=>∃ p,R = some p∧p.block = x) hb9 (fun x ⟨p,hp,e⟩=>by subst e; exact hrow.lt hp))
        have HB9:=Lib.hid (Below.trans HB8.out (hb9.mono (by rw [← HG.out]; exact HB8.out.size)))
        have HRow:=Lib.hid hrow
        clear hrow hb9 HMs
        rw [show [closed 4].length = 1 from rfl]
        obtain ⟨rb,off,rfl,_,hcell⟩:=HRow.out.msin.outer (by decide)
        obtain ⟨y0',y1',y2',y3'⟩:=msg_cells (hcell 0 ⟨13,4,0,[]⟩ rfl) (o:=off) (by omega)
        dsimp only at y0' y1' y2'
        rw [show str (⟨13,4,0,[]⟩ : M).t = ⟨#[]⟩ from rfl] at y3'
        clear hcell
        have HUs:=Lib.hid (ls_users HL9.out HE8.out.ok)
        go_wp2_with fail
        refine HUs.out.mono ?_
        rintro e w10 ⟨a10,n10,c10,rfl,hl10,ho10,hn10⟩
        obtain rfl : n10 = 0:=by rw [hn10]; rfl
        have HL10:=Lib.hid hl10.lbx
        have HB10:=Lib.hid (Below.trans HB9.out (ho10.below (by rw [← HG.out]; exact HB9.out.size) fun x hx hn=>by omega))
        have HRow10:=Lib.hid (HRow.out.only ho10 (fun p hp hn=>hn.2 ⟨p,hp,rfl⟩))
        clear hl10 ho10 hn10 HUs
        have HCs:=Lib.hid (lb_conns HL10.out)
        go_wp2_with fail
        refine HCs.out.mono ?_
        rintro e w11 ⟨a11,n11,c11,rfl,_,hb11,hn11,_,_⟩
        obtain rfl : n11 = 0:=by rw [hn11]; rfl
        have HB11:=Lib.hid (Below.trans HB10.out (hb11.mono (by rw [← HG.out]; exact HB10.out.size)))
        clear hn11 hb11 HCs
        go_wp2
        exact bodyPost_ret (v:=.bool true) (by simp [results,Tryz.results18,go_sem]) rfl ⟨rfl,by rw [HG.out]; exact HB11.out⟩
    have dk : (k_0 != 1) = false:=by simpa using hk
    by_cases ha4 : x0 < 4
    · have da : decide (x0 < 4) = true:=by simpa using ha4
      have hbad : m.k≠1∨m.a / 4≠1∨isName m.t = false:=.inr (.inl (by rw [m2]; omega))
      have hwhy : whyFirst m = 2:=by unfold whyFirst; rw [if_neg (by rw [m1]; omega),if_pos (by rw [m2]; omega)]
      skip
      go_wp2
      go_loopw [4,5] (fun s4 s5 wr=>s4 = .int .i64 2∧s5 = .int .i64 0∧wr = w7) (fun _ _ _=>0)
      case atStart=>exact ⟨rfl,rfl,rfl⟩
      case round =>
        obtain ⟨rfl,rfl,rfl⟩:=hrel
        have HQ:=Lib.hid (fr_bad hmo hbad)
        rw [hwhy] at HQ
        have HWr:=Lib.hid (lb_write HL7.out HEV.out.2.ok 5 5000 hid5)
        go_wp2_with fail
        refine HWr.out.mono ?_
        rintro e w8 ⟨A8,m8,c8,rfl,hl8,hb8,hy8,hc8,hn8⟩
        rw [HQ.out.2.1] at hy8
        rw [HQ.out.2.2] at hl8
        have HE8:=Lib.hid (show EvOk (bare (bnew cfd)) 0 3000 0 by rw [← HQ.out.2.2]; exact HEV.out.2.write 5 5000)
        have HL8:=Lib.hid hl8
        have HB8:=Lib.hid (Below.trans HB7.out (hb8.mono hn1))
        have hm8 : m8≤1000000000:=by
          have:=hy8.1
          rw [encs_one,closed_len] at this
          omega
        have HMs:=Lib.hid (lmessages_any [closed 2] (fun x hx=>by rw [List.mem_singleton.1 hx]; decide) w8 hy8 (Nat.le_refl _) hc8 hm8)
        clear hl8 hb8 hy8 hc8 hn8 hm8 HWr HQ
        go_wp2_with fail
        refine HMs.out.mono ?_
        rintro e w9 ⟨R,rc,rfl,hrow,hb9⟩
        have HL9:=Lib.hid (HL8.out.ls (S:=fun x=>∃ p,R = some p∧p.block = x) hb9 (fun x ⟨p,hp,e⟩=>by subst e; exact hrow.lt hp))
        have HB9:=Lib.hid (Below.trans HB8.out (hb9.mono (by rw [← HG.out]; exact HB8.out.size)))
        have HRow:=Lib.hid hrow
        clear hrow hb9 HMs
        rw [show [closed 2].length = 1 from rfl]
        obtain ⟨rb,off,rfl,_,hcell⟩:=HRow.out.msin.outer (by decide)
        obtain ⟨y0',y1',y2',y3'⟩:=msg_cells (hcell 0 ⟨13,2,0,[]⟩ rfl) (o:=off) (by omega)
        dsimp only at y0' y1' y2'
        rw [show str (⟨13,2,0,[]⟩ : M).t = ⟨#[]⟩ from rfl] at y3'
        clear hcell
        have HUs:=Lib.hid (ls_users HL9.out HE8.out.ok)
        go_wp2_with fail
        refine HUs.out.mono ?_
        rintro e w10 ⟨a10,n10,c10,rfl,hl10,ho10,hn10⟩
        obtain rfl : n10 = 0:=by rw [hn10]; rfl
        have HL10:=Lib.hid hl10.lbx
        have HB10:=Lib.hid (Below.trans HB9.out (ho10.below (by rw [← HG.out]; exact HB9.out.size) fun x hx hn=>by omega))
        have HRow10:=Lib.hid (HRow.out.only ho10 (fun p hp hn=>hn.2 ⟨p,hp,rfl⟩))
        clear hl10 ho10 hn10 HUs
        have HCs:=Lib.hid (lb_conns HL10.out)
        go_wp2_with fail
        refine HCs.out.mono ?_
        rintro e w11 ⟨a11,n11,c11,rfl,_,hb11,hn11,_,_⟩
        obtain rfl : n11 = 0:=by rw [hn11]; rfl
        have HB11:=Lib.hid (Below.trans HB10.out (hb11.mono (by rw [← HG.out]; exact HB10.out.size)))
        clear hn11 hb11 HCs
        go_wp2
        exact bodyPost_ret (v:=.bool true) (by simp [results,Tryz.results18,go_sem]) rfl ⟨rfl,by rw [HG.out]; exact HB11.out⟩
    have da : decide (x0 < 4) = false:=by simpa using ha4
    by_cases ha7 : x0 > 7
    · have db : decide (x0 > 7) = true:=by simpa using ha7
      have db2 : decide (7 < x0) = true:=by simpa using ha7
      have hbad : m.k≠1∨m.a / 4≠1∨isName m.t = false:=.inr (.inl (by rw [m2]; omega))
      have hwhy : whyFirst m = 2:=by unfold whyFirst; rw [if_neg (by rw [m1]; omega),if_pos (by rw [m2]; omega)]
      skip
      go_wp2
      go_loopw [4,5] (fun s4 s5 wr=>s4 = .int .i64 2∧s5 = .int .i64 0∧wr = w7) (fun _ _ _=>0)
      case atStart=>exact ⟨rfl,rfl,rfl⟩
      case round =>
        obtain ⟨rfl,rfl,rfl⟩:=hrel
        have HQ:=Lib.hid (fr_bad hmo hbad)
        rw [hwhy] at HQ
        have HWr:=Lib.hid (lb_write HL7.out HEV.out.2.ok 5 5000 hid5)
        go_wp2_with fail
        refine HWr.out.mono ?_
        rintro e w8 ⟨A8,m8,c8,rfl,hl8,hb8,hy8,hc8,hn8⟩
        rw [HQ.out.2.1] at hy8
        rw [HQ.out.2.2] at hl8
        have HE8:=Lib.hid (show EvOk (bare (bnew cfd)) 0 3000 0 by rw [← HQ.out.2.2]; exact HEV.out.2.write 5 5000)
        have HL8:=Lib.hid hl8
        have HB8:=Lib.hid (Below.trans HB7.out (hb8.mono hn1))
        have hm8 : m8≤1000000000:=by
          have:=hy8.1
          rw [encs_one,closed_len] at this
          omega
        have HMs:=Lib.hid (lmessages_any [closed 2] (fun x hx=>by rw [List.mem_singleton.1 hx]; decide) w8 hy8 (Nat.le_refl _) hc8 hm8)
        clear hl8 hb8 hy8 hc8 hn8 hm8 HWr HQ
        go_wp2_with fail
        refine HMs.out.mono ?_
        rintro e w9 ⟨R,rc,rfl,hrow,hb9⟩
        have HL9:=Lib.hid (HL8.out.ls (S:=fun x=>∃ p,R = some p∧p.block = x) hb9 (fun x ⟨p,hp,e⟩=>by subst e; exact hrow.lt hp))
        have HB9:=Lib.hid (Below.trans HB8.out (hb9.mono (by rw [← HG.out]; exact HB8.out.size)))
        have HRow:=Lib.hid hrow
        clear hrow hb9 HMs
        rw [show [closed 2].length = 1 from rfl]
        obtain ⟨rb,off,rfl,_,hcell⟩:=HRow.out.msin.outer (by decide)
        obtain ⟨y0',y1',y2',y3'⟩:=msg_cells (hcell 0 ⟨13,2,0,[]⟩ rfl) (o:=off) (by omega)
        dsimp only at y0' y1' y2'
        rw [show str (⟨13,2,0,[]⟩ : M).t = ⟨#[]⟩ from rfl] at y3'
        clear hcell
        have HUs:=Lib.hid (ls_users HL9.out HE8.out.ok)
        go_wp2_with fail
        refine HUs.out.mono ?_
        rintro e w10 ⟨a10,n10,c10,rfl,hl10,ho10,hn10⟩
        obtain rfl : n10 = 0:=by rw [hn10]; rfl
        have HL10:=Lib.hid hl10.lbx
        have HB10:=Lib.hid (Below.trans HB9.out (ho10.below (by rw [← HG.out]; exact HB9.out.size) fun x hx hn=>by omega))
        have HRow10:=Lib.hid (HRow.out.only ho10 (fun p hp hn=>hn.2 ⟨p,hp,rfl⟩))
        clear hl10 ho10 hn10 HUs
        have HCs:=Lib.hid (lb_conns HL10.out)
        go_wp2_with fail
        refine HCs.out.mono ?_
        rintro e w11 ⟨a11,n11,c11,rfl,_,hb11,hn11,_,_⟩
        obtain rfl : n11 = 0:=by rw [hn11]; rfl
        have HB11:=Lib.hid (Below.trans HB10.out (hb11.mono (by rw [← HG.out]; exact HB10.out.size)))
        clear hn11 hb11 HCs
        go_wp2
        exact bodyPost_ret (v:=.bool true) (by simp [results,Tryz.results18,go_sem]) rfl ⟨rfl,by rw [HG.out]; exact HB11.out⟩
    have db : decide (x0 > 7) = false:=by simpa using ha7
    have db2 : decide (7 < x0) = false:=by simpa using ha7
    have hq4 : m.a / 4 = 1:=by rw [m2]; omega
    have hne : t0≠[]:=fun e=>by rw [e] at hzp; exact absurd hzp (by decide)
    have ds : (str t0).toList.isEmpty = false:=by rw [str_empty]; cases t0 with | nil=>exact absurd rfl hne | cons _ _=>rfl
    go_wp2
    go_loopw [4,5] (fun s4 s5 wr=>wr = w7∧∃ j : Nat,s5 = .int .i64 (j : Nat)∧j≤t0.length∧((s4 = .int .i64 (-1)∧∀ i,i < j→badAt t0 i = false)∨(s4 = .int .i64 3∧isName t0 = false))) (fun _ s5 _=>t0.length - (intOf s5).toNat)
    case atStart=>exact ⟨rfl,0,rfl,Nat.zero_le _,.inl ⟨rfl,fun i hi=>absurd hi (by omega)⟩⟩
    case round =>
      obtain ⟨rfl,j,rfl,hj,hs⟩:=hrel
      rcases hs with ⟨rfl,hall⟩ | ⟨rfl,hnm⟩
      · by_cases hjl : j = t0.length
        · have dj : decide ((j : Int) < (t0.length : Int)) = false:=by simp; omega
          have hnm : isName t0 = true:=name_all hne (by rw [← hjl]; exact hall)
          obtain ⟨q1,q2,q3⟩:=fr_good hmo (by rw [m1]; exact hk) hq4 (by rw [m4]; exact hnm)
          have HQ:=Lib.hid (And.intro q2 q3)
          clear q1 q2 q3
          have HWr:=Lib.hid (lb_write HL7.out HEV.out.2.ok 5 5000 hid5)
          go_wp2_with fail
          refine HWr.out.mono ?_
          rintro e w8 ⟨A8,m8,c8,rfl,hl8,hb8,hy8,hc8,hn8⟩
          rw [HQ.out.1] at hy8
          have HE8:=Lib.hid (HEV.out.2.write 5 5000)
          have HL8:=Lib.hid hl8
          have HB8:=Lib.hid (Below.trans HB7.out (hb8.mono hn1))
          have hm8 : m8≤1000000000:=by
            have:=hy8.1
            have h9 : (encs [welcome 5 0 (roleOf m),mfloor 0]).length≤100:=by
              unfold encs
              have:=welcome_len 5 0 (roleOf m)
              simp [floor_len]
              omega
            omega
          have HMs:=Lib.hid (lmessages_any [welcome 5 0 (roleOf m),mfloor 0] (frGood_ok m) w8 hy8 (Nat.le_refl _) hc8 hm8)
          clear hl8 hb8 hy8 hc8 hn8 hm8 HWr
          go_wp2_with fail
          refine HMs.out.mono ?_
          rintro e w9 ⟨R,rc,rfl,hrow,hb9⟩
          have HL9:=Lib.hid (HL8.out.ls (S:=fun x=>∃ p,R = some p∧p.block = x) hb9 (fun x ⟨p,hp,e⟩=>by subst e; exact hrow.lt hp))
          have HB9:=Lib.hid (Below.trans HB8.out (hb9.mono (by rw [← HG.out]; exact HB8.out.size)))
          have HRow:=Lib.hid hrow
          clear hrow hb9 HMs
          rw [show [welcome 5 0 (roleOf m),mfloor 0].length = 2 from rfl]
          obtain ⟨rb,off,rfl,_,hcell⟩:=HRow.out.msin.outer (by simp)
          obtain ⟨y0',y1',y2',y3'⟩:=msg_cells (hcell 0 (welcome 5 0 (roleOf m)) rfl) (o:=off) (by omega)
          replace y0' : w9.cell? ⟨rb,off,none⟩ = some (.int .i64 5):=y0'
          clear hcell y1' y2' y3'
          have HUs:=Lib.hid (ls_users HL9.out HE8.out.ok)
          go_wp2_with fail
          refine HUs.out.mono ?_
          rintro e w10 ⟨a10,n10,c10,rfl,hl10,ho10,hn10⟩
          obtain rfl : n10 = 1:=by rw [hn10]; exact HQ.out.2
          have HB10:=Lib.hid (Below.trans HB9.out (ho10.below (by rw [← HG.out]; exact HB9.out.size) fun x hx hn=>by omega))
          clear hl10 ho10 hn10 HUs
          go_wp2
          exact bodyPost_ret (v:=.bool true) (by simp [results,Tryz.results18,go_sem]) rfl ⟨rfl,by rw [HG.out]; exact HB10.out⟩
        · have dj : decide ((j : Int) < (t0.length : Int)) = true:=by simp; omega
          have hsv:=s_at t0 j (by rw [str_size]; omega)
          have hge : t0[j]?.getD 0#8 = t0[j]:=by rw [List.getElem?_eq_getElem (by omega)]; rfl
          have hla : Lx.at_ t0 j = t0[j]:=hge
          rw [hge] at hsv
          go_wp2
          · exact ⟨⟨trivial,j + 1,by go_num,by omega,.inr ⟨rfl,name_bad (j:=j) (by omega) (by unfold badAt; rw [hla]; simp; omega)⟩⟩,by simp [intOf]; omega⟩
          · exact ⟨⟨trivial,j + 1,by go_num,by omega,.inl ⟨rfl,fun i hi=>by
              by_cases e : i = j
              · subst e; unfold badAt; rw [hla]; simp; omega
              · exact hall i (by omega)⟩⟩,by simp [intOf]; omega⟩
          · exact ⟨⟨trivial,j + 1,by go_num,by omega,.inr ⟨rfl,name_bad (j:=j) (by omega) (by unfold badAt; rw [hla]; simp; omega)⟩⟩,by simp [intOf]; omega⟩
      · have hbad : m.k≠1∨m.a / 4≠1∨isName m.t = false:=.inr (.inr (by rw [m4]; exact hnm))
        have hwhy : whyFirst m = 3:=by unfold whyFirst; rw [if_neg (by rw [m1]; omega),if_neg (by rw [hq4]; decide)]
        by_cases hjl : j = t0.length
        · have dj : decide ((j : Int) < (t0.length : Int)) = false:=by simp; omega
          have HQ:=Lib.hid (fr_bad hmo hbad)
          rw [hwhy] at HQ
          have HWr:=Lib.hid (lb_write HL7.out HEV.out.2.ok 5 5000 hid5)
          go_wp2_with fail
          refine HWr.out.mono ?_
          rintro e w8 ⟨A8,m8,c8,rfl,hl8,hb8,hy8,hc8,hn8⟩
          rw [HQ.out.2.1] at hy8
          rw [HQ.out.2.2] at hl8
          have HE8:=Lib.hid (show EvOk (bare (bnew cfd)) 0 3000 0 by rw [← HQ.out.2.2]; exact HEV.out.2.write 5 5000)
          have HL8:=Lib.hid hl8
          have HB8:=Lib.hid (Below.trans HB7.out (hb8.mono hn1))
          have hm8 : m8≤1000000000:=by
            have:=hy8.1
            rw [encs_one,closed_len] at this
            omega
          have HMs:=Lib.hid (lmessages_any [closed 3] (fun x hx=>by rw [List.mem_singleton.1 hx]; decide) w8 hy8 (Nat.le_refl _) hc8 hm8)
          clear hl8 hb8 hy8 hc8 hn8 hm8 HWr HQ
          go_wp2_with fail
          refine HMs.out.mono ?_
          rintro e w9 ⟨R,rc,rfl,hrow,hb9⟩
          have HL9:=Lib.hid (HL8.out.ls (S:=fun x=>∃ p,R = some p∧p.block = x) hb9 (fun x ⟨p,hp,e⟩=>by subst e; exact hrow.lt hp))
          have HB9:=Lib.hid (Below.trans HB8.out (hb9.mono (by rw [← HG.out]; exact HB8.out.size)))
          have HRow:=Lib.hid hrow
          clear hrow hb9 HMs
          rw [show [closed 3].length = 1 from rfl]
          obtain ⟨rb,off,rfl,_,hcell⟩:=HRow.out.msin.outer (by decide)
          obtain ⟨y0',y1',y2',y3'⟩:=msg_cells (hcell 0 ⟨13,3,0,[]⟩ rfl) (o:=off) (by omega)
          dsimp only at y0' y1' y2'
          rw [show str (⟨13,3,0,[]⟩ : M).t = ⟨#[]⟩ from rfl] at y3'
          clear hcell
          have HUs:=Lib.hid (ls_users HL9.out HE8.out.ok)
          go_wp2_with fail
          refine HUs.out.mono ?_
          rintro e w10 ⟨a10,n10,c10,rfl,hl10,ho10,hn10⟩
          obtain rfl : n10 = 0:=by rw [hn10]; rfl
          have HL10:=Lib.hid hl10.lbx
          have HB10:=Lib.hid (Below.trans HB9.out (ho10.below (by rw [← HG.out]; exact HB9.out.size) fun x hx hn=>by omega))
          have HRow10:=Lib.hid (HRow.out.only ho10 (fun p hp hn=>hn.2 ⟨p,hp,rfl⟩))
          clear hl10 ho10 hn10 HUs
          have HCs:=Lib.hid (lb_conns HL10.out)
          go_wp2_with fail
          refine HCs.out.mono ?_
          rintro e w11 ⟨a11,n11,c11,rfl,_,hb11,hn11,_,_⟩
          obtain rfl : n11 = 0:=by rw [hn11]; rfl
          have HB11:=Lib.hid (Below.trans HB10.out (hb11.mono (by rw [← HG.out]; exact HB10.out.size)))
          clear hn11 hb11 HCs
          go_wp2
          exact bodyPost_ret (v:=.bool true) (by simp [results,Tryz.results18,go_sem]) rfl ⟨rfl,by rw [HG.out]; exact HB11.out⟩
        · have dj : decide ((j : Int) < (t0.length : Int)) = true:=by simp; omega
          have HQ:=Lib.hid (fr_bad hmo hbad)
          rw [hwhy] at HQ
          have HWr:=Lib.hid (lb_write HL7.out HEV.out.2.ok 5 5000 hid5)
          go_wp2_with fail
          refine HWr.out.mono ?_
          rintro e w8 ⟨A8,m8,c8,rfl,hl8,hb8,hy8,hc8,hn8⟩
          rw [HQ.out.2.1] at hy8
          rw [HQ.out.2.2] at hl8
          have HE8:=Lib.hid (show EvOk (bare (bnew cfd)) 0 3000 0 by rw [← HQ.out.2.2]; exact HEV.out.2.write 5 5000)
          have HL8:=Lib.hid hl8
          have HB8:=Lib.hid (Below.trans HB7.out (hb8.mono hn1))
          have hm8 : m8≤1000000000:=by
            have:=hy8.1
            rw [encs_one,closed_len] at this
            omega
          have HMs:=Lib.hid (lmessages_any [closed 3] (fun x hx=>by rw [List.mem_singleton.1 hx]; decide) w8 hy8 (Nat.le_refl _) hc8 hm8)
          clear hl8 hb8 hy8 hc8 hn8 hm8 HWr HQ
          go_wp2_with fail
          refine HMs.out.mono ?_
          rintro e w9 ⟨R,rc,rfl,hrow,hb9⟩
          have HL9:=Lib.hid (HL8.out.ls (S:=fun x=>∃ p,R = some p∧p.block = x) hb9 (fun x ⟨p,hp,e⟩=>by subst e; exact hrow.lt hp))
          have HB9:=Lib.hid (Below.trans HB8.out (hb9.mono (by rw [← HG.out]; exact HB8.out.size)))
          have HRow:=Lib.hid hrow
          clear hrow hb9 HMs
          rw [show [closed 3].length = 1 from rfl]
          obtain ⟨rb,off,rfl,_,hcell⟩:=HRow.out.msin.outer (by decide)
          obtain ⟨y0',y1',y2',y3'⟩:=msg_cells (hcell 0 ⟨13,3,0,[]⟩ rfl) (o:=off) (by omega)
          dsimp only at y0' y1' y2'
          rw [show str (⟨13,3,0,[]⟩ : M).t = ⟨#[]⟩ from rfl] at y3'
          clear hcell
          have HUs:=Lib.hid (ls_users HL9.out HE8.out.ok)
          go_wp2_with fail
          refine HUs.out.mono ?_
          rintro e w10 ⟨a10,n10,c10,rfl,hl10,ho10,hn10⟩
          obtain rfl : n10 = 0:=by rw [hn10]; rfl
          have HL10:=Lib.hid hl10.lbx
          have HB10:=Lib.hid (Below.trans HB9.out (ho10.below (by rw [← HG.out]; exact HB9.out.size) fun x hx hn=>by omega))
          have HRow10:=Lib.hid (HRow.out.only ho10 (fun p hp hn=>hn.2 ⟨p,hp,rfl⟩))
          clear hl10 ho10 hn10 HUs
          have HCs:=Lib.hid (lb_conns HL10.out)
          go_wp2_with fail
          refine HCs.out.mono ?_
          rintro e w11 ⟨a11,n11,c11,rfl,_,hb11,hn11,_,_⟩
          obtain rfl : n11 = 0:=by rw [hn11]; rfl
          have HB11:=Lib.hid (Below.trans HB10.out (hb11.mono (by rw [← HG.out]; exact HB10.out.size)))
          clear hn11 hb11 HCs
          go_wp2
          exact bodyPost_ret (v:=.bool true) (by simp [results,Tryz.results18,go_sem]) rfl ⟨rfl,by rw [HG.out]; exact HB11.out⟩
theorem w_in : Tryz.checked.prog.inits.idxOf? 18 = none:=by kernel_rfl
theorem w_ok (os : Os) : Input.okWideB Tryz.prog ((World.doorLaid Tryz.prog 400 os).forCall (fun _ _=>0) ⟨#[],#[.agg #[.int .i64 0,.int .i64 0,.int .i64 0,.string ⟨#[]⟩]],[]⟩) 18 ⟨#[],#[.agg #[.int .i64 0,.int .i64 0,.int .i64 0,.string ⟨#[]⟩]],[]⟩ = true:=by kernel_rfl
theorem w_pre (os : Os) (H : Type) (enc : TypeId×Value→H) : Rows.brokerFreshSpec.preB enc Tryz.prog Tryz.f18 [] false ((World.doorLaid Tryz.prog 400 os).forCall (fun _ _=>0) ⟨#[],#[.agg #[.int .i64 0,.int .i64 0,.int .i64 0,.string ⟨#[]⟩]],[]⟩).memory #[.agg #[.int .i64 0,.int .i64 0,.int .i64 0,.string ⟨#[]⟩]] 8 = true:=by kernel_rfl
theorem w_sz (os : Os) (H : Type) (enc : TypeId×Value→H) : Rows.brokerFreshSpec.sizedB enc Tryz.prog Tryz.f18 false ((World.doorLaid Tryz.prog 400 os).forCall (fun _ _=>0) ⟨#[],#[.agg #[.int .i64 0,.int .i64 0,.int .i64 0,.string ⟨#[]⟩]],[]⟩).memory #[.agg #[.int .i64 0,.int .i64 0,.int .i64 0,.string ⟨#[]⟩]] 8 = true:=by kernel_rfl
set_option maxRecDepth 100000 in
theorem lifted (os : Os) (started : os.Started) (H : Type) (enc : TypeId×Value→H) :
    ReturnsInHanded {} Tryz.checked os 18 .any (fun w args=>(Rows.brokerFreshSpec.pre enc Tryz.prog Tryz.f18 [] false w args∧laidMetH Tryz.prog laidL w)∧sizedMet enc Tryz.prog Tryz.f18 (OpenSpec.ofChange Rows.brokerFreshSpec) false w args)
      (Rows.brokerFreshSpec.post enc Tryz.prog Tryz.f18 false true false false):=by
  refine returnsInHanded_of_change_and (C:=Tryz.checked) (X:=fun w _=>laidMetH Tryz.prog laidL w) (fun _ _ _ hh h=>h.of_heap hh) own started w_in Tryz.func18
    (ChangeSpec.witness_shaped (enc:=enc) (C:=Tryz.checked) (os:=os) (X:=fun w _=>laidMetH Tryz.prog laidL w) false (World.doorLaid Tryz.prog 400 os) #[.agg #[.int .i64 0,.int .i64 0,.int .i64 0,.string ⟨#[]⟩]] 8 rfl (door_shaped os _) (w_ok os) (w_pre os H enc) (w_sz os H enc) (door_met os _)) ?_
  intro W base args ds gs before hval0 hW hcnd hsz0 hL _
  have hti:=ti_of hL
  have hval : ∀ (j : Nat) t v,Tryz.f18.params[j]? = some t→args[j]? = some v→Value.okWide Tryz.prog W .any base t v:=hval0
  have hW':=hW
  obtain ⟨p,q,hA0,hV,rfl,hfz,hnd⟩:=hW
  have hsz : (DataW.weightsEach Tryz.prog (Tryz.f18.params.toList ++ Rows.brokerFreshSpec.plain.varTypes Tryz.prog) (ds ++ gs)).all (·≤reachBytes) = true:=hsz0
  have hA : DataW.TrodAll enc Tryz.prog W 0 (fun _=>true) true Tryz.f18.params.toList args.toList ds p:=hA0
  rw [Tryz.params18] at hA hval hsz
  obtain ⟨v0,vs0,d0,ds0,p0,q0,hargs,rfl,rfl,h0,r0⟩:=trodAll_cons hA
  obtain ⟨rfl,rfl,rfl⟩:=trodAll_nil r0
  obtain rfl : args = #[v0]:=by cases args; simp_all
  obtain ⟨rfl,rfl⟩:=trodVars_none hV
  have k0:=h0
  have lt0 : ∀ x∈p0,x.block < W.heap.size:=by obtain ⟨m,hm⟩:=k0; exact DataW.trod_lt m _ _ _ hm
  obtain ⟨k_0,x0,y0,t0,rfl,w0⟩:=open_msg (hval 0 65 v0 rfl rfl) h0
  clear hA0 hval0 hsz hsz0
  refine (walk k_0 x0 y0 t0 W w0 hti).mono fun e W' ⟨he,bel⟩=>?_
  subst he
  exact ⟨_,rfl,_,_,_,[],_,[],hW',trodAll_mk1 (shut_bool Tryz.underlying4 _),(trodAll_cons_mk (Below.trod laidOut (by kernel_rfl) (of_decide_eq_true (by kernel_rfl)) k0 bel lt0) trodAll_mk0),rfl,bel.frame _,fun h=>by cases h⟩
theorem q0 : (Rows.brokerFreshRow.wf (OpenSpec.ofChange Rows.brokerFreshSpec)) = true:=by kernel_rfl
theorem q3 : (Tryz.f18.params.all (Tryz.prog.readableRec ·)) = true:=by kernel_rfl
theorem q4 : (namedTie Tryz.prog Rows.brokerFreshRow.named Rows.brokerFreshSpec.vars) = true:=by kernel_rfl
theorem q5 : ((Rows.brokerFreshRow.stops == [])) = true:=by kernel_rfl
theorem q7 : ((Rows.brokerFreshRow.knobs == [])) = true:=by kernel_rfl
theorem q9 : ((Rows.brokerFreshRow.inPlace == Tryz.prog.inPlace 18)) = true:=by kernel_rfl
theorem q10 : ((Rows.brokerFreshRow.unfollowed == Tryz.prog.unfollowed 18)) = true:=by kernel_rfl
theorem q11 : ((Rows.brokerFreshRow.recurses == Tryz.prog.recurses 18)) = true:=by kernel_rfl
theorem q12 : ((Rows.brokerFreshRow.named == Tryz.prog.varsNamed 18)) = true:=by kernel_rfl
theorem q13 : ((Rows.brokerFreshRow.maps == (Tryz.f18.params.toList ++ Rows.brokerFreshSpec.plain.varTypes Tryz.prog).any (Tryz.prog.mapsRec ·))) = true:=by kernel_rfl
theorem q14 : ((Rows.brokerFreshRow.ifaces == (Tryz.f18.params.toList ++ Rows.brokerFreshSpec.plain.varTypes Tryz.prog).any (Tryz.prog.ifacesRec ·))) = true:=by kernel_rfl
theorem q15 : ((Rows.brokerFreshRow.mapsOut == Tryz.prog.mapsAmong Tryz.f18.resultTypes.toList)) = true:=by kernel_rfl
theorem q16 : ((Rows.brokerFreshRow.loops == (Tryz.f18.params.toList ++ Rows.brokerFreshSpec.plain.varTypes Tryz.prog).any (Tryz.prog.loopsFrom ·))) = true:=by kernel_rfl
theorem q17 : ((Rows.brokerFreshRow.wideKeys == (Tryz.f18.params.toList ++ Rows.brokerFreshSpec.plain.varTypes Tryz.prog ++ Tryz.f18.resultTypes.toList).any (Tryz.prog.wideKeysFrom ·))) = true:=by kernel_rfl
theorem q18 : (Rows.brokerFreshSpec.vars.all (Tryz.prog.varReadable ·)) = true:=by kernel_rfl
theorem q19 : (Tryz.f18.resultTypes.all (fun t=>Tryz.prog.readableRec t && decide (t < Tryz.prog.types.size))) = true:=by kernel_rfl
theorem q20 : ((Rows.brokerFreshRow.ifacesOut == Tryz.f18.resultTypes.toList.any (Tryz.prog.ifacesRec ·))) = true:=by kernel_rfl
theorem q21 : ((Rows.brokerFreshRow.loopsOut == Tryz.f18.resultTypes.toList.any (Tryz.prog.loopsFrom ·))) = true:=by kernel_rfl
theorem q22 : ((Rows.brokerFreshRow.plainKeys == Tryz.prog.plainKeys)) = true:=(show Rows.brokerFreshRow.plainKeys = Rows.brokerEventsRow.plainKeys from rfl) ▸ pq22
theorem q23 : (Rows.brokerFreshRow.shortTexts.isNone) = true:=by kernel_rfl
theorem q26 : ((Rows.brokerFreshRow.lifted == Tryz.prog.liftsFinal)) = true:=(show Rows.brokerFreshRow.lifted = Rows.brokerEventsRow.lifted from rfl) ▸ pq26
theorem q27 : ((Tryz.prog.make == some Rows.brokerFreshRow.make)) = true:=(show Rows.brokerFreshRow.make = Rows.brokerEventsRow.make from rfl) ▸ pq27
theorem q28 : kindsAre Tryz.prog Rows.brokerFreshRow Tryz.f18 = true:=by kernel_rfl
theorem q29 : ((Rows.brokerFreshRow.pinned == Rows.brokerFreshRow.pinnedBy)) = true:=by kernel_rfl
theorem q30 : ((Rows.brokerFreshRow.veiled == (Tryz.f18.params.toList ++ Rows.brokerFreshSpec.plain.varTypes Tryz.prog ++ Tryz.f18.resultTypes.toList).any (Tryz.prog.veiledRec ·))) = true:=by kernel_rfl
theorem q31 : (Rows.brokerFreshRow.veiledFits Tryz.prog Tryz.f18.params.toList (Tryz.f18.params.toList ++ Rows.brokerFreshSpec.plain.varTypes Tryz.prog ++ Tryz.f18.resultTypes.toList)) = true:=by kernel_rfl
theorem q_named : Tryz.prog.funcNamed Rows.brokerFreshRow.func = some 18:=by kernel_rfl
theorem q_inst : Tryz.f18.isInstance Tryz.prog Rows.brokerFreshRow.origin Rows.brokerFreshRow.targs:=of_decide_eq_true (by kernel_rfl)
theorem q_wrap : Tryz.f18.isWrapper Tryz.prog Rows.brokerFreshRow.wrapper Rows.brokerFreshRow.mainSum:=by unfold Func.isWrapper; first | (rw [if_pos (by decide +kernel)]; kernel_rfl) | (rw [if_neg (by decide +kernel)]; exact ⟨rfl,rfl⟩)
set_option maxRecDepth 100000 in
theorem q_all : joinedFacts Tryz.prog 18 Tryz.f18 Rows.brokerFreshSpec Rows.brokerFreshRow = true:=joined_of (P:=Tryz.prog) (f:=18) (fn:=Tryz.f18) (s:=Rows.brokerFreshSpec) (c:=Rows.brokerFreshRow) q0 pq1 pq2 q3 q4 q5 pq6 q7 pq8 q9 q10 q11 q12 q13 q14 q15 q16 q17 q18 q19 q20 q21 q22 q23 pq24 pq25 q26 q27 q28 q29 q30 q31
theorem over : Rows.BrokerFreshSaid:=
  OpenClaim.holds_of_wide 18 Tryz.f18 rfl rfl rfl rfl rfl rfl rfl ⟨rfl,rfl,rfl,rfl,rfl⟩ rfl rfl rfl rfl rfl q_named Tryz.func18 q_all q_inst q_wrap
    (fun os started H enc _=>lifted os started H enc)
theorem c_wf : Rows.brokerFreshRow.wfByText (OpenSpec.ofChange Rows.brokerFreshSpec) = true:=by kernel_rfl
theorem c_looks : true = Tryz.prog.looks []:=by kernel_rfl
theorem c_stand : ([65].all fun u=>!Tryz.prog.wantsStandIn u) = true:=by kernel_rfl
theorem c_goes : false = Rows.brokerFreshRow.goesBy Tryz.prog:=by kernel_rfl
end Go.Proofs.YtjmdddhbdofppaaGreatDoor.brokerFresh
namespace Go.Proofs.YtjmdddhbdofppaaGreatDoor
theorem brokerFresh_holds : Rows.BrokerFreshCardSaid:=
  Claim7.holds_tied_plain_at (c:=Rows.brokerFreshRow) .later [] _ true _ true
    brokerFresh.over (fun _ h=>by cases h) brokerFresh.c_wf (fun _ h=>by cases h) brokerFresh_row_tie rfl ⟨rfl,rfl⟩ main_is rfl
    (fun f fn hf hfn=>by
      obtain rfl : f = 18:=Option.some.inj (brokerFresh.q_named.symm.trans hf) |>.symm
      obtain rfl : fn = Tryz.f18:=(Option.some.inj (Tryz.func18.symm.trans hfn)).symm
      exact ⟨brokerFresh.c_looks,fun j t ht=>by
        rw [Tryz.params18] at ht
        have hm : t∈[65]:=by simpa using Array.mem_of_getElem? ht
        exact (show Tryz.prog.wantsStandIn t = false by simpa using List.all_eq_true.1 brokerFresh.c_stand t hm)⟩)
    brokerFresh.c_goes
#print axioms brokerFresh_holds
end Go.Proofs.YtjmdddhbdofppaaGreatDoor
