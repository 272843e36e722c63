/- BrokerEvicts: for every input the law answers true, and its arguments read as before. Conditions: none. -/
import Derived.Test.YtjmdddhbdofppaaGreatDoorZc10
import Derived.Test.YtjmdddhbdofppaaGreatDoorZc42
import Derived.Test.YtjmdddhbdofppaaGreatDoorZcQo

namespace Go.Proofs.YtjmdddhbdofppaaGreatDoor.brokerEvicts
open Go.ChangeShapes Go.WideShapes Go.ChangeAt Go.RowKit
open Fr Bk
theorem ls_output {n0 g : Nat} {S : Nat→Prop} {w : World} {b : Br} {i T mm : Nat} {A : Option Addr} {n : Nat} (h : LS n0 S g w b) (ha : ∀ p,A = some p→S p.block) (he : EvOk b i T mm) {B : Nat} {c2 : Nat} {t : Bs} (ht : Bytes w B A n t) (hB : B≤w.heap.size) (hcap : n≤c2) (hm : mm + n≤1000000) :
    Calls Tryz.prog 45 #[.pointer (some (at0 g)),.slice A n c2] w fun e w'=>e = .returned (.int .i64 (outputE b : Nat))∧LS n0 S g w' (outputB b t)∧Only (fun x=>n0≤x∧¬ S x) w w':=by
  obtain ⟨F,rs,h,hs⟩:=h
  exact (boutput_any h.is he.ok he.sp A n c2 B t ht hB hcap (fun _ p hp hF=>(hs p.block (ha p hp)).2 hF) (by have:=he.len; omega)).mono fun e w' hg=>h.e2 hs hg
theorem cfE_right {s k : Nat} (h1 : 1≤s∧s≤32) (h2 : k≤3) : CfOk (cfE s k):=⟨⟨by show 1≤s; omega,by show s≤65536; omega⟩,⟨by show 1≤8; decide,by show 8≤2042; decide⟩,⟨by show 220≤320; decide,by show 320≤65536; decide⟩,⟨by show 1≤9; decide,by show 9≤65536; decide⟩,by show k≤9; omega,⟨by show 1≤5; decide,by show 5≤1000; decide⟩,by show 0≤1000; decide,⟨by show 1≤9; decide,by show 9≤500; decide⟩⟩
theorem encs_ge : ∀ (l : List M),l.length≤(encs l).length
  | []=>Nat.le_refl _
  | m :: l=>by
    have:=encs_ge l
    rw [show encs (m :: l) = enc m ++ encs l from rfl,List.length_append,List.length_cons,enc_len5]
    omega
def xs (n : Nat) : Bs:=List.replicate n 120#8
theorem xs_next (n : Nat) : xs (n + 1) = xs n ++ [120#8]:=List.replicate_succ' ..
theorem xs_len (n : Nat) : (xs n).length = n:=List.length_replicate ..
set_option maxRecDepth 100000 in
set_option maxHeartbeats 8000000 in
theorem walk (a0 : Int) (a1 : Int) (w : World) (w0 : (Lit.int .i64 a0).wf = true) (w1 : (Lit.int .i64 a1).wf = true) (ht : TI w) :
    Calls Tryz.prog 9 #[.int .i64 a0,.int .i64 a1] w fun e w'=>e = .returned (.bool true)∧Below w.heap.size w w':=by
  obtain ⟨st,hst3,hand0⟩:=bits_any a0 3 (by decide)
  obtain ⟨q,hq31,hand1⟩:=bits_any a1 31 (by decide)
  obtain ⟨sz,hsz⟩ : ∃ sz,1 + q = sz:=⟨_,rfl⟩
  obtain ⟨t3,ht3⟩ : ∃ t3,3 * sz = t3:=⟨_,rfl⟩
  obtain ⟨tt,htt⟩ : ∃ tt,t3 + 1 = tt:=⟨_,rfl⟩
  have hs1 : 1≤sz∧sz≤32:=by omega
  have hand0 : bits .and .i64 a0 3 = (st : Int):=hand0
  have hand1 : bits .and .i64 a1 31 = (q : Int):=hand1
  have hadd : wrap64 ((1 : Int) + (q : Int)) = (sz : Nat):=by rw [IntWalk.wrap64_in _ (by omega)]; omega
  have hmul : wrap64 ((3 : Int) * (sz : Int)) = (t3 : Nat):=by rw [IntWalk.wrap64_in _ (by omega)]; omega
  have hadd2 : wrap64 ((t3 : Int) + 1) = (tt : Nat):=by rw [IntWalk.wrap64_in _ (by omega)]; omega
  have htb : 4≤tt∧tt≤97:=by omega
  have HTT:=Lib.hid (show tt = 3 * sz + 1 by omega)
  have HS1:=Lib.hid hs1
  have HTB:=Lib.hid htb
  have HA0:=Lib.hid w0
  have HA1:=Lib.hid w1
  have HTI:=Lib.hid ht
  have hid1 : wf64 1:=by decide
  clear HA0 HA1 w0 w1 ht hsz ht3 htt hq31 hs1 htb
  go_enter Tryz.func9,Tryz.ntmps9
  go_wp2_with fail
  refine (bhead_any w HTI.out).mono ?_
  rintro e w2 ⟨rfl,hb2⟩
  have HB2:=Lib.hid hb2
  clear hb2
  go_upto_region 6 with fail
  have hx3:=Bx.new w2 _ rfl #[.int .i64 (sz : Nat),.int .i64 8,.int .i64 320,.int .i64 9,.int .i64 (st : Nat),.int .i64 5,.int .i64 0,.int .i64 9] 23
  have HB4:=Lib.hid (show Below w.heap.size w (w2.alloc (.cells #[.int .i64 (sz : Nat),.int .i64 8,.int .i64 320,.int .i64 9,.int .i64 (st : Nat),.int .i64 5,.int .i64 0,.int .i64 9] 23)) from HB2.out.alloc HB2.out.size _)
  generalize w2.alloc (.cells #[.int .i64 (sz : Nat),.int .i64 8,.int .i64 320,.int .i64 9,.int .i64 (st : Nat),.int .i64 5,.int .i64 0,.int .i64 9] 23) = w3 at *
  generalize w2.heap.size = gc at *
  have d0:=hx3.cell 0 (.int .i64 (sz : Nat)) rfl
  have d1:=hx3.cell 1 (.int .i64 8) rfl
  have d2:=hx3.cell 2 (.int .i64 320) rfl
  have d3:=hx3.cell 3 (.int .i64 9) rfl
  have d4:=hx3.cell 4 (.int .i64 (st : Nat)) rfl
  have d5:=hx3.cell 5 (.int .i64 5) rfl
  have d6:=hx3.cell 6 (.int .i64 0) rfl
  have d7:=hx3.cell 7 (.int .i64 9) rfl
  clear hx3 HB2
  have HNew:=Lib.hid (fun (W : World) (hW : Below w.heap.size w W)=>(lb_new (cfE_right (s:=sz) (k:=st) HS1.out hst3) W (HTI.out.below hW) : Calls Tryz.prog 21 #[.agg #[.int .i64 (sz : Nat),.int .i64 8,.int .i64 320,.int .i64 9,.int .i64 (st : Nat),.int .i64 5,.int .i64 0,.int .i64 9]] W fun e w'=>∃ g,e = .returned (.pointer (some (at0 g)))∧LBx W.heap.size g w' (bnew (cfE sz st))∧Below W.heap.size W w'))
  go_wp2_with fail
  refine (HNew.out _ HB4.out).mono ?_
  rintro e w5 ⟨g,rfl,hl5,hb5⟩
  have HL5:=Lib.hid hl5
  have HB5:=Lib.hid (Below.trans HB4.out (hb5.mono HB4.out.size))
  have hn0 : w.heap.size≤w3.heap.size:=HB4.out.size
  clear hl5 hb5 HNew d0 d1 d2 d3 d4 d5 d6 d7
  generalize w3.heap.size = n0 at *
  obtain ⟨k1,k2,k3⟩:=evict_hello (size:=sz) (strikes:=st) HS1.out hst3
  have HE5:=cfE_ok (size:=sz) (strikes:=st) HS1.out hst3
  have HK1:=Lib.hid k1
  have HK2:=Lib.hid k2
  have HK3:=Lib.hid k3
  clear k1 k2 k3
  go_wp2_with fail
  refine (lb_connect HL5.out HE5.ok 1 hid1).mono ?_
  rintro e w6 ⟨rfl,hl6,hb6⟩
  rw [HK1.out]
  have HL6:=Lib.hid hl6
  have HB6:=Lib.hid (Below.trans HB5.out (hb6.mono hn0))
  have HE6:=HE5.connect 1
  clear hl6 hb6 HB4 HB5 HL5 HK1
  go_wp2_with fail
  refine (lhello_any wSlow (by decide) w6).mono ?_
  rintro e w7 ⟨A7,c7,rfl,hy7,hn7,_,hb7⟩
  have HW7:=Lib.hid (LAway.made (n:=(enc (helloM wSlow)).length) HL6.out hb7 hn7)
  have HY7:=Lib.hid hy7
  have HB7:=Lib.hid (Below.trans HB6.out (hb7.mono HB6.out.size))
  clear hy7 hn7 hb7
  go_wp2_with fail
  refine (lb_bytes HW7.out HE6 (by decide) 1 hid1 c7 HY7.out (by rw [enc_len5]; decide)).mono ?_
  rintro e w8 ⟨rfl,hl8,hb8⟩
  rw [HK2.out]
  obtain ⟨b0,hb0⟩ : ∃ b0,bytesB (connectB (bnew (cfE sz st)) 1) 1 (enc (helloM wSlow)) = b0:=⟨_,rfl⟩
  have HAt0:=Lib.hid (show EvAt sz st 0 b0 by rw [← hb0]; exact HK3.out)
  rw [hb0] at hl8
  have HL8:=Lib.hid hl8
  have HB8:=Lib.hid (Below.trans HB7.out (hb8.mono hn0))
  clear hl8 hb8 hb0 HW7 HY7 HL6 HB6 HB7 HE5 HE6 HK2 HK3
  have hz8 : w.heap.size≤w8.heap.size:=HB8.out.size
  go_wp2
  go_loopw [7] (fun v wr=>∃ (A : Option Addr) (N c : Nat),v = .slice A N c∧N≤tt∧Own w8.heap.size wr A N c (xs N)∧Below w8.heap.size w8 wr) (fun v _=>tt - lenm v)
  case atStart=>exact ⟨_,0,0,rfl,Nat.zero_le _,own_new w8 _ (Nat.le_refl _),(Below.refl _ _).alloc (Nat.le_refl _) _⟩
  case round =>
    obtain ⟨A,N,c,rfl,hN,hown,hbr⟩:=hrel
    have HO:=Lib.hid hown
    have HBr:=Lib.hid hbr
    have hzr : w8.heap.size≤wr.heap.size:=hbr.size
    clear hown hbr
    by_cases hlt : N < tt
    · have dl : decide ((N : Int) < (tt : Int)) = true:=decide_eq_true (by omega)
      have HNt:=Lib.hid hlt
      have htb2 : tt≤97:=HTB.out.2
      have hN97 : N≤97:=by omega
      clear hN hlt
      go_wp2_with (first
        | (at_builtin
           refine wpList_put rfl (.tmp 44) (.tmp 45) rfl w8.heap.size A N c (xs N) rfl (HO.out.below ((Below.refl _ _).alloc (Nat.le_refl _) _)) _ (some ⟨wr.heap.size,0,none⟩) 1 1 [120#8] rfl (show Bytes (wr.alloc (.cells #[.int .u8 120] 5)) _ _ 1 [120#8] from one_new wr 120#8) (by omega) (by simp; omega) ?_
           intro A2 c2 w2 hown hbel
           have HO2:=Lib.hid hown
           have HB2:=Lib.hid (Below.trans HBr.out (Below.trans ((Below.refl _ _).alloc hzr _) hbel))
           clear hown hbel))
      go_roundw
      case rel=>exact ⟨A2,N + 1,c2,by go_num,HNt.out,by rw [xs_next]; exact HO2.out,HB2.out⟩
      case measure=>have:=HNt.out; simp [lenm]; omega
    obtain rfl : N = tt:=by omega
    have dl : decide ((N : Int) < (N : Int)) = false:=decide_eq_false (by omega)
    obtain ⟨gp,rfl,hg1,hg2⟩:=HO.out.form (by have:=HTB.out.1; omega)
    have HLS:=Lib.hid (HL8.out.ls (S:=fun x=>x = gp) HBr.out (fun x hx=>by subst hx; exact ⟨hg1,hg2⟩))
    have HBy:=Lib.hid (show Bytes wr wr.heap.size (some ⟨gp,0,none⟩) N (xs N) from HO.out.bytes)
    have hcap:=HO.out.cap
    have HBw:=Lib.hid (Below.trans HB8.out (HBr.out.mono hz8))
    have HNs:=HTT
    have HNb:=HTB
    clear HO HBr hg1 hg2 hzr HL8 HB8 HTT HTB hN
    go_wp2
    rw [hmul,hadd2]
    go_loopw [8] (fun v wq=>∃ (r : Nat) (b : Br),v = .int .i64 (r : Nat)∧r≤4∧Hid (EvAt sz st r b)∧LS n0 (fun x=>x = gp) g wq b∧Bytes wq wq.heap.size (some ⟨gp,0,none⟩) N (xs N)∧Below w.heap.size w wq) (fun v _=>5 - (intOf v).toNat)
    case atStart=>exact ⟨0,b0,rfl,by decide,HAt0,HLS.out,HBy.out,HBw.out⟩
    case round =>
      obtain ⟨r,b,rfl,hr4,HAt,hls,hby,hbw⟩:=hrel
      have HLs:=Lib.hid hls
      have HBY:=Lib.hid hby
      have HBW:=Lib.hid hbw
      have dr : decide ((r : Int) < 2000) = true:=decide_eq_true (by omega)
      have dr0 : decide ((r : Int) = 2000) = false:=decide_eq_false (by omega)
      have dr1 : ((r : Int) == 2000) = false:=by simp; omega
      clear hls hby hbw HLS HBy HBw HAt0
      go_wp2_with fail
      refine (lb_role HLs.out.lbx HAt.out.ev.ok 1 hid1).mono ?_
      rintro e wq2 ⟨rfl,_,hb2⟩
      have HLs2:=Lib.hid (HLs.out.quiet (only_of_below hb2))
      have HBY2:=Lib.hid (show Bytes wq2 wq2.heap.size (some ⟨gp,0,none⟩) N (xs N) from (HBY.out.below hb2).more hb2.size)
      have HBW2:=Lib.hid (Below.trans HBW.out (hb2.mono HBW.out.size))
      clear hb2 HLs HBY HBW
      obtain ⟨rh,hrh⟩ : ∃ rh,rhas b.fl.roles 1 = rh:=⟨_,rfl⟩
      rw [hrh]
      have HRH:=Lib.hid hrh
      clear hrh
      cases rh
      rotate_left
      · have HRd:=Lib.hid (HAt.out.round HRH.out HS1.out hst3 (t:=xs N) (by rw [xs_len]; exact HNs.out))
        have hr3 : r≤3:=Nat.le_trans (HAt.out.few HRH.out) hst3
        have HOut:=Lib.hid (ls_output (A:=some ⟨gp,0,none⟩) (c2:=c) HLs2.out (fun p hp=>by injection hp with hp; subst hp; rfl) HAt.out.ev HBY2.out (Nat.le_refl _) hcap (by have:=HNb.out.2; omega))
        go_wp2_with fail
        refine HOut.out.mono ?_
        rintro e wq3 ⟨rfl,hls3,ho3⟩
        rw [HRd.out.1]
        have HAt3:=Lib.hid HRd.out.2
        have HLs3:=Lib.hid hls3
        have HBY3:=Lib.hid (show Bytes wq3 wq3.heap.size (some ⟨gp,0,none⟩) N (xs N) from (HBY2.out.only ho3 (Nat.le_refl _) fun _ p hp hn=>by injection hp with hp; subst hp; exact hn.2 rfl).more ho3.size)
        have HBW3:=Lib.hid (Below.trans HBW2.out (ho3.below HBW2.out.size fun k hk h=>by have:=h.1; omega))
        clear hls3 ho3 HOut HRd HLs2 HBY2 HBW2
        go_wp2
        go_roundw
        case rel=>exact ⟨r + 1,_,by go_num,by omega,HAt3,HLs3.out,HBY3.out,HBW3.out⟩
        case measure=>simp [intOf]; omega
      obtain ⟨ms,e1,e2,e3,e4,⟨B,e5⟩,e6⟩:=HAt.out.out HRH.out
      have HE1:=Lib.hid e1
      have HE2:=Lib.hid e2
      have HE3:=Lib.hid e3
      have HE4:=Lib.hid e4
      have HE5:=Lib.hid e5
      have HE6:=Lib.hid e6
      have HWr:=Lib.hid (lb_write HLs2.out.lbx HAt.out.ev.ok 1 70000 hid1)
      clear e1 e2 e3 e4 e5 e6 HBY2
      go_wp2_with fail
      refine HWr.out.mono ?_
      rintro e w9 ⟨A9,m9,c9,rfl,hl9,hb9,hy9,hc9,hn9⟩
      rw [HE4.out]
      have hm9 : m9≤1000000000:=by
        have:=hy9.1
        have:=HE6.out
        omega
      rw [HE1.out] at hy9
      rw [HE5.out] at hl9
      have HL9:=Lib.hid hl9
      have HB9:=Lib.hid (Below.trans HBW2.out (hb9.mono hn0))
      have HMs:=Lib.hid (lmessages_any (ms ++ [⟨12,0,0,[]⟩]) HE2.out w9 hy9 (Nat.le_refl _) hc9 hm9)
      clear hl9 hb9 hy9 hc9 hn9 hm9 HWr HLs2 HBW2
      go_wp2_with fail
      refine HMs.out.mono ?_
      rintro e wa ⟨R,rc,rfl,hrow,hba⟩
      obtain ⟨l,hl⟩ : ∃ l,ms ++ [⟨12,0,0,[]⟩] = l:=⟨_,rfl⟩
      obtain ⟨z,hz⟩ : ∃ z,ms.length = z:=⟨_,rfl⟩
      obtain ⟨ll,hll⟩ : ∃ ll,l.length = ll:=⟨_,rfl⟩
      have hgl : gaps l≤st:=by
        rw [← hl,gaps_app]
        have:=HE3.out
        have h0 : gaps [(⟨12,0,0,[]⟩ : M)] = 0:=rfl
        omega
      have hlast : l[z]? = some ⟨12,0,0,[]⟩:=by rw [← hl,← hz]; simp
      have hlz : ll = z + 1:=by rw [← hll,← hl]; simp [hz]
      have hzm : z≤1000:=by
        have h1:=HE6.out
        rw [HE1.out,hl] at h1
        have h2:=encs_ge l
        omega
      rw [hl] at hrow
      rw [hl,hll]
      rw [hll] at hrow
      have HLa:=Lib.hid (HL9.out.below hba)
      have HBa:=Lib.hid (Below.trans HB9.out (hba.mono HB9.out.size))
      obtain ⟨rb,off,rfl,hlt,hcell⟩:=hrow.msin.outer (by omega)
      have HCell:=Lib.hid hcell
      have HGL:=Lib.hid hgl
      have HLast:=Lib.hid hlast
      have HLL:=Lib.hid hll
      have HLZ:=Lib.hid hlz
      have hl1 : 1≤ll:=by omega
      have hl2 : ll≤1001:=by omega
      have dz : decide ((ll : Int) = 0) = false:=decide_eq_false (by omega)
      have hsub : wrap64 ((ll : Int) - 1) = (z : Nat):=by rw [IntWalk.wrap64_in _ (by omega)]; omega
      clear hgl hlast hcell hll hlz hl hz hrow hba HMs HL9 HB9
      go_wp2_with fail
      refine (lb_conns HLa.out).mono ?_
      rintro e wb ⟨a11,n11,c11,rfl,_,hb11,hn11,_,_⟩
      obtain rfl : n11 = 0:=by rw [hn11]; rfl
      have HBb:=Lib.hid (Below.trans HBa.out (hb11.mono HBa.out.size))
      have hrb : rb < wb.heap.size:=Nat.lt_of_lt_of_le hlt hb11.size
      have HCb:=Lib.hid (fun (j : Nat) (m : M) (hm : l[j]? = some m) (o : Nat) (ho : o = off + j * 4)=>(show _∧_∧_∧_ from (by
        obtain ⟨v0,v1,v2,v3⟩:=msg_cells (HCell.out j m hm) (o:=o) (by omega)
        exact ⟨(hb11.cell (p:=⟨rb,o,none⟩) hlt).trans v0,(hb11.cell (p:=⟨rb,o + 1,none⟩) hlt).trans v1,(hb11.cell (p:=⟨rb,o + 2,none⟩) hlt).trans v2,(hb11.cell (p:=⟨rb,o + 3,none⟩) hlt).trans v3⟩)))
      clear hb11 hn11 HLa HBa hlt
      have hwb : w.heap.size≤wb.heap.size:=HBb.out.size
      go_wp2
      try simp only [dr,dr0,dr1,dz]
      go_loopw [15,90] (fun s15 s90 wr=>∃ (j G : Nat),s90 = .int .i64 (j : Nat)∧s15 = .int .i64 (G : Nat)∧j≤ll∧Hid (G = gaps (l.take j))∧G≤j∧Below wb.heap.size wb wr) (fun _ s _=>ll - (intOf s).toNat)
      case atStart=>exact ⟨0,0,rfl,rfl,Nat.zero_le _,Lib.hid rfl,Nat.le_refl _,Below.refl _ _⟩
      case round =>
        obtain ⟨j,G,rfl,rfl,hj,HG,hGj,hbr⟩:=hrel
        have HBr:=Lib.hid hbr
        have hzr:=hbr.size
        clear hbr
        by_cases hjl : j < ll
        · obtain ⟨m,hm⟩ : ∃ m,l[j]? = some m:=⟨_,List.getElem?_eq_getElem (by rw [HLL.out]; exact hjl)⟩
          obtain ⟨v0,v1,v2,v3⟩:=HCb.out j m hm (off + j * 4) (by omega)
          have v0:=(HBr.out.cell (p:=⟨rb,off + j * 4,none⟩) hrb).trans v0
          have v1:=(HBr.out.cell (p:=⟨rb,off + j * 4 + 1,none⟩) hrb).trans v1
          have v2:=(HBr.out.cell (p:=⟨rb,off + j * 4 + 2,none⟩) hrb).trans v2
          have v3:=(HBr.out.cell (p:=⟨rb,off + j * 4 + 3,none⟩) hrb).trans v3
          have hgt:=gaps_take l j
          rw [hm,← HG.out] at hgt
          have HGT:=Lib.hid hgt
          have HX:=Lib.hid (Bx.new wr _ rfl #[.int .i64 m.k,.int .i64 m.a,.int .i64 m.b,.string (str m.t)] 65)
          have HBa:=Lib.hid (HBr.out.alloc hzr (.cells #[.int .i64 m.k,.int .i64 m.a,.int .i64 m.b,.string (str m.t)] 65))
          have dj : decide ((j : Int) < (ll : Int)) = true:=decide_eq_true (by omega)
          clear hgt hm
          go_upto_region 28 with fail
          generalize wr.alloc (.cells #[.int .i64 m.k,.int .i64 m.a,.int .i64 m.b,.string (str m.t)] 65) = wz at *
          have q0:=HX.out.cell 0 (.int .i64 m.k) rfl
          by_cases hk : m.k = 7
          · have hk1 : decide (m.k = 7) = true:=decide_eq_true hk
            have hk2 : (m.k == 7) = true:=by simp [hk]
            have hg2 : gaps (l.take (j + 1)) = G + 1:=by rw [HGT.out]; simp [hk]
            have HG2:=Lib.hid hg2
            clear hg2 hk
            go_wp2
            go_roundw
            case rel=>exact ⟨j + 1,G + 1,by go_num,by go_num,by omega,Lib.hid HG2.out.symm,by omega,HBa.out⟩
            case measure=>simp [intOf]; omega
          · have hk1 : decide (m.k = 7) = false:=decide_eq_false hk
            have hk2 : (m.k == 7) = false:=by simp [hk]
            have hg2 : gaps (l.take (j + 1)) = G:=by rw [HGT.out]; simp [hk]
            have HG2:=Lib.hid hg2
            clear hg2 hk
            go_wp2
            go_roundw
            case rel=>exact ⟨j + 1,G,by go_num,rfl,by omega,Lib.hid HG2.out.symm,by omega,HBa.out⟩
            case measure=>simp [intOf]; omega
        · obtain rfl : j = ll:=by omega
          have dj : decide ((j : Int) < (j : Int)) = false:=decide_eq_false (by omega)
          have hGs : G≤st:=by
            have h1:=HG.out
            rw [List.take_of_length_le (by rw [HLL.out]; omega)] at h1
            have:=HGL.out
            omega
          have dg : decide ((G : Int)≤(st : Int)) = true:=decide_eq_true (by omega)
          obtain ⟨v0,v1,v2,v3⟩:=HCb.out z _ HLast.out (off + (j - 1) * 4) (by have:=HLZ.out; omega)
          have v0:=(HBr.out.cell (p:=⟨rb,off + (j - 1) * 4,none⟩) hrb).trans v0
          dsimp only at v0
          have hzj : z < j:=by have:=HLZ.out; omega
          clear v1 v2 v3
          go_wp2
          exact bodyPost_ret (v:=.bool true) (by simp [results,Tryz.results9,go_sem]) rfl ⟨rfl,HBb.out.trans (HBr.out.mono hwb)⟩
theorem w_in : Tryz.checked.prog.inits.idxOf? 9 = none:=by kernel_rfl
theorem w_ok (os : Os) : Input.okWideB Tryz.prog ((World.doorLaid Tryz.prog 400 os).forCall (fun _ _=>0) ⟨#[],#[.int .i64 0,.int .i64 0],[]⟩) 9 ⟨#[],#[.int .i64 0,.int .i64 0],[]⟩ = true:=by kernel_rfl
theorem w_pre (os : Os) (H : Type) (enc : TypeId×Value→H) : Rows.brokerEvictsSpec.preB enc Tryz.prog Tryz.f9 [] false ((World.doorLaid Tryz.prog 400 os).forCall (fun _ _=>0) ⟨#[],#[.int .i64 0,.int .i64 0],[]⟩).memory #[.int .i64 0,.int .i64 0] 8 = true:=by kernel_rfl
theorem w_sz (os : Os) (H : Type) (enc : TypeId×Value→H) : Rows.brokerEvictsSpec.sizedB enc Tryz.prog Tryz.f9 false ((World.doorLaid Tryz.prog 400 os).forCall (fun _ _=>0) ⟨#[],#[.int .i64 0,.int .i64 0],[]⟩).memory #[.int .i64 0,.int .i64 0] 8 = true:=by kernel_rfl
set_option maxRecDepth 100000 in
theorem lifted (os : Os) (started : os.Started) (H : Type) (enc : TypeId×Value→H) :
    ReturnsInHanded {} Tryz.checked os 9 .any (fun w args=>(Rows.brokerEvictsSpec.pre enc Tryz.prog Tryz.f9 [] false w args∧laidMetH Tryz.prog laidL w)∧sizedMet enc Tryz.prog Tryz.f9 (OpenSpec.ofChange Rows.brokerEvictsSpec) false w args)
      (Rows.brokerEvictsSpec.post enc Tryz.prog Tryz.f9 false true false false):=by
  refine returnsInHanded_of_change_and (C:=Tryz.checked) (X:=fun w _=>laidMetH Tryz.prog laidL w) (fun _ _ _ hh h=>h.of_heap hh) own started w_in Tryz.func9
    (ChangeSpec.witness_shaped (enc:=enc) (C:=Tryz.checked) (os:=os) (X:=fun w _=>laidMetH Tryz.prog laidL w) false (World.doorLaid Tryz.prog 400 os) #[.int .i64 0,.int .i64 0] 8 rfl (door_shaped os _) (w_ok os) (w_pre os H enc) (w_sz os H enc) (door_met os _)) ?_
  intro W base args ds gs before hval0 hW hcnd hsz0 hL _
  have hti:=ti_of hL
  have hval : ∀ (j : Nat) t v,Tryz.f9.params[j]? = some t→args[j]? = some v→Value.okWide Tryz.prog W .any base t v:=hval0
  have hW':=hW
  obtain ⟨p,q,hA0,hV,rfl,hfz,hnd⟩:=hW
  have hsz : (DataW.weightsEach Tryz.prog (Tryz.f9.params.toList ++ Rows.brokerEvictsSpec.plain.varTypes Tryz.prog) (ds ++ gs)).all (·≤reachBytes) = true:=hsz0
  have hA : DataW.TrodAll enc Tryz.prog W 0 (fun _=>true) true Tryz.f9.params.toList args.toList ds p:=hA0
  rw [Tryz.params9] at hA hval hsz
  obtain ⟨v0,vs0,d0,ds0,p0,q0,hargs,rfl,rfl,h0,r0⟩:=trodAll_cons hA
  obtain ⟨v1,vs1,d1,ds1,p1,q1,rfl,rfl,rfl,h1,r1⟩:=trodAll_cons r0
  obtain ⟨rfl,rfl,rfl⟩:=trodAll_nil r1
  obtain rfl : args = #[v0,v1]:=by cases args; simp_all
  obtain ⟨rfl,rfl⟩:=trodVars_none hV
  obtain ⟨a0,rfl,rfl,rfl,w0⟩:=open_int Tryz.underlying3 (hval 0 3 v0 rfl rfl) h0
  obtain ⟨a1,rfl,rfl,rfl,w1⟩:=open_int Tryz.underlying3 (hval 1 3 v1 rfl rfl) h1
  clear hA0 hval0 hsz hsz0
  refine (walk a0 a1 W w0 w1 hti).mono fun e W' ⟨he,bel⟩=>?_
  subst he
  exact ⟨_,rfl,_,_,_,[],_,[],hW',trodAll_mk1 (shut_bool Tryz.underlying4 _),(trodAll_cons_mk (shut_int Tryz.underlying3 w0) (trodAll_cons_mk (shut_int Tryz.underlying3 w1) trodAll_mk0)),rfl,bel.frame _,fun h=>by cases h⟩
theorem q0 : (Rows.brokerEvictsRow.wf (OpenSpec.ofChange Rows.brokerEvictsSpec)) = true:=by kernel_rfl
theorem q3 : (Tryz.f9.params.all (Tryz.prog.readableRec ·)) = true:=by kernel_rfl
theorem q4 : (namedTie Tryz.prog Rows.brokerEvictsRow.named Rows.brokerEvictsSpec.vars) = true:=by kernel_rfl
theorem q5 : ((Rows.brokerEvictsRow.stops == [])) = true:=by kernel_rfl
theorem q7 : ((Rows.brokerEvictsRow.knobs == [])) = true:=by kernel_rfl
theorem q9 : ((Rows.brokerEvictsRow.inPlace == Tryz.prog.inPlace 9)) = true:=by kernel_rfl
theorem q10 : ((Rows.brokerEvictsRow.unfollowed == Tryz.prog.unfollowed 9)) = true:=by kernel_rfl
theorem q11 : ((Rows.brokerEvictsRow.recurses == Tryz.prog.recurses 9)) = true:=by kernel_rfl
theorem q12 : ((Rows.brokerEvictsRow.named == Tryz.prog.varsNamed 9)) = true:=by kernel_rfl
theorem q13 : ((Rows.brokerEvictsRow.maps == (Tryz.f9.params.toList ++ Rows.brokerEvictsSpec.plain.varTypes Tryz.prog).any (Tryz.prog.mapsRec ·))) = true:=by kernel_rfl
theorem q14 : ((Rows.brokerEvictsRow.ifaces == (Tryz.f9.params.toList ++ Rows.brokerEvictsSpec.plain.varTypes Tryz.prog).any (Tryz.prog.ifacesRec ·))) = true:=by kernel_rfl
theorem q15 : ((Rows.brokerEvictsRow.mapsOut == Tryz.prog.mapsAmong Tryz.f9.resultTypes.toList)) = true:=by kernel_rfl
theorem q16 : ((Rows.brokerEvictsRow.loops == (Tryz.f9.params.toList ++ Rows.brokerEvictsSpec.plain.varTypes Tryz.prog).any (Tryz.prog.loopsFrom ·))) = true:=by kernel_rfl
theorem q17 : ((Rows.brokerEvictsRow.wideKeys == (Tryz.f9.params.toList ++ Rows.brokerEvictsSpec.plain.varTypes Tryz.prog ++ Tryz.f9.resultTypes.toList).any (Tryz.prog.wideKeysFrom ·))) = true:=by kernel_rfl
theorem q18 : (Rows.brokerEvictsSpec.vars.all (Tryz.prog.varReadable ·)) = true:=by kernel_rfl
theorem q19 : (Tryz.f9.resultTypes.all (fun t=>Tryz.prog.readableRec t && decide (t < Tryz.prog.types.size))) = true:=by kernel_rfl
theorem q20 : ((Rows.brokerEvictsRow.ifacesOut == Tryz.f9.resultTypes.toList.any (Tryz.prog.ifacesRec ·))) = true:=by kernel_rfl
theorem q21 : ((Rows.brokerEvictsRow.loopsOut == Tryz.f9.resultTypes.toList.any (Tryz.prog.loopsFrom ·))) = true:=by kernel_rfl
theorem q22 : ((Rows.brokerEvictsRow.plainKeys == Tryz.prog.plainKeys)) = true:=(show Rows.brokerEvictsRow.plainKeys = Rows.brokerEventsRow.plainKeys from rfl) ▸ pq22
theorem q23 : (Rows.brokerEvictsRow.shortTexts.isNone) = true:=by kernel_rfl
theorem q26 : ((Rows.brokerEvictsRow.lifted == Tryz.prog.liftsFinal)) = true:=(show Rows.brokerEvictsRow.lifted = Rows.brokerEventsRow.lifted from rfl) ▸ pq26
theorem q27 : ((Tryz.prog.make == some Rows.brokerEvictsRow.make)) = true:=(show Rows.brokerEvictsRow.make = Rows.brokerEventsRow.make from rfl) ▸ pq27
theorem q28 : kindsAre Tryz.prog Rows.brokerEvictsRow Tryz.f9 = true:=by kernel_rfl
theorem q29 : ((Rows.brokerEvictsRow.pinned == Rows.brokerEvictsRow.pinnedBy)) = true:=by kernel_rfl
theorem q30 : ((Rows.brokerEvictsRow.veiled == (Tryz.f9.params.toList ++ Rows.brokerEvictsSpec.plain.varTypes Tryz.prog ++ Tryz.f9.resultTypes.toList).any (Tryz.prog.veiledRec ·))) = true:=by kernel_rfl
theorem q31 : (Rows.brokerEvictsRow.veiledFits Tryz.prog Tryz.f9.params.toList (Tryz.f9.params.toList ++ Rows.brokerEvictsSpec.plain.varTypes Tryz.prog ++ Tryz.f9.resultTypes.toList)) = true:=by kernel_rfl
theorem q_named : Tryz.prog.funcNamed Rows.brokerEvictsRow.func = some 9:=by kernel_rfl
theorem q_inst : Tryz.f9.isInstance Tryz.prog Rows.brokerEvictsRow.origin Rows.brokerEvictsRow.targs:=of_decide_eq_true (by kernel_rfl)
theorem q_wrap : Tryz.f9.isWrapper Tryz.prog Rows.brokerEvictsRow.wrapper Rows.brokerEvictsRow.mainSum:=by unfold Func.isWrapper; first | (rw [if_pos (by decide +kernel)]; kernel_rfl) | (rw [if_neg (by decide +kernel)]; exact ⟨rfl,rfl⟩)
set_option maxRecDepth 100000 in
theorem q_all : joinedFacts Tryz.prog 9 Tryz.f9 Rows.brokerEvictsSpec Rows.brokerEvictsRow = true:=joined_of (P:=Tryz.prog) (f:=9) (fn:=Tryz.f9) (s:=Rows.brokerEvictsSpec) (c:=Rows.brokerEvictsRow) q0 pq1 pq2 q3 q4 q5 pq6 q7 pq8 q9 q10 q11 q12 q13 q14 q15 q16 q17 q18 q19 q20 q21 q22 q23 pq24 pq25 q26 q27 q28 q29 q30 q31
theorem over : Rows.BrokerEvictsSaid:=
  OpenClaim.holds_of_wide 9 Tryz.f9 rfl rfl rfl rfl rfl rfl rfl ⟨rfl,rfl,rfl,rfl,rfl⟩ rfl rfl rfl rfl rfl q_named Tryz.func9 q_all q_inst q_wrap
    (fun os started H enc _=>lifted os started H enc)
theorem c_wf : Rows.brokerEvictsRow.wfByText (OpenSpec.ofChange Rows.brokerEvictsSpec) = true:=by kernel_rfl
theorem c_looks : true = Tryz.prog.looks []:=by kernel_rfl
theorem c_stand : ([3,3].all fun u=>!Tryz.prog.wantsStandIn u) = true:=by kernel_rfl
theorem c_goes : false = Rows.brokerEvictsRow.goesBy Tryz.prog:=by kernel_rfl
end Go.Proofs.YtjmdddhbdofppaaGreatDoor.brokerEvicts
namespace Go.Proofs.YtjmdddhbdofppaaGreatDoor
theorem brokerEvicts_holds : Rows.BrokerEvictsCardSaid:=
  Claim7.holds_tied_plain_at (c:=Rows.brokerEvictsRow) .later [] _ true _ true
    brokerEvicts.over (fun _ h=>by cases h) brokerEvicts.c_wf (fun _ h=>by cases h) brokerEvicts_row_tie rfl ⟨rfl,rfl⟩ main_is rfl
    (fun f fn hf hfn=>by
      obtain rfl : f = 9:=Option.some.inj (brokerEvicts.q_named.symm.trans hf) |>.symm
      obtain rfl : fn = Tryz.f9:=(Option.some.inj (Tryz.func9.symm.trans hfn)).symm
      exact ⟨brokerEvicts.c_looks,fun j t ht=>by
        rw [Tryz.params9] at ht
        have hm : t∈[3,3]:=by simpa using Array.mem_of_getElem? ht
        exact (show Tryz.prog.wantsStandIn t = false by simpa using List.all_eq_true.1 brokerEvicts.c_stand t hm)⟩)
    brokerEvicts.c_goes
#print axioms brokerEvicts_holds
end Go.Proofs.YtjmdddhbdofppaaGreatDoor
