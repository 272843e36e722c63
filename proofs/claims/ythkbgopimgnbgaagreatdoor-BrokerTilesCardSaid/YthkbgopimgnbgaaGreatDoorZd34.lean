/- POrp -/
import Derived.Deep.DeepCutAuto
import Derived.Test.YthkbgopimgnbgaaGreatDoorZd05
import Derived.Test.YthkbgopimgnbgaaGreatDoorZd10
import Derived.Test.YthkbgopimgnbgaaGreatDoorZd33

section
namespace Go.Proofs.YthkbgopimgnbgaaGreatDoor
open Go.RowKit
open Dgs Orm
def LPG (w : World) (s : Bs) (e : Ending) (w' : World) : Prop:=
  Below w.heap.size w w'∧((∃ k n,Is s k n∧e = .returned (.tuple #[.agg #[.int .i64 k,.int .i64 n],.bool true]))∨((∀ k n,¬ Is s k n)∧∃ a b : Int,e = .returned (.tuple #[.agg #[.int .i64 a,.int .i64 b],.bool false])))
set_option maxRecDepth 100000 in
theorem rt0 (k : Nat) (h0 : 1≤k) (h1 : k≤11) : Rt k 0:=⟨by omega,by omega,by omega,by omega,fun _=>rfl⟩
set_option maxRecDepth 100000 in
theorem pre_cut (k : Nat) (h : 6≤k) : (tx k 0).take ((tx k 0).length - 1) = pre k:=by
  rw [tx_pre h,dgs_small (by decide)]
  simp
set_option maxRecDepth 100000 in
theorem pre_len (k : Nat) (h : 6≤k) : (tx k 0).length = (pre k).length + 1:=by
  rw [tx_pre h,dgs_small (by decide)]
  simp
set_option maxRecDepth 100000 in
theorem not_short {k : Nat} {s : Bs} (h6 : 6≤k) (hs : s.length≤(pre k).length∨s.take (pre k).length≠pre k∨13 < s.length - (pre k).length) (n : Int) : ¬ Is s k n:=by
  intro h
  have e:=h.2
  rw [tx_pre h6] at e
  have hne:=dgs_ne n.toNat
  have hl:=dgs_len n.toNat 12 (by have:=h.1.n1; have:=h.1.n0; omega)
  rcases hs with hs | hs | hs
  · rw [← e,List.length_append] at hs
    exact hne (List.eq_nil_of_length_eq_zero (by omega))
  · apply hs
    rw [← e]
    exact List.take_left
  · rw [← e,List.length_append] at hs
    omega
set_option maxRecDepth 100000 in
theorem no_digits {k : Nat} {d : Bs} (h6 : 6≤k) (h1 : k≤11) (hd : ∀ u,d≠dgs u) (j n : Int) : ¬ Is (pre k ++ d) j n:=fun h=>hd _ (only_digits h6 h1 h).1
set_option maxRecDepth 100000 in
theorem too_great {k : Nat} {d : Bs} (h6 : 6≤k) (h1 : k≤11) (hd : 1099511627776 < val d) (j n : Int) : ¬ Is (pre k ++ d) j n:=by
  intro h
  obtain ⟨e,h2,h3,_⟩:=only_digits h6 h1 h
  rw [e,val_dgs] at hd
  omega
set_option maxRecDepth 100000 in
theorem head_zero {k : Nat} {d : Bs} (h6 : 6≤k) (hne : tx k 0≠pre k ++ d) (hd : (d.headD 0#8).toNat = 48) (u : Nat) : d≠dgs u:=by
  intro e
  rcases Nat.eq_zero_or_pos u with h | h
  · subst h
    apply hne
    rw [e,tx_pre h6]
    rfl
  · obtain ⟨c,l,e2,hc⟩:=dgs_head u h
    rw [e,e2] at hd
    exact hc hd
set_option maxRecDepth 100000 in
theorem bad_digit {d : Bs} {j : Nat} (hj : j < d.length) (h : ¬ IsD (d[j]?.getD 0#8)) (u : Nat) : d≠dgs u:=by
  intro e
  apply h
  rw [List.getElem?_eq_getElem hj]
  exact dgs_are u _ (e ▸ List.getElem_mem hj)
set_option maxRecDepth 100000 in
theorem take_get2 (l : Bs) (j : Nat) (h : j < l.length) : l.take (j + 1) = l.take j ++ [l[j]?.getD 0#8]:=by
  rw [List.take_add_one,List.getElem?_eq_getElem h]
  rfl
set_option maxRecDepth 100000 in
theorem head_get (d : Bs) : d.headD 0#8 = d[0]?.getD 0#8:=by cases d <;> rfl
structure OrJ (w wr : World) (s : Bs) (k : Nat) : Prop where
  k0 : 1≤k
  k1 : k≤12
  non : ∀ (j n : Int),j < k→¬ Is s j n
  bel : Below w.heap.size w wr
  bx : Bx w.heap.size wr #[.int .i64 0,.int .i64 0]
  ti : TI wr
set_option maxRecDepth 100000 in
theorem OrJ.step {w wr w2 : World} {s : Bs} {k : Nat} (h : OrJ w wr s k) (hb : Below wr.heap.size wr w2) : OrJ w w2 s k:=
  ⟨h.k0,h.k1,h.non,Below.trans h.bel (hb.mono h.bel.size),h.bx.go hb h.bx.room,h.ti.below hb⟩
set_option maxRecDepth 100000 in
theorem OrJ.next {w wr : World} {s : Bs} {k : Nat} (h : OrJ w wr s k) (hk : k≤11) (hn : ∀ n : Int,¬ Is s k n) : OrJ w wr s (k + 1):=
  ⟨by omega,by omega,fun j n hj hi=>by
    rcases (show j < k∨j = k by omega) with h1 | rfl
    · exact h.non j n h1 hi
    · exact hn n hi,h.bel,h.bx,h.ti⟩
set_option maxRecDepth 100000 in
set_option maxHeartbeats 1000000 in
theorem lparse_any (s : Bs) (w : World) (ht : TI w) (hl : s.length≤100) : Calls Tryz.prog 35 #[.string (str s)] w (LPG w s):=by
  have hsz:=str_size s
  have HP0:=Lib.hid (show OrJ w (w.alloc (.cells #[.int .i64 0,.int .i64 0] 108)) s 1 from
    ⟨by omega,by omega,fun j n hj hi=>by have:=hi.1.k0; omega,(Below.refl _ _).alloc (Nat.le_refl _) _,Bx.new w _ rfl _ _,ht.below ((Below.refl _ _).alloc (Nat.le_refl _) _)⟩)
  clear ht
  go_enter Tryz.func35,Tryz.ntmps35
  go_wp2
  go_loopw [4] (fun s4 wr=>∃ k : Nat,s4 = .int .i64 (k : Nat)∧OrJ w wr s k) (fun s4 _=>12 - (intOf s4).toNat)
  case atStart=>exact ⟨1,rfl,HP0.out⟩
  case round =>
    obtain ⟨k,rfl,hp⟩:=hrel
    have HP:=Lib.hid hp
    have hk0:=hp.k0
    have hk1:=hp.k1
    clear hp HP0
    by_cases hlt : k≤11
    · have hlt' : (k : Int)≤11:=by omega
      have HR:=Lib.hid (rt0 k hk0 hlt)
      go_wp2_with fail
      refine (ltext_any k 0 wr HP.out.ti).mono ?_
      rintro e w1 ⟨rfl,hb1⟩
      have HP1:=Lib.hid (HP.out.step hb1)
      clear hb1 HP
      rw [text_of HR.out]
      by_cases heq : tx k 0 = s
      · have hzz : ((str (tx k 0)).toList == (str s).toList) = true:=by rw [heq]; simp
        have c0:=HP1.out.bx.cell 0 _ rfl
        have c1:=HP1.out.bx.cell 1 _ rfl
        have f0:=HP1.out.bx.free 0
        have f1:=HP1.out.bx.free 1
        have HI:=Lib.hid (show Is s k 0 from ⟨HR.out,heq⟩)
        clear heq
        have hx:=(HP1.out.bx.set 0 (.int .i64 (k : Nat))).set 1 (.int .i64 0)
        have e0:=hx.cell 0 _ rfl
        have e1:=hx.cell 1 _ rfl
        have hb9:=((HP1.out.bel.setCell (p:=⟨w.heap.size,0,none⟩) (Nat.le_refl _) (.int .i64 (k : Nat))).setCell (p:=⟨w.heap.size,1,none⟩) (Nat.le_refl _) (.int .i64 0))
        go_wp2
        exact bodyPost_ret (v:=.tuple #[.agg #[.int .i64 (k : Nat),.int .i64 0],.bool true]) (by simp [results,Tryz.results35,go_sem,e0,e1]) rfl ⟨hb9,.inl ⟨k,0,HI.out,rfl⟩⟩
      · have hzz : ((str (tx k 0)).toList == (str s).toList) = false:=str_ne heq
        by_cases h6 : k < 6
        · have h6' : (k : Int) < 6:=by omega
          have HN:=Lib.hid (HP1.out.next hlt (fun n hi=>heq (by have:=hi.1.z (by omega); subst this; exact hi.2)))
          clear heq
          go_wp2
          go_roundw
          case rel=>exact ⟨k + 1,by go_num,HN.out⟩
          case measure=>simp [intOf]; omega
        · have h6' : ¬ (k : Int) < 6:=by omega
          have hpl:=pre_len k (by omega)
          have hpc:=pre_cut k (by omega)
          have hts:=str_size (tx k 0)
          have htl:=tx_len HR.out
          have hex:=s_cut (tx k 0) 0 ((tx k 0).length - 1)
          rw [List.drop_zero,hpc] at hex
          have hps:=str_size (pre k)
          have hpl2 : (tx k 0).length - 1 = (pre k).length:=by omega
          rw [hpl2] at hex
          have HEQ:=Lib.hid heq
          clear heq hpc hpl2
          go_wp2_with fail
          refine (ltext_any k 0 w1 HP1.out.ti).mono ?_
          rintro e w2 ⟨rfl,hb2⟩
          have HP2:=Lib.hid (HP1.out.step hb2)
          clear hb2 HP1
          rw [text_of HR.out]
          generalize htx : str (tx k 0) = X at *
          generalize hL : (tx k 0).length = L at *
          generalize hPL : (pre k).length = m at *
          by_cases h1 : s.length≤m
          · have HN:=Lib.hid (HP2.out.next hlt (not_short (by omega) (.inl (by rw [hPL]; exact h1))))
            have h1' : (s.length : Int)≤(m : Int):=by omega
            go_wp2
            go_roundw
            case rel=>exact ⟨k + 1,by go_num,HN.out⟩
            case measure=>simp [intOf]; omega
          · have h1' : ¬ (s.length : Int)≤(m : Int):=by omega
            have hex2:=s_cut s 0 m
            rw [List.drop_zero] at hex2
            by_cases h2 : s.take m = pre k
            · by_cases h3 : 13 < s.length - m
              · have HN:=Lib.hid (HP2.out.next hlt (not_short (by omega) (.inr (.inr (by rw [hPL]; exact h3)))))
                have h3' : (13 : Int) < (s.length : Int) - (m : Int):=by omega
                have hzz2 : ((str (s.take m)).toList == (str (pre k)).toList) = true:=by rw [h2]; simp
                clear h2
                go_wp2
                go_roundw
                case rel=>exact ⟨k + 1,by go_num,HN.out⟩
                case measure=>simp [intOf]; omega
              · have h3' : ¬ (13 : Int) < (s.length : Int) - (m : Int):=by omega
                have hzz2 : ((str (s.take m)).toList == (str (pre k)).toList) = true:=by rw [h2]; simp
                obtain ⟨d,hd⟩ : ∃ d,d = s.drop m:=⟨_,rfl⟩
                have HS:=Lib.hid (show s = pre k ++ d by rw [hd,← h2,List.take_append_drop])
                have hdl : d.length = s.length - m:=by rw [hd,List.length_drop]
                have HAT:=Lib.hid (fun j=>show s[m + j]?.getD 0#8 = d[j]?.getD 0#8 by rw [hd,List.getElem?_drop])
                clear h2 hd
                go_wp2
                go_loop [6,7] (fun s6 s7=>∃ j : Nat,j≤d.length∧s7 = .int .i64 ((m + j : Nat) : Int)∧s6 = .int .i64 ((val (d.take j) : Nat) : Int)∧(∀ c∈d.take j,IsD c)∧(0 < j→(d.headD 0#8).toNat≠48)) (fun _ s7=>s.length - (intOf s7).toNat)
                case atStart=>exact ⟨0,by omega,rfl,rfl,by simp,fun h=>by omega⟩
                case round =>
                  obtain ⟨j,hj,rfl,rfl,hall,hhead⟩:=hrel
                  have HA:=Lib.hid (And.intro hall hhead)
                  clear hall hhead
                  by_cases hjl : j < d.length
                  · obtain ⟨p,hp⟩ : ∃ p,p = m + j:=⟨_,rfl⟩
                    have HP':=Lib.hid hp
                    have hpl' : p < (str s).size:=by rw [hsz]; omega
                    have hpl2 : p < s.length:=by omega
                    have hidx:=s_at s p hpl'
                    rw [show s[p]?.getD 0#8 = d[j]?.getD 0#8 by rw [hp]; exact HAT.out j] at hidx
                    rw [show m + j = p from hp.symm]
                    clear hp
                    have HV:=Lib.hid (show val (d.take (j + 1)) = 10 * val (d.take j) + ((d[j]?.getD 0#8).toNat - 48) by rw [take_get2 d j hjl,val_snoc])
                    have HT:=Lib.hid (take_get2 d j hjl)
                    have hvl:=val_lt (d.take j) HA.out.1
                    have hvl2 : val (d.take j) < 10 ^ 13:=Nat.lt_of_lt_of_le hvl (Nat.pow_le_pow_right (by omega) (by rw [List.length_take]; omega))
                    have hv13 : val (d.take j) < 10000000000000:=hvl2
                    have hx8 : (d[j]?.getD 0#8).toNat < 256:=(d[j]?.getD 0#8).isLt
                    clear hvl hvl2
                    obtain ⟨c,hc⟩ : ∃ c,c = d[j]?.getD 0#8:=⟨_,rfl⟩
                    rw [← hc] at hidx HV HT hx8
                    have HC:=Lib.hid hc
                    clear hc
                    obtain ⟨x,hx⟩ : ∃ x,x = c.toNat:=⟨_,rfl⟩
                    rw [← hx] at hidx HV hx8
                    have HX:=Lib.hid hx
                    clear hx
                    by_cases hlo : x < 48
                    · have HNO:=Lib.hid (show ∀ a b : Int,¬ Is s a b from by rw [HS.out]; exact no_digits (by omega) hlt (bad_digit hjl (by rw [← HC.out]; intro h; have:=h.1; have:=HX.out; omega)))
                      have hlo' : (x : Int) < 48:=by omega
                      have c0:=HP2.out.bx.cell 0 _ rfl
                      have c1:=HP2.out.bx.cell 1 _ rfl
                      have f0:=HP2.out.bx.free 0
                      have f1:=HP2.out.bx.free 1
                      have hx:=(HP2.out.bx.set 0 (.int .i64 0)).set 1 (.int .i64 0)
                      have e0:=hx.cell 0 _ rfl
                      have e1:=hx.cell 1 _ rfl
                      have hb9:=((HP2.out.bel.setCell (p:=⟨w.heap.size,0,none⟩) (Nat.le_refl _) (.int .i64 0)).setCell (p:=⟨w.heap.size,1,none⟩) (Nat.le_refl _) (.int .i64 0))
                      go_wp2
                      exact bodyPost_ret (v:=.tuple #[.agg #[.int .i64 0,.int .i64 0],.bool false]) (by simp [results,Tryz.results35,go_sem,e0,e1]) rfl ⟨hb9,.inr ⟨HNO.out,_,_,rfl⟩⟩
                    by_cases hhi : 57 < x
                    · have HNO:=Lib.hid (show ∀ a b : Int,¬ Is s a b from by rw [HS.out]; exact no_digits (by omega) hlt (bad_digit hjl (by rw [← HC.out]; intro h; have:=h.2; have:=HX.out; omega)))
                      have hlo' : ¬ (x : Int) < 48:=by omega
                      have hhi' : (57 : Int) < (x : Int):=by omega
                      have c0:=HP2.out.bx.cell 0 _ rfl
                      have c1:=HP2.out.bx.cell 1 _ rfl
                      have f0:=HP2.out.bx.free 0
                      have f1:=HP2.out.bx.free 1
                      have hx:=(HP2.out.bx.set 0 (.int .i64 0)).set 1 (.int .i64 0)
                      have e0:=hx.cell 0 _ rfl
                      have e1:=hx.cell 1 _ rfl
                      have hb9:=((HP2.out.bel.setCell (p:=⟨w.heap.size,0,none⟩) (Nat.le_refl _) (.int .i64 0)).setCell (p:=⟨w.heap.size,1,none⟩) (Nat.le_refl _) (.int .i64 0))
                      go_wp2
                      exact bodyPost_ret (v:=.tuple #[.agg #[.int .i64 0,.int .i64 0],.bool false]) (by simp [results,Tryz.results35,go_sem,e0,e1]) rfl ⟨hb9,.inr ⟨HNO.out,_,_,rfl⟩⟩
                    have hlo' : ¬ (x : Int) < 48:=by omega
                    have hhi' : ¬ (57 : Int) < (x : Int):=by omega
                    by_cases hz : j = 0∧x = 48
                    · obtain ⟨hj0,rfl⟩:=hz
                      have h48 : (d.headD 0#8).toNat = 48:=by
                        have h0 : d[0]?.getD 0#8 = c:=by rw [HC.out,hj0]
                        rw [head_get,h0]
                        exact HX.out.symm
                      have HNO:=Lib.hid (show ∀ a b : Int,¬ Is s a b from by rw [HS.out]; exact no_digits (by omega) hlt (head_zero (k:=k) (by omega) (by rw [← HS.out]; exact HEQ.out) h48))
                      have hpm : p = m:=by have:=HP'.out; omega
                      clear hj0 hjl hj h48
                      subst hpm
                      have c0:=HP2.out.bx.cell 0 _ rfl
                      have c1:=HP2.out.bx.cell 1 _ rfl
                      have f0:=HP2.out.bx.free 0
                      have f1:=HP2.out.bx.free 1
                      have hx:=(HP2.out.bx.set 0 (.int .i64 0)).set 1 (.int .i64 0)
                      have e0:=hx.cell 0 _ rfl
                      have e1:=hx.cell 1 _ rfl
                      have hb9:=((HP2.out.bel.setCell (p:=⟨w.heap.size,0,none⟩) (Nat.le_refl _) (.int .i64 0)).setCell (p:=⟨w.heap.size,1,none⟩) (Nat.le_refl _) (.int .i64 0))
                      go_wp2
                      exact bodyPost_ret (v:=.tuple #[.agg #[.int .i64 0,.int .i64 0],.bool false]) (by simp [results,Tryz.results35,go_sem,e0,e1]) rfl ⟨hb9,.inr ⟨HNO.out,_,_,rfl⟩⟩
                    have hz' : (p : Int) = (m : Int)→((x : Int) == 48) = false:=by
                      intro h1
                      simp
                      intro h2
                      exact hz ⟨by have:=HP'.out; omega,by omega⟩
                    have HD:=Lib.hid (show IsD c from ⟨by have:=HX.out; omega,by have:=HX.out; omega⟩)
                    have HZ:=Lib.hid (show 0 < j + 1→(d.headD 0#8).toNat≠48 from fun _=>by
                      rcases Nat.eq_zero_or_pos j with h0 | h0
                      · rw [head_get]
                        have h1 : d[0]?.getD 0#8 = c:=by rw [HC.out,h0]
                        rw [h1]
                        intro h2
                        exact hz ⟨h0,by have:=HX.out; omega⟩
                      · exact HA.out.2 h0)
                    by_cases hpm : p = m
                    · have hx48:=hz' (by omega)
                      clear hz' hz
                      subst hpm
                      go_wp2
                      go_round
                      case rel =>
                        refine ⟨j + 1,by omega,by have:=HP'.out; go_num,by rw [HV.out]; have:=HX.out; go_num,?_,HZ.out⟩
                        rw [HT.out]
                        intro y hy
                        rcases List.mem_append.1 hy with hy | hy
                        · exact HA.out.1 y hy
                        · rw [List.mem_singleton] at hy; rw [hy]; exact HD.out
                      case measure=>simp [intOf]; omega
                    · clear hz' hz
                      go_wp2
                      go_round
                      case rel =>
                        refine ⟨j + 1,by omega,by have:=HP'.out; go_num,by rw [HV.out]; have:=HX.out; go_num,?_,HZ.out⟩
                        rw [HT.out]
                        intro y hy
                        rcases List.mem_append.1 hy with hy | hy
                        · exact HA.out.1 y hy
                        · rw [List.mem_singleton] at hy; rw [hy]; exact HD.out
                      case measure=>simp [intOf]; omega
                  · obtain rfl : j = d.length:=by omega
                    have htk : d.take d.length = d:=List.take_length
                    rw [htk] at HA
                    rw [htk]
                    have hdne : d≠[]:=by intro e; rw [e] at hdl; simp at hdl; omega
                    have hdv:=dgs_val d HA.out.1 hdne (HA.out.2 (by rw [hdl]; omega))
                    have HDV:=Lib.hid hdv
                    have hml : m + d.length = s.length:=by omega
                    rw [hml]
                    clear hdv htk hjl hj hdne
                    by_cases hg : val d≤1099511627776
                    · have HI:=Lib.hid (show Is s k (val d : Nat) from ⟨rt_of (by omega) hlt hg,by rw [tx_pre (by omega),HS.out]; congr 1; exact HDV.out.1⟩)
                      have hg' : ((val d : Nat) : Int)≤1099511627776:=by omega
                      generalize val d = v at *
                      have c0:=HP2.out.bx.cell 0 _ rfl
                      have c1:=HP2.out.bx.cell 1 _ rfl
                      have f0:=HP2.out.bx.free 0
                      have f1:=HP2.out.bx.free 1
                      have hx:=(HP2.out.bx.set 0 (.int .i64 (k : Nat))).set 1 (.int .i64 (v : Nat))
                      have e0:=hx.cell 0 _ rfl
                      have e1:=hx.cell 1 _ rfl
                      have hb9:=((HP2.out.bel.setCell (p:=⟨w.heap.size,0,none⟩) (Nat.le_refl _) (.int .i64 (k : Nat))).setCell (p:=⟨w.heap.size,1,none⟩) (Nat.le_refl _) (.int .i64 (v : Nat)))
                      go_wp2
                      exact bodyPost_ret (v:=.tuple #[.agg #[.int .i64 (k : Nat),.int .i64 (v : Nat)],.bool true]) (by simp [results,Tryz.results35,go_sem,e0,e1]) rfl ⟨hb9,.inl ⟨k,v,HI.out,rfl⟩⟩
                    · have HNO:=Lib.hid (show ∀ a b : Int,¬ Is s a b from by rw [HS.out]; exact too_great (by omega) hlt (by omega))
                      have hg' : ¬ ((val d : Nat) : Int)≤1099511627776:=by omega
                      generalize val d = v at *
                      have c0:=HP2.out.bx.cell 0 _ rfl
                      have c1:=HP2.out.bx.cell 1 _ rfl
                      have f0:=HP2.out.bx.free 0
                      have f1:=HP2.out.bx.free 1
                      have hx:=(HP2.out.bx.set 0 (.int .i64 (k : Nat))).set 1 (.int .i64 (v : Nat))
                      have e0:=hx.cell 0 _ rfl
                      have e1:=hx.cell 1 _ rfl
                      have hb9:=((HP2.out.bel.setCell (p:=⟨w.heap.size,0,none⟩) (Nat.le_refl _) (.int .i64 (k : Nat))).setCell (p:=⟨w.heap.size,1,none⟩) (Nat.le_refl _) (.int .i64 (v : Nat)))
                      go_wp2
                      exact bodyPost_ret (v:=.tuple #[.agg #[.int .i64 (k : Nat),.int .i64 (v : Nat)],.bool false]) (by simp [results,Tryz.results35,go_sem,e0,e1]) rfl ⟨hb9,.inr ⟨HNO.out,_,_,rfl⟩⟩
            · have HN:=Lib.hid (HP2.out.next hlt (not_short (by omega) (.inr (.inl (by rw [hPL]; exact h2)))))
              have hzz2 : ((str (s.take m)).toList == (str (pre k)).toList) = false:=str_ne h2
              clear h2
              go_wp2
              go_roundw
              case rel=>exact ⟨k + 1,by go_num,HN.out⟩
              case measure=>simp [intOf]; omega
    · obtain rfl : k = 12:=by omega
      have HNO:=Lib.hid (fun (j n : Int) (hi : Is s j n)=>HP.out.non j n (by have:=hi.1.k1; omega) hi)
      have c0:=HP.out.bx.cell 0 _ rfl
      have c1:=HP.out.bx.cell 1 _ rfl
      have f0:=HP.out.bx.free 0
      have f1:=HP.out.bx.free 1
      have hx:=(HP.out.bx.set 0 (.int .i64 0)).set 1 (.int .i64 0)
      have e0:=hx.cell 0 _ rfl
      have e1:=hx.cell 1 _ rfl
      have hb9:=((HP.out.bel.setCell (p:=⟨w.heap.size,0,none⟩) (Nat.le_refl _) (.int .i64 0)).setCell (p:=⟨w.heap.size,1,none⟩) (Nat.le_refl _) (.int .i64 0))
      go_wp2
      exact bodyPost_ret (v:=.tuple #[.agg #[.int .i64 0,.int .i64 0],.bool false]) (by simp [results,Tryz.results35,go_sem,e0,e1]) rfl ⟨hb9,.inr ⟨HNO.out,_,_,rfl⟩⟩
end Go.Proofs.YthkbgopimgnbgaaGreatDoor
end
