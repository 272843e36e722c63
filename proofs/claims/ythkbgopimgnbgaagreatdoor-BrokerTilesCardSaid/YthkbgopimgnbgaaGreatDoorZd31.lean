/- PTi -/
import Derived.Laws.IdiomStrings
import Derived.Lib.SmallJoins
import Derived.Lib.SliceRun
import Derived.Deep.Slices
import Derived.WalkMore
import Derived.WalkSpells
import Derived.Deep.RegionHeld3
import Derived.IntWalk
import Derived.RegionTactic
import Derived.WalkLawsBesides
import Derived.BigQuiet
import Derived.Test.YthkbgopimgnbgaaGreatDoorZd07
import Derived.Test.YthkbgopimgnbgaaGreatDoorZd10
import Derived.Test.YthkbgopimgnbgaaGreatDoorZd19

section
namespace Go.Proofs.YthkbgopimgnbgaaGreatDoor
open Go.RowKit
open Fr Bk
theorem fr_cut5 (k : BitVec 8) (body : Bs) (hb : body.length≤2048) (c : Nat) (hc : c < body.length + 5) : err ((fr k body).take c) = 5:=by
  have hl : ((fr k body).take c).length = c:=by rw [List.length_take,fr_len]; omega
  by_cases h : c < 2
  · exact err_short (by omega)
  · have h2 : num2 ((fr k body).take c) = body.length + 1:=by
      have:=num2_fr k body [] hb
      rw [List.append_nil] at this
      rw [← this]
      unfold num2
      rw [List.getElem?_take,List.getElem?_take,if_pos (by omega),if_pos (by omega)]
    exact err_cut (by omega) (by omega) (by omega) (by omega)
def TiOk (L : Bs) (st : Nat) (s : Ts) (t : Bs) : Prop:=∃ ms r tail,t ++ tail = encs ms∧(∀ m∈ms,m.ok = true)∧trun L st s ms = some r
theorem TiOk.step {L : Bs} {st : Nat} {s : Ts} {t : Bs} (h : TiOk L st s t) (ht : t≠[]) : get t = ⟨0#8,[],0,5⟩∨∃ x t' q,t = enc x ++ t'∧x.ok = true∧tstep L st s x = some q∧TiOk L st q t':=by
  obtain ⟨ms,r,tail,h1,h2,h3⟩:=h
  rcases ms with _ | ⟨x,ms⟩
  · have:=congrArg List.length h1
    have h0 : t.length = 0:=by rw [List.length_append] at this; have e : (encs ([] : List M)).length = 0:=rfl; omega
    exact absurd (List.eq_nil_of_length_eq_zero h0) ht
  · have hx:=h2 x List.mem_cons_self
    rw [show encs (x :: ms) = enc x ++ encs ms from rfl] at h1
    replace h3 : (match tstep L st s x with | some r=>trun L st r ms | none=>none) = some r:=h3
    by_cases hl : t.length < (enc x).length
    · left
      have e : t = (enc x).take t.length:=by
        have:=congrArg (List.take t.length) h1
        rw [List.take_left' rfl,List.take_append_of_le_length (by omega)] at this
        exact this
      rw [e]
      refine get_no (fr_cut5 _ _ (ok_len hx) _ (by rw [enc_fr,fr_len] at hl; exact hl)) (by decide)
    · right
      obtain ⟨t',ht'⟩ : ∃ t',t = enc x ++ t':=by
        refine ⟨t.drop (enc x).length,?_⟩
        have:=congrArg (List.take (enc x).length) h1
        rw [List.take_append_of_le_length (by omega),List.take_left' rfl] at this
        have h9:=List.take_append_drop (enc x).length t
        rw [this] at h9
        exact h9.symm
      rcases hq : tstep L st s x with _ | q
      · rw [hq] at h3; cases h3
      · rw [hq] at h3
        refine ⟨x,t',q,ht',hx,hq,ms,r,tail,?_,fun m hm=>h2 m (List.mem_cons_of_mem _ hm),h3⟩
        rw [ht',List.append_assoc] at h1
        exact List.append_cancel_left h1
theorem tstep_cases {L : Bs} {st : Nat} {s q : Ts} {x : M} (h : tstep L st s x = some q) : s.last = false ∧
    ((x.k = 5∧s.at_ < 0∧x.b≤L.length∧q = { s with at_:=x.b }) ∨
     (x.k = 6∧x.a = s.at_∧x.a + x.t.length≤L.length∧(L.drop x.a.toNat).take x.t.length = x.t∧x.t≠[]∧q = { s with at_:=x.a + x.t.length }) ∨
     (x.k = 7∧x.a = s.at_∧x.a < x.b∧x.b≤L.length∧s.gaps + 1≤st∧q = ⟨x.b,s.gaps + 1,false⟩) ∨
     ((x.k = 12∨x.k = 13)∧q = { s with last:=true }) ∨
     (x.k≠5∧x.k≠6∧x.k≠7∧x.k≠12∧x.k≠13∧q = s)):=by
  unfold tstep at h
  split at h
  · cases h
  · next h0 =>
    refine ⟨by simpa using h0,?_⟩
    split at h
    · next h5 =>
      split at h
      · cases h
      · next h1=>injection h with h; exact .inl ⟨h5,by omega,by omega,h.symm⟩
    split at h
    · next h6 =>
      split at h
      · cases h
      · next h1 =>
        injection h with h
        exact .inr (.inl ⟨h6,Decidable.byContradiction fun e=>h1 (.inl e),by omega,Decidable.byContradiction fun e=>h1 (.inr (.inr (.inl e))),fun e=>h1 (.inr (.inr (.inr e))),h.symm⟩)
    split at h
    · next h7 =>
      split at h
      · cases h
      · next h1=>injection h with h; exact .inr (.inr (.inl ⟨h7,by omega,by omega,by omega,by omega,h.symm⟩))
    split at h
    · next h8=>injection h with h; exact .inr (.inr (.inr (.inl ⟨h8,h.symm⟩)))
    · next h8=>injection h with h; exact .inr (.inr (.inr (.inr ⟨by assumption,by assumption,by assumption,by omega,by omega,h.symm⟩)))
set_option maxRecDepth 100000 in
set_option maxHeartbeats 4000000 in
theorem ltiled_any (t all : Bs) (st : Nat) (w : World) (ht : TiOk all st ts0 t) (hl : t.length≤100000000) (ha : all.length≤1000000) (hst : st≤9) :
    Calls Tryz.prog 9 #[.string (str t),.string (str all),.int .i64 (st : Nat)] w fun e w'=>e = .returned (.bool true)∧Below w.heap.size w w':=by
  have HT:=Lib.hid ht
  have hsa:=str_size all
  clear ht
  go_enter Tryz.func9,Tryz.ntmps9
  go_wp2
  go_loopw [0,7,8,9] (fun s0 s7 s8 s9 wr=>∃ (u : Bs) (q : Ts),s0 = .string (str u)∧s7 = .int .i64 q.at_∧s8 = .int .i64 (q.gaps : Nat)∧s9 = .bool q.last∧u.length≤t.length∧q.gaps≤st∧-1≤q.at_∧q.at_≤all.length∧Hid (TiOk all st q u)∧Below w.heap.size w wr) (fun s0 _ _ _ _=>match s0 with | .string s=>s.size | _=>0)
  case atStart=>exact ⟨t,ts0,rfl,rfl,rfl,rfl,Nat.le_refl _,Nat.zero_le _,by decide,by show (-1 : Int)≤_; omega,HT,Below.refl _ _⟩
  case round =>
    obtain ⟨u,q,rfl,rfl,rfl,rfl,hu,hg,hq1,hq2,HTi,hb⟩:=hrel
    have HB:=Lib.hid hb
    have hsz:=hb.size
    have hsu:=str_size u
    clear hb HT
    by_cases hu0 : u = []
    · subst hu0
      have d0 : decide (((0 : Nat) : Int) > 0) = false:=rfl
      go_wp2
      go_ret
      exact ⟨rfl,HB.out⟩
    have hul : 0 < u.length:=by rcases u with _ | ⟨c,u⟩; exact absurd rfl hu0; exact Nat.succ_pos _
    have d0 : decide ((u.length : Int) > 0) = true:=decide_eq_true (by omega)
    have d1 : decide (0 < (u.length : Int)) = true:=decide_eq_true (by omega)
    have d2 : decide (0 < u.length) = true:=decide_eq_true hul
    obtain ⟨cb,wb,hcb,hyb,hbb,hlb,hsb⟩:=conv_tob wr u
    have HBb:=Lib.hid (Below.trans HB.out (hbb.mono hsz))
    have hzb : w.heap.size≤wb.heap.size:=HBb.out.size
    have HYb:=Lib.hid hyb
    have HSb:=Lib.hid hsb
    have HLb:=Lib.hid hlb
    clear hyb hbb hlb hsb hul HB
    rcases HTi.out.step hu0 with h5 | ⟨x,u',q',hue,hx,hstep,hnext⟩
    · have HG5:=Lib.hid h5
      clear h5 HTi
      go_wp2_with fail
      refine (get_anyF (some ⟨wr.heap.size,0,none⟩) u.length cb (wr.heap.size + 1) _ wb HYb.out HSb.out HLb.out (by omega)).mono ?_
      rintro e w3 ⟨A3,c3,rfl,hby,hb3,hfresh,hcp⟩
      rw [HG5.out] at hby hcp ⊢
      have HB3:=Lib.hid (Below.trans HBb.out (hb3.mono hzb))
      have HA3:=Lib.hid (fun o=>HB3.out.alloc HB3.out.size o)
      clear hby hb3 hfresh hcp
      go_wp2
      go_ret
      exact ⟨rfl,HA3.out _⟩
    have hg : get u = ⟨(fm x).1,(fm x).2,(fm x).2.length + 5,0⟩:=by rw [hue,enc_fr]; exact get_fr _ _ _ (ok_len hx)
    have hmf:=mof_fm hx
    have htl : x.t.length≤maxLen:=by
      have:=Ms.rt_n hx
      have:=Ms.tx_le x.k
      unfold maxLen
      omega
    have hlen : (fm x).2.length + 5 + u'.length = u.length:=by rw [hue,List.length_append,enc_fr,fr_len]
    have hdr : u.drop ((fm x).2.length + 5) = u':=by rw [hue,List.drop_left' (by rw [enc_fr]; exact fr_len _ _)]
    have hab:=Ms.rt_a hx
    obtain ⟨hlast,hcs⟩:=tstep_cases hstep
    have HCS:=Lib.hid hcs
    have HNx:=Lib.hid hnext
    have HH:=Lib.hid (And.intro hg (And.intro hdr hmf))
    have hx0:=hx
    clear hg hdr hmf hue hx hstep hnext hcs HTi
    obtain ⟨f,hf⟩ : ∃ f,fm x = f:=⟨_,rfl⟩
    rw [hf] at HH hlen
    clear hf
    have hcut : (str u).extract (f.2.length + 5) u.length = str u':=by rw [s_cut,List.take_of_length_le (Nat.le_refl _),HH.out.2.1]
    go_wp2_with fail
    refine (get_anyF (some ⟨wr.heap.size,0,none⟩) u.length cb (wr.heap.size + 1) _ wb HYb.out HSb.out HLb.out (by omega)).mono ?_
    rintro e w3 ⟨A3,c3,rfl,hby,hb3,hfresh,hcp⟩
    rw [HH.out.1] at hby hcp ⊢
    have HB3:=Lib.hid (Below.trans HBb.out (hb3.mono hzb))
    have HBy:=Lib.hid hby
    have hsz3 : w.heap.size≤w3.heap.size:=HB3.out.size
    have hcp : f.2.length≤c3:=hcp
    have hal : ∀ o,Below w3.heap.size w3 (w3.alloc o):=fun o=>(Below.refl _ _).alloc (Nat.le_refl _) o
    have HO1:=Lib.hid (hal (.cells #[.int .u8 f.1.toNat,.slice A3 f.2.length c3] 92))
    have hx1:=Bx.new w3 _ rfl #[.int .u8 f.1.toNat,.slice A3 f.2.length c3] 92
    have x0:=hx1.cell 0 _ rfl
    have x1:=hx1.cell 1 _ rfl
    have hOf:=mof_any f.1 A3 f.2.length c3 w3.heap.size f.2 (w3.alloc (.cells #[.int .u8 f.1.toNat,.slice A3 f.2.length c3] 92)) (HBy.out.below (hal _)) (by simp) hcp (by omega)
    have HOf:=Lib.hid hOf
    have hd0 : ((0 : Int) != 0) = false:=rfl
    clear hby hb3 hfresh hal hx1 hOf HBb HYb HSb HLb hcb
    go_wp2_with fail
    refine HOf.out.mono ?_
    rintro e w4 ⟨hpost,hb4⟩
    obtain rfl:=of_mof hpost
    rw [HH.out.2.2]
    have HB4:=Lib.hid (HB3.out.trans (HO1.out.mono hsz3 |>.trans (hb4.mono (Nat.le_trans hsz3 HO1.out.size))))
    have hz4 : w.heap.size≤w4.heap.size:=HB4.out.size
    have hmv : mvalo (some x) = .agg #[.int .i64 x.k,.int .i64 x.a,.int .i64 x.b,.string (str x.t)]:=rfl
    have his : (some x).isSome = true:=rfl
    rw [hmv,his]
    clear hmv his hb4 hpost x0 x1 HOf HO1 HBy
    have hx4:=Bx.new w4 _ rfl #[.int .i64 x.k,.int .i64 x.a,.int .i64 x.b,.string (str x.t)] 60
    have HB5:=Lib.hid (HB4.out.alloc hz4 (.cells #[.int .i64 x.k,.int .i64 x.a,.int .i64 x.b,.string (str x.t)] 60))
    go_upto_region 9 with fail
    generalize w4.alloc (.cells #[.int .i64 x.k,.int .i64 x.a,.int .i64 x.b,.string (str x.t)] 60) = w5 at *
    have y0:=hx4.cell 0 (.int .i64 x.k) rfl
    have y1:=hx4.cell 1 (.int .i64 x.a) rfl
    have y2:=hx4.cell 2 (.int .i64 x.b) rfl
    have y3:=hx4.cell 3 (.string (str x.t)) rfl
    have hN1 : ((f.2.length : Int) + 5)≤(u.length : Int):=by omega
    obtain ⟨qa,qg,ql⟩:=q
    replace hlast : ql = false:=hlast
    replace hg : qg≤st:=hg
    replace hq1 : -1≤qa:=hq1
    replace hq2 : qa≤(all.length : Int):=hq2
    subst hlast
    clear hx4 HB4 HB3
    rcases HCS.out with ⟨hk,h1,h2,rfl⟩ | ⟨hk,h1,h2,h3,h4,rfl⟩ | ⟨hk,h1,h2,h3,h4,rfl⟩ | ⟨hk,rfl⟩ | ⟨hk5,hk6,hk7,hk12,hk13,rfl⟩
    · have k5 : decide (x.k = 5) = true:=decide_eq_true hk
      have b5 : (x.k == 5) = true:=by simp [hk]
      have k6 : decide (x.k = 6) = false:=decide_eq_false (by omega)
      have b6 : (x.k == 6) = false:=by have : x.k≠6:=(by omega); simp [this]
      have k7 : decide (x.k = 7) = false:=decide_eq_false (by omega)
      have b7 : (x.k == 7) = false:=by have : x.k≠7:=(by omega); simp [this]
      have k12 : decide (x.k = 12) = false:=decide_eq_false (by omega)
      have b12 : (x.k == 12) = false:=by have : x.k≠12:=(by omega); simp [this]
      have k13 : decide (x.k = 13) = false:=decide_eq_false (by omega)
      have b13 : (x.k == 13) = false:=by have : x.k≠13:=(by omega); simp [this]
      have e1 : decide (qa ≥ 0) = false:=decide_eq_false (by show ¬ qa ≥ 0; have : qa < 0:=h1; omega)
      have e2 : decide (0≤qa) = false:=decide_eq_false (by have : qa < 0:=h1; omega)
      have e3 : decide (x.b > (all.length : Int)) = false:=decide_eq_false (by omega)
      have e4 : decide ((all.length : Int) < x.b) = false:=decide_eq_false (by omega)
      have hb1:=Ms.rt_b hx0
      clear hk h1
      go_wp2
      go_roundw
      case rel=>exact ⟨u',⟨x.b,qg,false⟩,by go_num,rfl,rfl,rfl,by omega,by show qg≤st; omega,by show (-1 : Int)≤x.b; omega,by show x.b≤(all.length : Int); omega,HNx,HB5.out⟩
      case measure=>simp only [hcut]; show (str u').size < (str u).size; rw [str_size,str_size]; omega
    · have k5 : decide (x.k = 5) = false:=decide_eq_false (by omega)
      have b5 : (x.k == 5) = false:=by have : x.k≠5:=(by omega); simp [this]
      have k6 : decide (x.k = 6) = true:=decide_eq_true hk
      have b6 : (x.k == 6) = true:=by simp [hk]
      have k7 : decide (x.k = 7) = false:=decide_eq_false (by omega)
      have b7 : (x.k == 7) = false:=by have : x.k≠7:=(by omega); simp [this]
      have k12 : decide (x.k = 12) = false:=decide_eq_false (by omega)
      have b12 : (x.k == 12) = false:=by have : x.k≠12:=(by omega); simp [this]
      have k13 : decide (x.k = 13) = false:=decide_eq_false (by omega)
      have b13 : (x.k == 13) = false:=by have : x.k≠13:=(by omega); simp [this]
      obtain ⟨a,ha⟩ : ∃ a : Nat,x.a = (a : Nat):=⟨x.a.toNat,by omega⟩
      rw [ha] at y1 h1 h2 h3
      obtain rfl : (a : Int) = qa:=h1
      obtain ⟨n,hn⟩ : ∃ n,x.t.length = n:=⟨_,rfl⟩
      have hst:=str_size x.t
      rw [hn] at hst h2 h3
      have hext : (str all).extract a (a + n) = str x.t:=by
        rw [s_cut,List.drop_take,show a + n - a = n by omega]
        rw [show ((a : Int)).toNat = a by omega] at h3
        rw [h3]
      have e3 : decide ((a : Int) + (n : Int) > (all.length : Int)) = false:=decide_eq_false (by omega)
      have e4 : decide ((all.length : Int) < (a : Int) + (n : Int)) = false:=decide_eq_false (by omega)
      have e5 : ((str x.t).toList == (str x.t).toList) = true:=by simp
      have e6 : (str x.t).toList.isEmpty = false:=by
        rcases hx9 : x.t with _ | ⟨c,r⟩
        · exact absurd hx9 h4
        · rw [ByteArray.toList_eq]; rfl
      have HQ:=Lib.hid (show (⟨x.a + x.t.length,qg,false⟩ : Ts) = ⟨(a : Int) + (n : Int),qg,false⟩ by rw [ha,hn])
      have HNx:=Lib.hid (show TiOk all st ⟨(a : Int) + (n : Int),qg,false⟩ u' by rw [← HQ.out]; exact HNx.out)
      clear hk h3 h4 ha hn
      go_wp2_with fail
      go_quiet (fail)
      go_wp2
      go_roundw
      case rel=>exact ⟨u',⟨(a : Int) + (n : Int),qg,false⟩,by go_num,by go_num,rfl,rfl,by omega,by show qg≤st; omega,by show (-1 : Int)≤(a : Int) + (n : Int); omega,by show (a : Int) + (n : Int)≤(all.length : Int); omega,HNx,below_drewN HB5.out _⟩
      case measure=>show (str u').size < (str u).size; rw [str_size,str_size]; omega
    · have k5 : decide (x.k = 5) = false:=decide_eq_false (by omega)
      have b5 : (x.k == 5) = false:=by have : x.k≠5:=(by omega); simp [this]
      have k6 : decide (x.k = 6) = false:=decide_eq_false (by omega)
      have b6 : (x.k == 6) = false:=by have : x.k≠6:=(by omega); simp [this]
      have k7 : decide (x.k = 7) = true:=decide_eq_true hk
      have b7 : (x.k == 7) = true:=by simp [hk]
      have k12 : decide (x.k = 12) = false:=decide_eq_false (by omega)
      have b12 : (x.k == 12) = false:=by have : x.k≠12:=(by omega); simp [this]
      have k13 : decide (x.k = 13) = false:=decide_eq_false (by omega)
      have b13 : (x.k == 13) = false:=by have : x.k≠13:=(by omega); simp [this]
      rw [h1] at y1 h2
      have e1 : decide (x.b≤qa) = false:=decide_eq_false (by show ¬ x.b≤qa; have : qa < x.b:=h2; omega)
      have e3 : decide (x.b > (all.length : Int)) = false:=decide_eq_false (by omega)
      have e4 : decide ((all.length : Int) < x.b) = false:=decide_eq_false (by omega)
      have h4 : qg + 1≤st:=h4
      have e5 : decide ((qg : Int) + 1 > (st : Int)) = false:=decide_eq_false (by omega)
      have e6 : decide ((st : Int) < (qg : Int) + 1) = false:=decide_eq_false (by omega)
      have h2 : qa < x.b:=h2
      have HNx:=Lib.hid (show TiOk all st ⟨x.b,qg + 1,false⟩ u' from HNx.out)
      clear hk h1
      go_wp2
      go_roundw
      case rel=>exact ⟨u',⟨x.b,qg + 1,false⟩,by go_num,rfl,by go_num,rfl,by omega,by show qg + 1≤st; omega,by show (-1 : Int)≤x.b; omega,by show x.b≤(all.length : Int); omega,HNx,HB5.out⟩
      case measure=>simp only [hcut]; show (str u').size < (str u).size; rw [str_size,str_size]; omega
    · rcases hk with hk | hk
      · have k5 : decide (x.k = 5) = false:=decide_eq_false (by omega)
        have b5 : (x.k == 5) = false:=by have : x.k≠5:=(by omega); simp [this]
        have k6 : decide (x.k = 6) = false:=decide_eq_false (by omega)
        have b6 : (x.k == 6) = false:=by have : x.k≠6:=(by omega); simp [this]
        have k7 : decide (x.k = 7) = false:=decide_eq_false (by omega)
        have b7 : (x.k == 7) = false:=by have : x.k≠7:=(by omega); simp [this]
        have k12 : decide (x.k = 12) = true:=decide_eq_true hk
        have b12 : (x.k == 12) = true:=by simp [hk]
        have k13 : decide (x.k = 13) = false:=decide_eq_false (by omega)
        have b13 : (x.k == 13) = false:=by have : x.k≠13:=(by omega); simp [this]
        clear hk
        go_wp2
        go_roundw
        case rel=>exact ⟨u',⟨qa,qg,true⟩,by go_num,rfl,rfl,rfl,by omega,by show qg≤st; omega,by show (-1 : Int)≤qa; omega,by show qa≤(all.length : Int); omega,HNx,HB5.out⟩
        case measure=>simp only [hcut]; show (str u').size < (str u).size; rw [str_size,str_size]; omega
      · have k5 : decide (x.k = 5) = false:=decide_eq_false (by omega)
        have b5 : (x.k == 5) = false:=by have : x.k≠5:=(by omega); simp [this]
        have k6 : decide (x.k = 6) = false:=decide_eq_false (by omega)
        have b6 : (x.k == 6) = false:=by have : x.k≠6:=(by omega); simp [this]
        have k7 : decide (x.k = 7) = false:=decide_eq_false (by omega)
        have b7 : (x.k == 7) = false:=by have : x.k≠7:=(by omega); simp [this]
        have k12 : decide (x.k = 12) = false:=decide_eq_false (by omega)
        have b12 : (x.k == 12) = false:=by have : x.k≠12:=(by omega); simp [this]
        have k13 : decide (x.k = 13) = true:=decide_eq_true hk
        have b13 : (x.k == 13) = true:=by simp [hk]
        clear hk
        go_wp2
        go_roundw
        case rel=>exact ⟨u',⟨qa,qg,true⟩,by go_num,rfl,rfl,rfl,by omega,by show qg≤st; omega,by show (-1 : Int)≤qa; omega,by show qa≤(all.length : Int); omega,HNx,HB5.out⟩
        case measure=>simp only [hcut]; show (str u').size < (str u).size; rw [str_size,str_size]; omega
    · have k5 : decide (x.k = 5) = false:=decide_eq_false hk5
      have b5 : (x.k == 5) = false:=by have : x.k≠5:=hk5; simp [this]
      have k6 : decide (x.k = 6) = false:=decide_eq_false hk6
      have b6 : (x.k == 6) = false:=by have : x.k≠6:=hk6; simp [this]
      have k7 : decide (x.k = 7) = false:=decide_eq_false hk7
      have b7 : (x.k == 7) = false:=by have : x.k≠7:=hk7; simp [this]
      have k12 : decide (x.k = 12) = false:=decide_eq_false hk12
      have b12 : (x.k == 12) = false:=by have : x.k≠12:=hk12; simp [this]
      have k13 : decide (x.k = 13) = false:=decide_eq_false hk13
      have b13 : (x.k == 13) = false:=by have : x.k≠13:=hk13; simp [this]
      clear hk5 hk6 hk7 hk12 hk13
      go_wp2
      go_roundw
      case rel=>exact ⟨u',⟨qa,qg,false⟩,by go_num,rfl,rfl,rfl,by omega,by show qg≤st; omega,by show (-1 : Int)≤qa; omega,by show qa≤(all.length : Int); omega,HNx,HB5.out⟩
      case measure=>simp only [hcut]; show (str u').size < (str u).size; rw [str_size,str_size]; omega
end Go.Proofs.YthkbgopimgnbgaaGreatDoor
end
