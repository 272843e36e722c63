/- BrokerChunks: for every input the law answers true, and its arguments read as before. Conditions: none. -/
import Derived.Test.YtjmdddhbdofppaaGreatDoorZc10
import Derived.Test.YtjmdddhbdofppaaGreatDoorZc19
import Derived.Test.YtjmdddhbdofppaaGreatDoorZc42
import Derived.Test.YtjmdddhbdofppaaGreatDoorZcLd
import Derived.Test.YtjmdddhbdofppaaGreatDoorZcQq

namespace Go.Proofs.YtjmdddhbdofppaaGreatDoor.brokerChunks
open Go.ChangeShapes Go.WideShapes Go.ChangeAt Go.RowKit
open Fr Bk
def wTwo : Bs:=[116#8,119#8,111#8]
noncomputable def ck1 : Br:=connectB (bnew cfd) 1
noncomputable def ck2 : Br:=connectB ck1 2
noncomputable def ckB : Br:=bytesB ck2 2 (enc (helloM wTwo))
theorem ck1_is : connectE (bnew cfd) 1 = 0∧ck1 = setc (bnew cfd) 1 (some cnew):=connect_new (b:=bnew cfd) (k:=1) (by decide) (by decide) rfl
theorem ck2_is : connectE ck1 2 = 0∧ck2 = setc ck1 2 (some cnew):=connect_new (b:=ck1) (k:=2) (by decide) (by decide) (by rw [ck1_is.2]; rfl)
theorem ck2_cs (j : Nat) : ck2.cs j = if j = 2 then some cnew else if j = 1 then some cnew else none:=by
  rw [ck2_is.2,ck1_is.2]
  rfl
set_option maxRecDepth 100000 in
theorem ckB_is : bytesE ck2 2 = 0∧Ck ckB∧ckB.cs 1 = some cnew:=by
  have hc2 : ck2.cs 2 = some cnew:=by rw [ck2_cs]; rfl
  obtain ⟨e1,e2⟩:=bytes_one (b:=ck2) (k:=2) (c:=cnew) (m:=helloM wTwo) (by decide) (by decide) hc2 rfl (by decide) (hello_ok (by decide))
  have hev:=(((cfd_ok.connect 1).connect 2).bytes 2 (enc (helloM wTwo)))
  have hL : ck2.L = []:=by rw [ck2_is.2,ck1_is.2]; rfl
  have hfl : ck2.fl = fnew 100:=by rw [ck2_is.2,ck1_is.2]; rfl
  have hto : ck2.told = 0:=by rw [ck2_is.2,ck1_is.2]; rfl
  have hen : ck2.ended = false:=by rw [ck2_is.2,ck1_is.2]; rfl
  have hcf : ck2.cf = cfd:=by rw [ck2_is.2,ck1_is.2]; rfl
  have hI : In16 ck2:=fun j hj=>by
    rw [ck2_cs] at hj
    split at hj
    · omega
    · split at hj
      · omega
      · cases hj
  have hf:=hello_fits (b:=ck2) (k:=2) (m:=helloM wTwo) hI hc2 rfl (by decide) (hello_ok (by decide)) rfl (show (5 : Int) / 4 = 1 by decide) (by decide) (fun j c hc=>by
    rw [hcf]
    rw [ck2_cs] at hc
    split at hc
    · injection hc with hc; subst hc; decide
    · split at hc
      · injection hc with hc; subst hc; decide
      · cases hc)
  rw [show ({ cnew with idle:=0 } : Cn) = cnew from rfl,setc_as hc2,hf] at e1
  obtain ⟨y,hy⟩ : ∃ y,setFl (setc (mapc ck2 (hear (joined 2 (helloM wTwo).t))) 2 (some (come ck2 2 cnew (helloM wTwo)))) (fjoin ck2.fl 2 (comeRole ck2 (helloM wTwo))) = y:=⟨_,rfl⟩
  rw [show ((2 : Nat) : Int) = 2 from rfl] at e1 e2
  rw [hy] at e1
  obtain ⟨hcm1,hcm2,_,_,_,_,hcm7,_⟩:=come_is ck2 2 cnew (helloM wTwo)
  have hcm3 : (come ck2 2 cnew (helloM wTwo)).out≠[]:=by
    rw [hcm1]
    unfold greet
    intro h
    have:=congrArg List.length h
    simp only [List.length_append,enc_len5,List.length_nil] at this
    omega
  have hro : comeRole ck2 (helloM wTwo) = 2:=by
    unfold comeRole
    rw [hfl]
    rfl
  have hyL : y.L = []:=by rw [← hy]; exact hL
  have hyf : y.fl = fjoin (fnew 100) 2 2:=by rw [← hy,hro,hfl]; rfl
  have hyt : y.told = 0:=by rw [← hy]; exact hto
  have hy1 : y.cs 1 = some cnew:=by
    rw [← hy]
    show (if (1 : Nat) = 2 then some (come ck2 2 cnew (helloM wTwo)) else (ck2.cs 1).map (hear (joined 2 (helloM wTwo).t))) = some cnew
    rw [if_neg (by decide),ck2_cs]
    rfl
  have hy2 : y.cs 2 = some (come ck2 2 cnew (helloM wTwo)):=by
    rw [← hy]
    show (if (2 : Nat) = 2 then some (come ck2 2 cnew (helloM wTwo)) else (ck2.cs 2).map (hear (joined 2 (helloM wTwo).t))) = some (come ck2 2 cnew (helloM wTwo))
    rw [if_pos rfl]
  have hyn : ∀ j,(y.cs j).isSome = true→j = 1∨j = 2:=fun j hj=>by
    rw [← hy] at hj
    by_cases h2 : j = 2
    · exact .inr h2
    · refine .inl ?_
      have hj : ((if j = 2 then some (come ck2 2 cnew (helloM wTwo)) else (ck2.cs j).map (hear (joined 2 (helloM wTwo).t))).isSome) = true:=hj
      rw [if_neg h2,Option.isSome_map,ck2_cs,if_neg h2] at hj
      split at hj
      · assumption
      · cases hj
  have hyfl : fhold y.fl = y.told:=by rw [hyf,hyt]; decide
  have hrest : Bk.Rest y:=by
    refine ⟨hyfl,fun k c hc _=>?_,fun k c hc h2=>?_⟩
    · refine next_end ?_
      rw [hyL]
      rcases hyn k (by rw [hc]; rfl) with rfl | rfl
      · rw [hy1] at hc
        injection hc with hc
        subst hc
        rfl
      · rw [hy2] at hc
        injection hc with hc
        subst hc
        rw [hcm7]
        have : comeAt ck2 (helloM wTwo)≤ck2.L.length:=viewAt_le _ _ _ _
        rw [hL] at this
        exact Nat.le_zero.1 this
    · rcases hyn k (by rw [hc]; rfl) with rfl | rfl
      · rw [hy1] at hc
        injection hc with hc
        subst hc
        exact absurd h2 (by decide)
      · rw [hy2] at hc
        injection hc with hc
        subst hc
        rw [hcm2] at h2
        exact absurd h2 (by decide)
  rw [holder_same hyfl,settle_rest hrest] at e1
  have hck : ckB = y:=e1
  rw [hck]
  refine ⟨e2,⟨?_,hyL,⟨hyn,fun c hc=>?_,fun c hc=>?_⟩,hyfl⟩,hy1⟩
  · rw [← hck]; exact hev.ok
  · rw [hy2] at hc
    injection hc with hc
    rw [← hc]; exact hcm3
  · rw [hy1] at hc
    injection hc with hc
    rw [← hc]; rfl
theorem ck_ev : EvOk ckB 0 4300 0:=by
  have h:=(((cfd_ok.connect 1).connect 2).bytes 2 (enc (helloM wTwo)))
  exact ⟨h.ok,h.cn,Nat.le_trans h.tot (by rw [enc_len5]; decide),h.len,h.sp⟩
theorem each_ev (T : Bs) : ∀ i,i≤T.length→EvOk (each ckB (T.take i)) 0 (4300 + i * 2053) 0
  | 0,_=>by rw [List.take_zero]; exact ck_ev
  | i + 1,hi=>by
    have h:=(each_ev T i (by omega)).bytes 1 [T[i]'(by omega)]
    have e : T.take (i + 1) = T.take i ++ [T[i]'(by omega)]:=by rw [List.take_add_one,List.getElem?_eq_getElem (by omega)]; rfl
    rw [e,each_snoc]
    exact ⟨h.ok,h.cn,Nat.le_trans h.tot (by simp only [List.length_cons,List.length_nil]; omega),h.len,h.sp⟩
theorem bytes_drew2 {w : World} {B n : Nat} {a : Option Addr} {l : Bs} (h : Bytes w B a n l) : Bytes w.drew B a n l:=h.keep fun _ _=>rfl
theorem lb2_add {w0 w w' : World} {S T : Nat→Prop} {ga gb : Nat} {a b : Br} (h : LB2 w0 S ga gb w a b) (hb : Below w.heap.size w w') (hT : ∀ x,T x→w.heap.size≤x∧x < w'.heap.size) : LB2 w0 T ga gb w' a b:=by
  obtain ⟨Fa,ra,Fb,rb,h1,h2,h3,h4,h5,h6,_⟩:=h
  obtain ⟨ya,_,hya⟩:=_root_.id h1
  obtain ⟨yb,_,hyb⟩:=_root_.id h2
  exact ⟨Fa,ra,Fb,rb,h1.quiet (only_of_below hb),h2.quiet (only_of_below hb),h3,h4.trans (hb.mono h4.size),h5,h6,fun x hx=>⟨(hT x hx).2,fun hf=>by have:=hya.lt hf; have:=(hT x hx).1; omega,fun hf=>by have:=hyb.lt hf; have:=(hT x hx).1; omega⟩⟩
structure CkO (xa xb : Br) : Prop where
  eva : EvOk xa 0 2000000 2000
  evb : EvOk xb 0 2000000 2000
  e : Bk.E xa = Bk.E xb
structure CkE (xa xb : Br) : Prop where
  eva : EvOk xa 0 2000000 1000
  evb : EvOk xb 0 2000000 1000
  e : Bk.E xa = Bk.E xb
theorem ck_begin (T : Bs) (hT : T.length≤600) : CkE (bytesB ckB 1 T) (each ckB T):=by
  have h1:=ck_ev.bytes 1 T
  have h2:=each_ev T T.length (Nat.le_refl _)
  rw [List.take_length] at h2
  exact ⟨⟨h1.ok,h1.cn,Nat.le_trans h1.tot (by omega),Nat.le_trans h1.len (by omega),h1.sp⟩,⟨h2.ok,h2.cn,Nat.le_trans h2.tot (by omega),Nat.le_trans h2.len (by omega),h2.sp⟩,(chunks ckB_is.2.1 ckB_is.2.2 (by decide) rfl rfl T).symm⟩
theorem CkO.fl {xa xb : Br} (h : CkO xa xb) : xb.fl = xa.fl:=(congrArg Br.fl h.e).symm
theorem CkO.inp {xa xb : Br} (h : CkO xa xb) : xb.inp = xa.inp:=(congrArg Br.inp h.e).symm
theorem E_wait (b : Br) (id : Int) : waitB (Bk.E b) id = waitB b id:=by
  unfold waitB
  rw [E_there,E_cs]
  rcases b.cs id.toNat with _ | c <;> rfl
theorem CkO.wait {xa xb : Br} (h : CkO xa xb) (id : Int) : waitB xb id = waitB xa id:=by rw [← E_wait xa,← E_wait xb,h.e]
theorem CkO.write {xa xb : Br} (h : CkO xa xb) (id n : Int) : writeT xb id n = writeT xa id n∧writeE xb id = writeE xa id∧CkO (writeB xa id n) (writeB xb id n):=by
  obtain ⟨a1,a2,a3⟩:=E_write xa id n
  obtain ⟨b1,b2,b3⟩:=E_write xb id n
  exact ⟨by rw [← a1,← b1,h.e],by rw [← a2,← b2,h.e],h.eva.write _ _,h.evb.write _ _,by rw [← a3,← b3,h.e]⟩
theorem CkO.drain {xa xb : Br} (h : CkO xa xb) (n : Int) : drainT xb n = drainT xa n:=by unfold drainT; rw [h.inp]
theorem CkE.output {xa xb : Br} (h : CkE xa xb) {t : Bs} (ht : t.length≤600) : CkO (outputB xa t) (outputB xb t):=by
  have h1:=h.eva.output t (by omega)
  have h2:=h.evb.output t (by omega)
  exact ⟨⟨h1.ok,h1.cn,h1.tot,Nat.le_trans h1.len (by omega),h1.sp⟩,⟨h2.ok,h2.cn,h2.tot,Nat.le_trans h2.len (by omega),h2.sp⟩,by rw [← E_output,← E_output,h.e]⟩
set_option maxRecDepth 100000 in
theorem bdrain3 {F : Fp} {g : Nat} {rs : List (Int×Int)} {w : World} {b : Br} (h : BrIs F g rs w b) (n : Int) : Calls Tryz.prog 38 #[.pointer (some (at0 g)),.int .i64 n] w fun e w' =>
    ∃ A m c F2,e = .returned (.slice A m c)∧BrIs F2 g rs w' (drainB b n)∧(∀ x,Own1 F2 x→Own1 F x∨w.heap.size≤x)∧Only (Own1 F) w w'∧Bytes w' w'.heap.size A m (drainT b n)∧∀ p,A = some p→w.heap.size≤p.block:=by
  obtain ⟨y,rfl,h⟩:=h
  have HT:=Lib.hid (q_take2 h.toInp n)
  have HB:=Lib.hid h
  unfold drainB drainT
  clear h
  go_enter Tryz.func38,Tryz.ntmps38
  go_wp2_with fail
  refine HT.out.mono ?_
  rintro e w1 ⟨rfl,hby,hq,ho⟩
  obtain ⟨F2,hb2,hs2⟩:=HB.out.ofInp (b':={ b with inp:=b.inp.drop (takeN n b.inp.length) }) hq (fun x hx=>.inl hx) ho (fun _ _=>rfl) rfl rfl rfl rfl rfl
  have HR:=Lib.hid (And.intro hb2 (And.intro hs2 (And.intro (ho.mono (T:=Own1 F) fun x _ hx=>hx.elim (fun h=>⟨_,h⟩) (fun h=>⟨_,h⟩)) hby)))
  clear hby hq ho hb2 hs2 HT
  go_wp2
  exact bodyPost_ret (v:=.slice (some ⟨w.heap.size,0,none⟩) (takeN n b.inp.length) (takeN n b.inp.length)) (by simp [results,Tryz.results38,go_sem]) rfl ⟨_,_,_,F2,rfl,HR.out.1,HR.out.2.1,HR.out.2.2.1,HR.out.2.2.2,fun p hp=>by injection hp with hp; subst hp; exact Nat.le_refl _⟩
def LBd (w0 : World) (S : Nat→Prop) (ga gb N : Nat) (w : World) (a b : Br) : Prop:=
  ∃ Fa ra Fb rb,BrIs Fa ga ra w a∧BrIs Fb gb rb w b∧TI w0∧Below w0.heap.size w0 w∧(∀ x,Own1 Fa x→w0.heap.size≤x∧¬ Own1 Fb x)∧(∀ x,Own1 Fb x→w0.heap.size≤x)∧(∀ x,S x→x < w.heap.size∧¬ Own1 Fa x∧¬ Own1 Fb x)∧∀ x,Own1 Fb x→x < N
theorem lbd_first {w0 w : World} {S : Nat→Prop} {ga gb : Nat} {a b : Br} (h : LB2 w0 S ga gb w a b) (n : Int) : Calls Tryz.prog 38 #[.pointer (some (at0 ga)),.int .i64 n] w fun e w' =>
    ∃ A m c,e = .returned (.slice A m c)∧Bytes w' w'.heap.size A m (drainT a n)∧(∀ p,A = some p→w.heap.size≤p.block)∧Only (fun x=>w0.heap.size≤x∧¬ S x) w w'∧LBd w0 S ga gb w.heap.size w' (drainB a n) b:=by
  obtain ⟨Fa,ra,Fb,rb,h1,h2,h3,h4,h5,h6,h7⟩:=h
  obtain ⟨yb,_,hyb⟩:=_root_.id h2
  refine (bdrain3 h1 n).mono ?_
  rintro e w' ⟨A,m,c,F2,rfl,g1,g2,g3,g4,g5⟩
  refine ⟨A,m,c,rfl,g4,g5,g3.mono fun x _ hs=>⟨(h5 x hs).1,fun hx=>(h7 x hx).2.1 hs⟩,F2,ra,Fb,rb,g1,h2.aside g3 (fun x hx hs=>(h5 x hs).2 hx) h3 h4 h6 (fun x hs=>(h5 x hs).1),h3,h4.trans (g3.below h4.size fun x hx hs=>by have:=(h5 x hs).1; omega),fun x hx=>?_,h6,fun x hx=>?_,fun x hx=>hyb.lt hx⟩
  · rcases g2 x hx with hs | hs
    · exact h5 x hs
    · exact ⟨Nat.le_trans h4.size hs,fun hf=>by have:=hyb.lt hf; omega⟩
  · refine ⟨Nat.lt_of_lt_of_le (h7 x hx).1 g3.size,fun hf=>?_,(h7 x hx).2.2⟩
    rcases g2 x hf with hs | hs
    · exact (h7 x hx).2.1 hs
    · have:=(h7 x hx).1; omega
theorem lbd_second {w0 w : World} {S : Nat→Prop} {ga gb N : Nat} {a b : Br} (h : LBd w0 S ga gb N w a b) (n : Int) : Calls Tryz.prog 38 #[.pointer (some (at0 gb)),.int .i64 n] w fun e w' =>
    ∃ A m c,e = .returned (.slice A m c)∧Bytes w' w'.heap.size A m (drainT b n)∧Only (fun x=>w0.heap.size≤x∧¬ S x∧x < N) w w'∧LB2 w0 S ga gb w' a (drainB b n):=by
  obtain ⟨Fa,ra,Fb,rb,h1,h2,h3,h4,h5,h6,h7,h8⟩:=h
  have hs : LB2 w0 S gb ga w b a:=LB2.symm ⟨Fa,ra,Fb,rb,h1,h2,h3,h4,h5,h6,h7⟩
  refine (bdrain3 h2 n).mono ?_
  rintro e w' ⟨A,m,c,F2,rfl,g1,g2,g3,g4,_⟩
  obtain ⟨q1,_⟩:=LB2.gives h2 h1 h3 h4 (fun x hx=>⟨h6 x hx,fun hf=>(h5 x hf).2 hx⟩) (fun x hx=>(h5 x hx).1) (fun x hx=>⟨(h7 x hx).1,(h7 x hx).2.2,(h7 x hx).2.1⟩) g1 g2 g3
  exact ⟨A,m,c,rfl,g4,g3.mono fun x _ hf=>⟨h6 x hf,fun hx=>(h7 x hx).2.2 hf,h8 x hf⟩,q1.symm⟩
def ckS (Ap Aq : Option Addr) (mp mq N : Nat) (tw : Bs) (W : World) : Prop:=Bytes W N Ap mp tw∧Bytes W N Aq mq tw
def ckT (Ap Aq : Option Addr) (x : Nat) : Prop:=(∃ p,Ap = some p∧p.block = x)∨∃ p,Aq = some p∧p.block = x
theorem ckS.only {Ap Aq : Option Addr} {mp mq N : Nat} {tw : Bs} {W W' : World} {T : Nat→Prop} (h : ckS Ap Aq mp mq N tw W) (hN : N≤W.heap.size) (ho : Only T W W') (hT : ∀ x,T x→¬ ckT Ap Aq x) : ckS Ap Aq mp mq N tw W':=
  ⟨h.1.only ho hN fun _ p hp ht=>hT _ ht (.inl ⟨p,hp,rfl⟩),h.2.only ho hN fun _ p hp ht=>hT _ ht (.inr ⟨p,hp,rfl⟩)⟩
set_option maxRecDepth 100000 in
set_option maxHeartbeats 8000000 in
theorem walk (a0 : Option Addr) (len0 cap0 : Nat) (z0 : List Int) (a1 : Option Addr) (len1 cap1 : Nat) (z1 : List Int) (w : World) (w0 : IsRow .u8 w a0 len0 cap0 z0) (w1 : IsRow .u8 w a1 len1 cap1 z1) (ht : TI w) :
    Calls Tryz.prog 12 #[.slice a0 len0 cap0,.slice a1 len1 cap1] w fun e w'=>e = .returned (.bool true)∧Below w.heap.size w w':=by
  have hmix : Tryz.prog.follows .mixedOrders = true:=by kernel_rfl
  have HTI:=Lib.hid ht
  obtain ⟨sd,hsl,_⟩:=w0.bytes
  obtain ⟨hsc,hsm⟩:=w0.cap
  obtain ⟨ot,hol,_⟩:=w1.bytes
  obtain ⟨hoc,hom⟩:=w1.cap
  have hsd : sd.length = len0:=hsl.1
  have hot : ot.length = len1:=hol.1
  have HS:=Lib.hid hsl
  have HOt:=Lib.hid hol
  have HOC:=Lib.hid hoc
  have hid1 : wf64 1:=by decide
  have hid2 : wf64 2:=by decide
  clear ht w0 w1 hsl hol hoc hom
  go_enter Tryz.func12,Tryz.ntmps12
  go_wp2_with fail
  refine (bhead_any w HTI.out).mono ?_
  rintro e w1 ⟨rfl,hb1⟩
  have HB1:=Lib.hid hb1
  clear hb1
  by_cases h600 : 600 < len0
  · have d6 : decide ((len0 : Int) > 600) = true:=decide_eq_true (by omega)
    have d7 : decide (600 < (len0 : Int)) = true:=decide_eq_true (by omega)
    have HS0:=HS
    have HO0:=HOt
    have HO1:=HOC
    clear HS0 HO0 HO1
    go_wp2
    go_ret
    exact ⟨rfl,HB1.out⟩
  have d6 : decide ((len0 : Int) > 600) = false:=decide_eq_false (by omega)
  have d7 : decide (600 < (len0 : Int)) = false:=decide_eq_false (by omega)
  by_cases h601 : 600 < len1
  · have d8 : decide ((len1 : Int) > 600) = true:=decide_eq_true (by omega)
    have d9 : decide (600 < (len1 : Int)) = true:=decide_eq_true (by omega)
    go_wp2
    go_ret
    exact ⟨rfl,HB1.out⟩
  have d8 : decide ((len1 : Int) > 600) = false:=decide_eq_false (by omega)
  have d9 : decide (600 < (len1 : Int)) = false:=decide_eq_false (by omega)
  have hs600 : len0≤600:=by omega
  have ho600 : len1≤600:=by omega
  clear h600 h601
  go_wp2_with fail
  refine (default_any _).mono ?_
  rintro e w3 ⟨rfl,hb3⟩
  have HB3:=Lib.hid (Below.trans HB1.out (hb3.mono HB1.out.size))
  have HT3:=Lib.hid (HTI.out.below HB3.out)
  clear hb3 HB1
  go_wp2_with fail
  refine (lb_new cfd_right w3 HT3.out).mono ?_
  rintro e w4 ⟨ga,rfl,hl4,hb4⟩
  have HL4:=Lib.hid hl4
  have HB4:=Lib.hid hb4
  clear hl4 hb4
  go_wp2_with fail
  refine (default_any _).mono ?_
  rintro e w5 ⟨rfl,hb5⟩
  have HL5:=Lib.hid (HL4.out.below hb5)
  have HB5:=Lib.hid (Below.trans HB4.out (hb5.mono HB4.out.size))
  clear hb5 HL4 HB4
  go_wp2_with fail
  refine (lb2_new cfd_right HL5.out HT3.out HB5.out).mono ?_
  rintro e w6 ⟨gb,rfl,hl6,hb6⟩
  have HL6:=Lib.hid hl6
  have hw3 : w.heap.size≤w3.heap.size:=HB3.out.size
  clear hl6 hb6 HL5 HB5 HT3
  go_upto_region 9 with fail
  have HX7:=Lib.hid (Bx.new w6 _ rfl #[.pointer (some (at0 ga)),.pointer (some (at0 gb))] 27)
  have hb7 : Below w6.heap.size w6 (w6.alloc (.cells #[.pointer (some (at0 ga)),.pointer (some (at0 gb))] 27)):=(Below.refl _ _).alloc (Nat.le_refl _) _
  have HL7:=Lib.hid (lb2_add (T:=fun x=>x = w6.heap.size) HL6.out hb7 (fun x hx=>by subst hx; exact ⟨Nat.le_refl _,HX7.out.room⟩))
  clear hb7 HL6
  go_upto_region 10 with fail
  generalize w6.alloc (.cells #[.pointer (some (at0 ga)),.pointer (some (at0 gb))] 27) = w7 at *
  generalize w6.heap.size = gr at *
  go_loopw [38] (fun s wr=>∃ j : Nat,s = .int .i64 (j : Nat)∧((j = 0∧LB2 w3 (fun x=>x = gr) ga gb wr (bnew cfd) (bnew cfd))∨(j = 1∧LB2 w3 (fun x=>x = gr) ga gb wr ckB (bnew cfd))∨(j = 2∧LB2 w3 (fun x=>x = gr) ga gb wr ckB ckB))∧Bx gr wr #[.pointer (some (at0 ga)),.pointer (some (at0 gb))]) (fun s _=>2 - (intOf s).toNat)
  case atStart=>exact ⟨0,rfl,.inl ⟨rfl,HL7.out⟩,HX7.out⟩
  case round =>
    obtain ⟨j,rfl,hj,hxr⟩:=hrel
    have HXr:=Lib.hid hxr
    have hc0:=hxr.cell 0 (.pointer (some (at0 ga))) rfl
    have hc1:=hxr.cell 1 (.pointer (some (at0 gb))) rfl
    clear hxr HL7 HX7
    rcases hj with ⟨rfl,hl⟩ | ⟨rfl,hl⟩ | ⟨rfl,hl⟩
    · have HH:=Lib.hid hl
      clear hl
      have HL0:=HH
      go_wp2_with fail
      refine (lb2_connect HL0.out cfd_ok.ok 1 hid1).mono ?_
      rintro e wa ⟨rfl,hla,hoa⟩
      rw [ck1_is.1]
      have HLa:=Lib.hid (show LB2 w3 (fun x=>x = gr) ga gb wa ck1 (bnew cfd) from hla)
      have HXa:=Lib.hid (HXr.out.keep hoa (fun h=>h.2 rfl))
      clear hla hoa HL0 HH HXr hc0 hc1
      go_wp2_with fail
      refine (lb2_connect HLa.out (cfd_ok.connect 1).ok 2 hid2).mono ?_
      rintro e wa2 ⟨rfl,hla,hoa⟩
      rw [ck2_is.1]
      have HLa2:=Lib.hid (show LB2 w3 (fun x=>x = gr) ga gb wa2 ck2 (bnew cfd) from hla)
      have HXa2:=Lib.hid (HXa.out.keep hoa (fun h=>h.2 rfl))
      clear hla hoa HLa HXa
      go_wp2_with fail
      refine (lhello_any wTwo (by decide) wa2).mono ?_
      rintro e wb ⟨A7,c7,rfl,hy7,hn7,_,hb7⟩
      have HWb:=Lib.hid (LW2.made (n:=(enc (helloM wTwo)).length) HLa2.out hb7 hn7)
      have HYb:=Lib.hid hy7
      have HXb:=Lib.hid (HXa2.out.go hb7 HXa2.out.room)
      clear hy7 hn7 hb7 HLa2 HXa2
      go_wp2_with fail
      refine (lb2_bytes HWb.out ((cfd_ok.connect 1).connect 2) (by decide) 2 hid2 c7 HYb.out (by rw [enc_len5]; decide)).mono ?_
      rintro e wc ⟨rfl,hlc,hoc⟩
      rw [ckB_is.1]
      have HLc:=Lib.hid (show LB2 w3 (fun x=>x = gr) ga gb wc ckB (bnew cfd) from hlc)
      have HXc:=Lib.hid (HXb.out.keep hoc (fun h=>h.2 rfl))
      clear hlc hoc HWb HYb HXb
      go_wp2
      go_roundw
      case rel=>exact ⟨1,by go_num,.inr (.inl ⟨rfl,HLc.out⟩),HXc.out⟩
      case measure=>simp [intOf]
    · have HH:=Lib.hid hl.symm
      clear hl
      have HL0:=HH
      go_wp2_with fail
      refine (lb2_connect HL0.out cfd_ok.ok 1 hid1).mono ?_
      rintro e wa ⟨rfl,hla,hoa⟩
      rw [ck1_is.1]
      have HLa:=Lib.hid (show LB2 w3 (fun x=>x = gr) gb ga wa ck1 ckB from hla)
      have HXa:=Lib.hid (HXr.out.keep hoa (fun h=>h.2 rfl))
      clear hla hoa HL0 HH HXr hc0 hc1
      go_wp2_with fail
      refine (lb2_connect HLa.out (cfd_ok.connect 1).ok 2 hid2).mono ?_
      rintro e wa2 ⟨rfl,hla,hoa⟩
      rw [ck2_is.1]
      have HLa2:=Lib.hid (show LB2 w3 (fun x=>x = gr) gb ga wa2 ck2 ckB from hla)
      have HXa2:=Lib.hid (HXa.out.keep hoa (fun h=>h.2 rfl))
      clear hla hoa HLa HXa
      go_wp2_with fail
      refine (lhello_any wTwo (by decide) wa2).mono ?_
      rintro e wb ⟨A7,c7,rfl,hy7,hn7,_,hb7⟩
      have HWb:=Lib.hid (LW2.made (n:=(enc (helloM wTwo)).length) HLa2.out hb7 hn7)
      have HYb:=Lib.hid hy7
      have HXb:=Lib.hid (HXa2.out.go hb7 HXa2.out.room)
      clear hy7 hn7 hb7 HLa2 HXa2
      go_wp2_with fail
      refine (lb2_bytes HWb.out ((cfd_ok.connect 1).connect 2) (by decide) 2 hid2 c7 HYb.out (by rw [enc_len5]; decide)).mono ?_
      rintro e wc ⟨rfl,hlc,hoc⟩
      rw [ckB_is.1]
      have HLc:=Lib.hid (show LB2 w3 (fun x=>x = gr) ga gb wc ckB ckB from hlc.symm)
      have HXc:=Lib.hid (HXb.out.keep hoc (fun h=>h.2 rfl))
      clear hlc hoc HWb HYb HXb
      go_wp2
      go_roundw
      case rel=>exact ⟨2,by go_num,.inr (.inr ⟨rfl,HLc.out⟩),HXc.out⟩
      case measure=>simp [intOf]
    · have HL8:=Lib.hid (LB2.none (T:=fun _=>False) hl (fun x hx=>hx.elim))
      clear hl hc0 hc1 HXr
      have hS3 : ∀ p,0 < len0→a0 = some p→p.block < w3.heap.size:=fun p hp e=>by
        obtain ⟨b9,off9,e9,h9,_⟩:=HS.out.2 hp
        rw [e] at e9
        injection e9 with e9
        subst e9
        show b9 < w3.heap.size
        omega
      have HS3:=Lib.hid hS3
      have HBr:=Lib.hid (HB3.out.trans (HL8.out.below0.mono hw3))
      clear hS3
      go_wp2_with fail
      refine (lb2_bytes (LW2.old (n:=len0) HL8.out (fun hp p e=>HS3.out p hp e)) ck_ev (by decide) 1 hid1 cap0 (HS.out.below HBr.out) (by omega)).mono ?_
      rintro e w9 ⟨rfl,hl9,ho9⟩
      obtain ⟨xa,hxa⟩ : ∃ y,bytesB ckB 1 sd = y:=⟨_,rfl⟩
      rw [hxa] at hl9
      have HL9:=Lib.hid hl9
      have HXA:=Lib.hid hxa
      clear hl9 ho9 hxa HL8 HBr
      go_wp2
      try rw [show ((2 : Nat) : Int) = 2 from rfl]
      go_loopw [55] (fun s wr=>∃ i : Nat,s = .int .i64 (i : Nat)∧i≤len0∧LB2 w3 (fun _=>False) ga gb wr xa (each ckB (sd.take i))) (fun s _=>len0 - (intOf s).toNat)
      case atStart=>exact ⟨0,rfl,Nat.zero_le _,by rw [List.take_zero]; exact HL9.out⟩
      case round =>
        obtain ⟨i,rfl,hi,hl⟩:=hrel
        have HL:=Lib.hid hl
        have HBr:=Lib.hid (HB3.out.trans (hl.below0.mono hw3))
        clear hl HL9
        by_cases hil : i < len0
        · have di : decide ((i : Int) < (len0 : Int)) = true:=decide_eq_true (by omega)
          obtain ⟨b9,o9,rfl,h9,_⟩:=HS.out.2 (by omega)
          have hne : ¬ cap0 = i:=by omega
          have hcut:=((HS.out.below HBr.out).cut2 (cap:=cap0) (j:=i) (by omega) hsc hne).take (k:=1) (by omega)
          have he1 : (sd.drop i).take 1 = [sd[i]'(by omega)]:=by rw [List.drop_eq_getElem_cons (by omega)]; rfl
          rw [he1] at hcut
          have hsn : each ckB (sd.take (i + 1)) = bytesB (each ckB (sd.take i)) 1 [sd[i]'(by omega)]:=by
            rw [← each_snoc]
            congr 1
            rw [List.take_add_one,List.getElem?_eq_getElem (by omega)]
            rfl
          have HSn:=Lib.hid hsn
          have hA9 : (⟨b9,o9 + i,none⟩ : Addr).block < w3.heap.size:=HS3.out ⟨b9,o9,none⟩ (by omega) rfl
          have HBy:=Lib.hid (lb2_bytes (LW2.old (n:=1) HL.out.symm (A:=some ⟨b9,o9 + i,none⟩) (fun _ p e=>by injection e with e; subst e; exact hA9)) (each_ev sd i (by omega)) (by omega) 1 hid1 (cap0 - i) hcut (by decide))
          clear hcut he1 hsn hA9 HBr
          go_wp2_with fail
          refine HBy.out.mono ?_
          rintro e wx ⟨rfl,hlx,hox⟩
          have HLx:=Lib.hid (show LB2 w3 (fun _=>False) ga gb wx xa (each ckB (sd.take (i + 1))) by rw [HSn.out]; exact hlx.symm)
          clear hlx hox HBy HL HSn
          go_wp2
          go_roundw
          case rel=>exact ⟨i + 1,by go_num,by omega,HLx.out⟩
          case measure=>simp [intOf]; omega
        · obtain rfl : i = len0:=by omega
          have di : decide ((i : Int) < (i : Int)) = false:=decide_eq_false (by omega)
          obtain ⟨xb,hxb⟩ : ∃ y,each ckB (sd.take i) = y:=⟨_,rfl⟩
          have HCk:=Lib.hid (show CkE xa xb by rw [← HXA.out,← hxb,List.take_of_length_le (by omega)]; exact ck_begin sd (by omega))
          have HLb:=Lib.hid (show LB2 w3 (fun _=>False) ga gb wr xa xb by rw [← hxb]; exact HL.out)
          have hO3 : ∀ p,0 < len1→a1 = some p→p.block < w3.heap.size:=fun p hp e=>by
            obtain ⟨b9,off9,e9,h9,_⟩:=HOt.out.2 hp
            rw [e] at e9
            injection e9 with e9
            subst e9
            show b9 < w3.heap.size
            omega
          have HO3:=Lib.hid hO3
          have HOu:=Lib.hid (lb2_output (c2:=cap1) (LW2.old (n:=len1) HLb.out (fun hp p e=>HO3.out p hp e)) HCk.out.eva (HOt.out.below HBr.out) HBr.out.size HOC.out (by omega))
          clear hO3 hxb HL HS HS3 HXA
          go_wp2_with fail
          refine HOu.out.mono ?_
          rintro e wo ⟨rfl,hlo,hoo⟩
          have HLo:=Lib.hid hlo.symm
          have HBo:=Lib.hid (HB3.out.trans (hlo.below0.mono hw3))
          have HOu2:=Lib.hid (lb2_output (c2:=cap1) (LW2.old (n:=len1) HLo.out (fun hp p e=>HO3.out p hp e)) HCk.out.evb (HOt.out.below HBo.out) HBo.out.size HOC.out (by omega))
          clear hlo hoo HOu HLb HBr
          go_wp2_with fail
          refine HOu2.out.mono ?_
          rintro e wp ⟨rfl,hlp,hop⟩
          obtain ⟨ya,hya⟩ : ∃ y,outputB xa ot = y:=⟨_,rfl⟩
          obtain ⟨yb,hyb⟩ : ∃ y,outputB xb ot = y:=⟨_,rfl⟩
          have HC2:=Lib.hid (show CkO ya yb by rw [← hya,← hyb]; exact HCk.out.output (by omega))
          have HLp:=Lib.hid (show LB2 w3 (fun _=>False) ga gb wp ya yb by rw [← hya,← hyb]; exact hlp.symm)
          have HH1:=Lib.hid (lb_holder HLp.out.x HC2.out.eva.ok)
          clear hlp hop hya hyb HOu2 HLo HBo HCk HO3 HOt HOC
          go_wp2_with fail
          refine HH1.out.mono ?_
          rintro e wq ⟨rfl,_,hbq⟩
          have HLq:=Lib.hid (HLp.out.below hbq)
          have HH2:=Lib.hid (lb_holder HLq.out.symm.x HC2.out.evb.ok)
          clear hbq HLp HH1
          go_wp2_with fail
          refine HH2.out.mono ?_
          rintro e wr2 ⟨rfl,_,hbr⟩
          rw [HC2.out.fl]
          have HLr:=Lib.hid (HLq.out.below hbr)
          have HW1:=Lib.hid (lb_waiting HLr.out.x 2 hid2)
          have HW2:=lb_waiting HLr.out.symm.x 2 hid2
          rw [HC2.out.wait] at HW2
          have HW2:=Lib.hid HW2
          clear hbr HLq HH2
          go_wp2_with fail
          refine HW1.out.mono ?_
          rintro e w9 ⟨rfl,rfl⟩
          go_wp2_with fail
          refine HW2.out.mono ?_
          rintro e w9 ⟨rfl,rfl⟩
          clear HW1 HW2
          obtain ⟨f1,f2,f3⟩:=HC2.out.write 2 70000
          obtain ⟨tw,htw⟩ : ∃ y,writeT ya 2 70000 = y:=⟨_,rfl⟩
          obtain ⟨we,hwe⟩ : ∃ y,writeE ya 2 = y:=⟨_,rfl⟩
          have HWa:=lb2_write HLr.out HC2.out.eva.ok 2 70000 hid2
          rw [htw,hwe] at HWa
          rw [htw] at f1
          rw [hwe] at f2
          have HWa:=Lib.hid HWa
          have HF1:=Lib.hid f1
          have HF2:=Lib.hid f2
          have HF3:=Lib.hid f3
          clear f1 f2 f3 htw hwe
          go_wp2_with fail
          refine HWa.out.mono ?_
          rintro e ws ⟨Ap,mp,cp,rfl,hls,hos,hys,_⟩
          have HLs:=Lib.hid hls.symm
          have HYs:=Lib.hid hys
          have HWb:=lb2_write HLs.out HC2.out.evb.ok 2 70000 hid2
          rw [HF1.out,HF2.out] at HWb
          have HWb:=Lib.hid HWb
          clear hls hos hys HWa HLr
          go_wp2_with fail
          refine HWb.out.mono ?_
          rintro e wt ⟨Aq,mq,cq,rfl,hlt,hot2,hyt,_⟩
          have HLt:=Lib.hid (LB2.none (T:=ckT Ap Aq) hlt.symm (fun x hx=>hx.elim (fun h=>.inl (.inr h)) .inr))
          have hS0 : ckS Ap Aq mp mq wt.heap.size tw wt.drew:=⟨bytes_drew2 ((HYs.out.only hot2 (Nat.le_refl _) fun _ p hp hn=>hn.2 (.inr ⟨p,hp,rfl⟩)).more hot2.size),bytes_drew2 hyt⟩
          have hsr : ((str tw).toList == (str tw).toList) = true:=by simp
          obtain ⟨za,hza⟩ : ∃ y,writeB ya 2 70000 = y:=⟨_,rfl⟩
          obtain ⟨zb,hzb⟩ : ∃ y,writeB yb 2 70000 = y:=⟨_,rfl⟩
          have HC3:=Lib.hid (show CkO za zb by rw [← hza,← hzb]; exact HF3.out)
          rw [hza,hzb] at HLt
          have HLd:=Lib.hid (LB2.below HLt.out (below_drew (Below.refl _ _)))
          have HD1:=Lib.hid (lbd_first HLd.out 1000)
          clear hlt hot2 hyt HWb HLs HYs HC2 HF1 HF2 HF3 hza hzb
          go_wp2_with fail
          refine wp_region_held (S:=fun W=>ckS Ap Aq mp mq wt.heap.size tw W) hmix ?_
          change wpAnyH _ _ _ _ _ _ _ _ (World.drew _)
          refine wpAnyH_take (i:=0) (v:=.slice Ap mp cp) rfl (by kernel_rfl) (by kernel_rfl) (by kernel_rfl) (fun _ _ _ h=>h) (.inl ⟨by kernel_rfl,fun W hW=>?_⟩) hS0 ?_
          · go_simp; try (first | rfl | (intro hh; exfalso; omega))
          refine wpAnyH_take (i:=1) (v:=.string (str tw)) rfl (by kernel_rfl) (by kernel_rfl) (by kernel_rfl) (fun _ _ _ h=>h) (.inl ⟨by kernel_rfl,fun W hW=>?_⟩) hS0 ?_
          · have hcv:=conv_str (cap:=cp) hW.1; go_simp; try (first | rfl | (intro hh; exfalso; omega))
          refine wpAnyH_take (i:=2) (v:=.slice Aq mq cq) rfl (by kernel_rfl) (by kernel_rfl) (by kernel_rfl) (fun _ _ _ h=>h) (.inl ⟨by kernel_rfl,fun W hW=>?_⟩) hS0 ?_
          · go_simp; try (first | rfl | (intro hh; exfalso; omega))
          refine wpAnyH_take (i:=3) (v:=.string (str tw)) rfl (by kernel_rfl) (by kernel_rfl) (by kernel_rfl) (fun _ _ _ h=>h) (.inl ⟨by kernel_rfl,fun W hW=>?_⟩) hS0 ?_
          · have hcv:=conv_str (cap:=cq) hW.2; go_simp; try (first | rfl | (intro hh; exfalso; omega))
          refine wpAnyH_take (i:=4) (v:=.bool true) rfl (by kernel_rfl) (by kernel_rfl) (by kernel_rfl) (fun _ _ _ h=>h) (.inl ⟨by kernel_rfl,fun W hW=>?_⟩) hS0 ?_
          · go_simp; try (first | rfl | (intro hh; exfalso; omega))
          refine wpAnyH_take (i:=5) (v:=.bool true) rfl (by kernel_rfl) (by kernel_rfl) (by kernel_rfl) (fun _ _ _ h=>h) (.inl ⟨by kernel_rfl,fun W hW=>?_⟩) hS0 ?_
          · go_simp; try (first | rfl | (intro hh; exfalso; omega))
          refine wpAnyH_take (i:=6) (v:=.int .i64 (we : Nat)) rfl (by kernel_rfl) (by kernel_rfl) (by kernel_rfl) (fun _ _ _ h=>h) (.inl ⟨by kernel_rfl,fun W hW=>?_⟩) hS0 ?_
          · go_simp; try (first | rfl | (intro hh; exfalso; omega))
          refine wpAnyH_take (i:=7) (v:=.int .i64 (we : Nat)) rfl (by kernel_rfl) (by kernel_rfl) (by kernel_rfl) (fun _ _ _ h=>h) (.inl ⟨by kernel_rfl,fun W hW=>?_⟩) hS0 ?_
          · go_simp; try (first | rfl | (intro hh; exfalso; omega))
          refine wpAnyH_take (i:=8) (v:=.bool true) rfl (by kernel_rfl) (by kernel_rfl) (by kernel_rfl) (fun _ _ _ h=>h) (.inl ⟨by kernel_rfl,fun W hW=>?_⟩) hS0 ?_
          · go_simp; try (first | rfl | (intro hh; exfalso; omega))
          refine wpAnyH_take (i:=9) (v:=.bool true) rfl (by kernel_rfl) (by kernel_rfl) (by kernel_rfl) (fun _ _ _ h=>h) (.inl ⟨by kernel_rfl,fun W hW=>?_⟩) hS0 ?_
          · go_simp; try (first | rfl | (intro hh; exfalso; omega))
          refine wpAnyH_take (i:=10) (v:=.bool true) rfl (by kernel_rfl) (by kernel_rfl) (by kernel_rfl) (fun _ _ _ h=>h) (.inl ⟨by kernel_rfl,fun W hW=>?_⟩) hS0 ?_
          · go_simp; try (first | rfl | (intro hh; exfalso; omega))
          refine wpAnyH_take (i:=11) (v:=.pointer (some (at0 ga))) rfl (by kernel_rfl) (by kernel_rfl) (by kernel_rfl) (fun _ _ _ h=>h) (.inl ⟨by kernel_rfl,fun W hW=>?_⟩) hS0 ?_
          · go_simp; try (first | rfl | (intro hh; exfalso; omega))
          refine wpAnyH_take (i:=14) (v:=.pointer (some (at0 gb))) rfl (by kernel_rfl) (by kernel_rfl) (by kernel_rfl) (fun _ _ _ h=>h) (.inl ⟨by kernel_rfl,fun W hW=>?_⟩) hS0 ?_
          · go_simp; try (first | rfl | (intro hh; exfalso; omega))
          refine wpAnyH_all (rs:=[12]) (by kernel_rfl) (by simp) ?_
          intro z hz
          rw [List.mem_singleton.1 hz]
          clear hz
          unfold wpOp
          go_simp
          refine .inl ?_
          refine HD1.out.mono ?_
          rintro e wu ⟨Ad,md,cd,rfl,hyd,hnd,hod,hld⟩
          have hS1:=hS0.only (Nat.le_refl _) hod (fun x hx=>hx.2)
          have hS1s : wt.heap.size≤wu.heap.size:=hod.size
          have hcvd:=conv_str (cap:=cd) hyd
          have HYd:=Lib.hid hyd
          have HNd:=Lib.hid hnd
          have HD2:=lbd_second hld 1000
          rw [HC3.out.drain] at HD2
          obtain ⟨dt,hdt⟩ : ∃ y,drainT za 1000 = y:=⟨_,rfl⟩
          rw [hdt] at HD2 hcvd HYd
          have HD2:=Lib.hid HD2
          have hsd : ((str dt).toList == (str dt).toList) = true:=by simp
          clear hyd hnd hod hld hdt
          refine ⟨hS1,?_⟩
          refine wpAnyH_all (rs:=[13,15]) (by kernel_rfl) (by simp) ?_
          intro z hz
          rcases List.mem_cons.1 hz with rfl | hz
          · clear hz
            unfold wpOp
            go_simp
            refine .inl ?_
            refine wpAnyH_all (rs:=[15]) (by kernel_rfl) (by simp) ?_
            intro z hz
            rw [List.mem_singleton.1 hz]
            clear hz
            unfold wpOp
            go_simp
            refine .inl ?_
            refine HD2.out.mono ?_
            rintro e wv ⟨Ae,me,ce,rfl,hye,hoe,hle⟩
            have hS2:=hS1.only hS1s hoe (fun x hx=>hx.2.1)
            have hcve:=conv_str (cap:=ce) hye
            have hcvd:=conv_str (cap:=cd) (HYd.out.only hoe (Nat.le_refl _) fun _ p hp hn=>by have h1:=HNd.out p hp; have h2:=hn.2.2; omega)
            have HLv2:=Nat.le_trans hS1s hoe.size
            have HLv:=Lib.hid hle
            have HU1:=Lib.hid (lb2_users hle (HC3.out.eva.drain 1000).ok)
            clear hye hoe hle HD2
            refine ⟨hS2,?_⟩
            have hS2s : wt.heap.size≤wv.heap.size:=HLv2
            refine wpAnyH_all (rs:=[16]) (by kernel_rfl) (by simp) ?_
            intro z hz
            rw [List.mem_singleton.1 hz]
            clear hz
            unfold wpOp
            go_simp
            refine .inl ?_
            clear hcve hcvd
            refine wpAnyH_take (i:=17) (v:=.bool true) rfl (by kernel_rfl) (by kernel_rfl) (by kernel_rfl) (fun _ _ _ h=>h) (.inl ⟨by kernel_rfl,fun W hW=>?_⟩) hS2 ?_
            · go_simp; try (first | rfl | (intro hh; exfalso; omega))
            refine wpAnyH_take (i:=18) (v:=.bool true) rfl (by kernel_rfl) (by kernel_rfl) (by kernel_rfl) (fun _ _ _ h=>h) (.inl ⟨by kernel_rfl,fun W hW=>?_⟩) hS2 ?_
            · go_simp; try (first | rfl | (intro hh; exfalso; omega))
            refine wpAnyH_take (i:=19) (v:=.bool true) rfl (by kernel_rfl) (by kernel_rfl) (by kernel_rfl) (fun _ _ _ h=>h) (.inl ⟨by kernel_rfl,fun W hW=>?_⟩) hS2 ?_
            · go_simp; try (first | rfl | (intro hh; exfalso; omega))
            refine wpAnyH_take (i:=20) (v:=.pointer (some (at0 ga))) rfl (by kernel_rfl) (by kernel_rfl) (by kernel_rfl) (fun _ _ _ h=>h) (.inl ⟨by kernel_rfl,fun W hW=>?_⟩) hS2 ?_
            · go_simp; try (first | rfl | (intro hh; exfalso; omega))
            refine wpAnyH_take (i:=23) (v:=.pointer (some (at0 gb))) rfl (by kernel_rfl) (by kernel_rfl) (by kernel_rfl) (fun _ _ _ h=>h) (.inl ⟨by kernel_rfl,fun W hW=>?_⟩) hS2 ?_
            · go_simp; try (first | rfl | (intro hh; exfalso; omega))
            refine wpAnyH_all (rs:=[21]) (by kernel_rfl) (by simp) ?_
            intro z hz
            rw [List.mem_singleton.1 hz]
            clear hz
            unfold wpOp
            go_simp
            refine .inl ?_
            refine HU1.out.mono ?_
            rintro e ww ⟨Au,nu,cu,rfl,hlu,hou,hnu⟩
            have hS3:=hS2.only hS2s hou (fun x hx=>hx.2)
            have hS3s:=Nat.le_trans hS2s hou.size
            have HU2:=Lib.hid (lb2_users hlu.symm (HC3.out.evb.drain 1000).ok)
            have HNu:=Lib.hid hnu
            clear hou hlu HU1 hnu
            refine ⟨hS3,?_⟩
            refine wpAnyH_take (i:=22) (v:=.int .i64 (nu : Nat)) rfl (by kernel_rfl) (by kernel_rfl) (by kernel_rfl) (fun _ _ _ h=>h) (.inl ⟨by kernel_rfl,fun W hW=>?_⟩) hS3 ?_
            · go_simp; try (first | rfl | (intro hh; exfalso; omega))
            refine wpAnyH_all (rs:=[24]) (by kernel_rfl) (by simp) ?_
            intro z hz
            rw [List.mem_singleton.1 hz]
            clear hz
            unfold wpOp
            go_simp
            refine .inl ?_
            refine HU2.out.mono ?_
            rintro e wx2 ⟨Av,nv,cv2,rfl,hlv,hov,hnv⟩
            obtain rfl : nv = nu:=by rw [hnv,HNu.out]; show zb.fl.roles.length = za.fl.roles.length; rw [HC3.out.fl]
            have hS4:=hS3.only hS3s hov (fun x hx=>hx.2)
            have HLw:=Lib.hid hlv
            clear hov hlv HU2 hnv HNu
            refine ⟨hS4,?_⟩
            refine wpAnyH_take (i:=25) (v:=.int .i64 (nv : Nat)) rfl (by kernel_rfl) (by kernel_rfl) (by kernel_rfl) (fun _ _ _ h=>h) (.inl ⟨by kernel_rfl,fun W hW=>?_⟩) hS4 ?_
            · go_simp; try (first | rfl | (intro hh; exfalso; omega))
            refine wpAnyH_take (i:=26) (v:=.bool true) rfl (by kernel_rfl) (by kernel_rfl) (by kernel_rfl) (fun _ _ _ h=>h) (.inl ⟨by kernel_rfl,fun W hW=>?_⟩) hS4 ?_
            · go_simp; try (first | rfl | (intro hh; exfalso; omega))
            refine wpAnyH_take (i:=27) (v:=.bool true) rfl (by kernel_rfl) (by kernel_rfl) (by kernel_rfl) (fun _ _ _ h=>h) (.inl ⟨by kernel_rfl,fun W hW=>?_⟩) hS4 ?_
            · go_simp; try (first | rfl | (intro hh; exfalso; omega))
            refine wpAnyH_take (i:=28) (v:=.bool true) rfl (by kernel_rfl) (by kernel_rfl) (by kernel_rfl) (fun _ _ _ h=>h) (.inl ⟨by kernel_rfl,fun W hW=>?_⟩) hS4 ?_
            · go_simp; try (first | rfl | (intro hh; exfalso; omega))
            refine wpAnyH_done (by kernel_rfl) ?_ _
            go_simp
            go_wp2
            exact bodyPost_ret (v:=.bool true) (by simp [results,Tryz.results12,go_sem]) rfl ⟨rfl,HB3.out.trans (HLw.out.below0.mono hw3)⟩
          · rw [List.mem_singleton.1 hz]
            clear hz
            unfold wpOp
            go_simp
            refine .inl ?_
            refine HD2.out.mono ?_
            rintro e wv ⟨Ae,me,ce,rfl,hye,hoe,hle⟩
            have hS2:=hS1.only hS1s hoe (fun x hx=>hx.2.1)
            have hcve:=conv_str (cap:=ce) hye
            have hcvd:=conv_str (cap:=cd) (HYd.out.only hoe (Nat.le_refl _) fun _ p hp hn=>by have h1:=HNd.out p hp; have h2:=hn.2.2; omega)
            have HLv2:=Nat.le_trans hS1s hoe.size
            have HLv:=Lib.hid hle
            have HU1:=Lib.hid (lb2_users hle (HC3.out.eva.drain 1000).ok)
            clear hye hoe hle HD2
            refine ⟨hS2,?_⟩
            have hS2s : wt.heap.size≤wv.heap.size:=HLv2
            refine wpAnyH_all (rs:=[13,16]) (by kernel_rfl) (by simp) ?_
            intro z hz
            rcases List.mem_cons.1 hz with rfl | hz
            · clear hz
              unfold wpOp
              go_simp
              refine .inl ?_
              refine wpAnyH_all (rs:=[16]) (by kernel_rfl) (by simp) ?_
              intro z hz
              rw [List.mem_singleton.1 hz]
              clear hz
              unfold wpOp
              go_simp
              refine .inl ?_
              clear hcve hcvd
              refine wpAnyH_take (i:=17) (v:=.bool true) rfl (by kernel_rfl) (by kernel_rfl) (by kernel_rfl) (fun _ _ _ h=>h) (.inl ⟨by kernel_rfl,fun W hW=>?_⟩) hS2 ?_
              · go_simp; try (first | rfl | (intro hh; exfalso; omega))
              refine wpAnyH_take (i:=18) (v:=.bool true) rfl (by kernel_rfl) (by kernel_rfl) (by kernel_rfl) (fun _ _ _ h=>h) (.inl ⟨by kernel_rfl,fun W hW=>?_⟩) hS2 ?_
              · go_simp; try (first | rfl | (intro hh; exfalso; omega))
              refine wpAnyH_take (i:=19) (v:=.bool true) rfl (by kernel_rfl) (by kernel_rfl) (by kernel_rfl) (fun _ _ _ h=>h) (.inl ⟨by kernel_rfl,fun W hW=>?_⟩) hS2 ?_
              · go_simp; try (first | rfl | (intro hh; exfalso; omega))
              refine wpAnyH_take (i:=20) (v:=.pointer (some (at0 ga))) rfl (by kernel_rfl) (by kernel_rfl) (by kernel_rfl) (fun _ _ _ h=>h) (.inl ⟨by kernel_rfl,fun W hW=>?_⟩) hS2 ?_
              · go_simp; try (first | rfl | (intro hh; exfalso; omega))
              refine wpAnyH_take (i:=23) (v:=.pointer (some (at0 gb))) rfl (by kernel_rfl) (by kernel_rfl) (by kernel_rfl) (fun _ _ _ h=>h) (.inl ⟨by kernel_rfl,fun W hW=>?_⟩) hS2 ?_
              · go_simp; try (first | rfl | (intro hh; exfalso; omega))
              refine wpAnyH_all (rs:=[21]) (by kernel_rfl) (by simp) ?_
              intro z hz
              rw [List.mem_singleton.1 hz]
              clear hz
              unfold wpOp
              go_simp
              refine .inl ?_
              refine HU1.out.mono ?_
              rintro e ww ⟨Au,nu,cu,rfl,hlu,hou,hnu⟩
              have hS3:=hS2.only hS2s hou (fun x hx=>hx.2)
              have hS3s:=Nat.le_trans hS2s hou.size
              have HU2:=Lib.hid (lb2_users hlu.symm (HC3.out.evb.drain 1000).ok)
              have HNu:=Lib.hid hnu
              clear hou hlu HU1 hnu
              refine ⟨hS3,?_⟩
              refine wpAnyH_take (i:=22) (v:=.int .i64 (nu : Nat)) rfl (by kernel_rfl) (by kernel_rfl) (by kernel_rfl) (fun _ _ _ h=>h) (.inl ⟨by kernel_rfl,fun W hW=>?_⟩) hS3 ?_
              · go_simp; try (first | rfl | (intro hh; exfalso; omega))
              refine wpAnyH_all (rs:=[24]) (by kernel_rfl) (by simp) ?_
              intro z hz
              rw [List.mem_singleton.1 hz]
              clear hz
              unfold wpOp
              go_simp
              refine .inl ?_
              refine HU2.out.mono ?_
              rintro e wx2 ⟨Av,nv,cv2,rfl,hlv,hov,hnv⟩
              obtain rfl : nv = nu:=by rw [hnv,HNu.out]; show zb.fl.roles.length = za.fl.roles.length; rw [HC3.out.fl]
              have hS4:=hS3.only hS3s hov (fun x hx=>hx.2)
              have HLw:=Lib.hid hlv
              clear hov hlv HU2 hnv HNu
              refine ⟨hS4,?_⟩
              refine wpAnyH_take (i:=25) (v:=.int .i64 (nv : Nat)) rfl (by kernel_rfl) (by kernel_rfl) (by kernel_rfl) (fun _ _ _ h=>h) (.inl ⟨by kernel_rfl,fun W hW=>?_⟩) hS4 ?_
              · go_simp; try (first | rfl | (intro hh; exfalso; omega))
              refine wpAnyH_take (i:=26) (v:=.bool true) rfl (by kernel_rfl) (by kernel_rfl) (by kernel_rfl) (fun _ _ _ h=>h) (.inl ⟨by kernel_rfl,fun W hW=>?_⟩) hS4 ?_
              · go_simp; try (first | rfl | (intro hh; exfalso; omega))
              refine wpAnyH_take (i:=27) (v:=.bool true) rfl (by kernel_rfl) (by kernel_rfl) (by kernel_rfl) (fun _ _ _ h=>h) (.inl ⟨by kernel_rfl,fun W hW=>?_⟩) hS4 ?_
              · go_simp; try (first | rfl | (intro hh; exfalso; omega))
              refine wpAnyH_take (i:=28) (v:=.bool true) rfl (by kernel_rfl) (by kernel_rfl) (by kernel_rfl) (fun _ _ _ h=>h) (.inl ⟨by kernel_rfl,fun W hW=>?_⟩) hS4 ?_
              · go_simp; try (first | rfl | (intro hh; exfalso; omega))
              refine wpAnyH_done (by kernel_rfl) ?_ _
              go_simp
              go_wp2
              exact bodyPost_ret (v:=.bool true) (by simp [results,Tryz.results12,go_sem]) rfl ⟨rfl,HB3.out.trans (HLw.out.below0.mono hw3)⟩
            · rw [List.mem_singleton.1 hz]
              clear hz
              unfold wpOp
              go_simp
              refine .inl ?_
              refine wpAnyH_all (rs:=[13]) (by kernel_rfl) (by simp) ?_
              intro z hz
              rw [List.mem_singleton.1 hz]
              clear hz
              unfold wpOp
              go_simp
              refine .inl ?_
              clear hcve hcvd
              refine wpAnyH_take (i:=17) (v:=.bool true) rfl (by kernel_rfl) (by kernel_rfl) (by kernel_rfl) (fun _ _ _ h=>h) (.inl ⟨by kernel_rfl,fun W hW=>?_⟩) hS2 ?_
              · go_simp; try (first | rfl | (intro hh; exfalso; omega))
              refine wpAnyH_take (i:=18) (v:=.bool true) rfl (by kernel_rfl) (by kernel_rfl) (by kernel_rfl) (fun _ _ _ h=>h) (.inl ⟨by kernel_rfl,fun W hW=>?_⟩) hS2 ?_
              · go_simp; try (first | rfl | (intro hh; exfalso; omega))
              refine wpAnyH_take (i:=19) (v:=.bool true) rfl (by kernel_rfl) (by kernel_rfl) (by kernel_rfl) (fun _ _ _ h=>h) (.inl ⟨by kernel_rfl,fun W hW=>?_⟩) hS2 ?_
              · go_simp; try (first | rfl | (intro hh; exfalso; omega))
              refine wpAnyH_take (i:=20) (v:=.pointer (some (at0 ga))) rfl (by kernel_rfl) (by kernel_rfl) (by kernel_rfl) (fun _ _ _ h=>h) (.inl ⟨by kernel_rfl,fun W hW=>?_⟩) hS2 ?_
              · go_simp; try (first | rfl | (intro hh; exfalso; omega))
              refine wpAnyH_take (i:=23) (v:=.pointer (some (at0 gb))) rfl (by kernel_rfl) (by kernel_rfl) (by kernel_rfl) (fun _ _ _ h=>h) (.inl ⟨by kernel_rfl,fun W hW=>?_⟩) hS2 ?_
              · go_simp; try (first | rfl | (intro hh; exfalso; omega))
              refine wpAnyH_all (rs:=[21]) (by kernel_rfl) (by simp) ?_
              intro z hz
              rw [List.mem_singleton.1 hz]
              clear hz
              unfold wpOp
              go_simp
              refine .inl ?_
              refine HU1.out.mono ?_
              rintro e ww ⟨Au,nu,cu,rfl,hlu,hou,hnu⟩
              have hS3:=hS2.only hS2s hou (fun x hx=>hx.2)
              have hS3s:=Nat.le_trans hS2s hou.size
              have HU2:=Lib.hid (lb2_users hlu.symm (HC3.out.evb.drain 1000).ok)
              have HNu:=Lib.hid hnu
              clear hou hlu HU1 hnu
              refine ⟨hS3,?_⟩
              refine wpAnyH_take (i:=22) (v:=.int .i64 (nu : Nat)) rfl (by kernel_rfl) (by kernel_rfl) (by kernel_rfl) (fun _ _ _ h=>h) (.inl ⟨by kernel_rfl,fun W hW=>?_⟩) hS3 ?_
              · go_simp; try (first | rfl | (intro hh; exfalso; omega))
              refine wpAnyH_all (rs:=[24]) (by kernel_rfl) (by simp) ?_
              intro z hz
              rw [List.mem_singleton.1 hz]
              clear hz
              unfold wpOp
              go_simp
              refine .inl ?_
              refine HU2.out.mono ?_
              rintro e wx2 ⟨Av,nv,cv2,rfl,hlv,hov,hnv⟩
              obtain rfl : nv = nu:=by rw [hnv,HNu.out]; show zb.fl.roles.length = za.fl.roles.length; rw [HC3.out.fl]
              have hS4:=hS3.only hS3s hov (fun x hx=>hx.2)
              have HLw:=Lib.hid hlv
              clear hov hlv HU2 hnv HNu
              refine ⟨hS4,?_⟩
              refine wpAnyH_take (i:=25) (v:=.int .i64 (nv : Nat)) rfl (by kernel_rfl) (by kernel_rfl) (by kernel_rfl) (fun _ _ _ h=>h) (.inl ⟨by kernel_rfl,fun W hW=>?_⟩) hS4 ?_
              · go_simp; try (first | rfl | (intro hh; exfalso; omega))
              refine wpAnyH_take (i:=26) (v:=.bool true) rfl (by kernel_rfl) (by kernel_rfl) (by kernel_rfl) (fun _ _ _ h=>h) (.inl ⟨by kernel_rfl,fun W hW=>?_⟩) hS4 ?_
              · go_simp; try (first | rfl | (intro hh; exfalso; omega))
              refine wpAnyH_take (i:=27) (v:=.bool true) rfl (by kernel_rfl) (by kernel_rfl) (by kernel_rfl) (fun _ _ _ h=>h) (.inl ⟨by kernel_rfl,fun W hW=>?_⟩) hS4 ?_
              · go_simp; try (first | rfl | (intro hh; exfalso; omega))
              refine wpAnyH_take (i:=28) (v:=.bool true) rfl (by kernel_rfl) (by kernel_rfl) (by kernel_rfl) (fun _ _ _ h=>h) (.inl ⟨by kernel_rfl,fun W hW=>?_⟩) hS4 ?_
              · go_simp; try (first | rfl | (intro hh; exfalso; omega))
              refine wpAnyH_done (by kernel_rfl) ?_ _
              go_simp
              go_wp2
              exact bodyPost_ret (v:=.bool true) (by simp [results,Tryz.results12,go_sem]) rfl ⟨rfl,HB3.out.trans (HLw.out.below0.mono hw3)⟩
theorem w_in : Tryz.checked.prog.inits.idxOf? 12 = none:=by kernel_rfl
theorem w_ok (os : Os) : Input.okWideB Tryz.prog ((World.doorLaid Tryz.prog 400 os).forCall (fun _ _=>0) ⟨#[],#[.slice none 0 0,.slice none 0 0],[]⟩) 12 ⟨#[],#[.slice none 0 0,.slice none 0 0],[]⟩ = true:=by kernel_rfl
theorem w_pre (os : Os) (H : Type) (enc : TypeId×Value→H) : Rows.brokerChunksSpec.preB enc Tryz.prog Tryz.f12 [] false ((World.doorLaid Tryz.prog 400 os).forCall (fun _ _=>0) ⟨#[],#[.slice none 0 0,.slice none 0 0],[]⟩).memory #[.slice none 0 0,.slice none 0 0] 8 = true:=by kernel_rfl
theorem w_sz (os : Os) (H : Type) (enc : TypeId×Value→H) : Rows.brokerChunksSpec.sizedB enc Tryz.prog Tryz.f12 false ((World.doorLaid Tryz.prog 400 os).forCall (fun _ _=>0) ⟨#[],#[.slice none 0 0,.slice none 0 0],[]⟩).memory #[.slice none 0 0,.slice none 0 0] 8 = true:=by kernel_rfl
set_option maxRecDepth 100000 in
theorem lifted (os : Os) (started : os.Started) (H : Type) (enc : TypeId×Value→H) :
    ReturnsInHanded {} Tryz.checked os 12 .any (fun w args=>(Rows.brokerChunksSpec.pre enc Tryz.prog Tryz.f12 [] false w args∧laidMetH Tryz.prog laidL w)∧sizedMet enc Tryz.prog Tryz.f12 (OpenSpec.ofChange Rows.brokerChunksSpec) false w args)
      (Rows.brokerChunksSpec.post enc Tryz.prog Tryz.f12 false true false false):=by
  refine returnsInHanded_of_change_and (C:=Tryz.checked) (X:=fun w _=>laidMetH Tryz.prog laidL w) (fun _ _ _ hh h=>h.of_heap hh) own started w_in Tryz.func12
    (ChangeSpec.witness_shaped (enc:=enc) (C:=Tryz.checked) (os:=os) (X:=fun w _=>laidMetH Tryz.prog laidL w) false (World.doorLaid Tryz.prog 400 os) #[.slice none 0 0,.slice none 0 0] 8 rfl (door_shaped os _) (w_ok os) (w_pre os H enc) (w_sz os H enc) (door_met os _)) ?_
  intro W base args ds gs before hval0 hW hcnd hsz0 hL _
  have hti:=ti_of hL
  have hval : ∀ (j : Nat) t v,Tryz.f12.params[j]? = some t→args[j]? = some v→Value.okWide Tryz.prog W .any base t v:=hval0
  have hW':=hW
  obtain ⟨p,q,hA0,hV,rfl,hfz,hnd⟩:=hW
  have hsz : (DataW.weightsEach Tryz.prog (Tryz.f12.params.toList ++ Rows.brokerChunksSpec.plain.varTypes Tryz.prog) (ds ++ gs)).all (·≤reachBytes) = true:=hsz0
  have hA : DataW.TrodAll enc Tryz.prog W 0 (fun _=>true) true Tryz.f12.params.toList args.toList ds p:=hA0
  rw [Tryz.params12] at hA hval hsz
  obtain ⟨v0,vs0,d0,ds0,p0,q0,hargs,rfl,rfl,h0,r0⟩:=trodAll_cons hA
  obtain ⟨v1,vs1,d1,ds1,p1,q1,rfl,rfl,rfl,h1,r1⟩:=trodAll_cons r0
  obtain ⟨rfl,rfl,rfl⟩:=trodAll_nil r1
  obtain rfl : args = #[v0,v1]:=by cases args; simp_all
  obtain ⟨rfl,rfl⟩:=trodVars_none hV
  obtain ⟨a0,len0,cap0,rfl⟩:=okWide_slice Tryz.underlying32 (hval 0 32 v0 rfl rfl)
  have k0:=h0
  have lt0 : ∀ x∈p0,x.block < W.heap.size:=by obtain ⟨m,hm⟩:=k0; exact DataW.trod_lt m _ _ _ hm
  obtain ⟨z0,w0⟩ : ∃ zs,IsRow .u8 W a0 len0 cap0 zs:=by
    obtain ⟨fuel,hf⟩:=h0
    exact open_brow hf
  obtain ⟨a1,len1,cap1,rfl⟩:=okWide_slice Tryz.underlying32 (hval 1 32 v1 rfl rfl)
  have k1:=h1
  have lt1 : ∀ x∈p1,x.block < W.heap.size:=by obtain ⟨m,hm⟩:=k1; exact DataW.trod_lt m _ _ _ hm
  obtain ⟨z1,w1⟩ : ∃ zs,IsRow .u8 W a1 len1 cap1 zs:=by
    obtain ⟨fuel,hf⟩:=h1
    exact open_brow hf
  clear hA0 hval0 hsz hsz0
  refine (walk a0 len0 cap0 z0 a1 len1 cap1 z1 W w0 w1 hti).mono fun e W' ⟨he,bel⟩=>?_
  subst he
  exact ⟨_,rfl,_,_,_,[],_,[],hW',trodAll_mk1 (shut_bool Tryz.underlying4 _),(trodAll_cons_mk (Below.trod laidOut (by kernel_rfl) (of_decide_eq_true (by kernel_rfl)) k0 bel lt0) (trodAll_cons_mk (Below.trod laidOut (by kernel_rfl) (of_decide_eq_true (by kernel_rfl)) k1 bel lt1) trodAll_mk0)),rfl,bel.frame _,fun h=>by cases h⟩
theorem q0 : (Rows.brokerChunksRow.wf (OpenSpec.ofChange Rows.brokerChunksSpec)) = true:=by kernel_rfl
theorem q3 : (Tryz.f12.params.all (Tryz.prog.readableRec ·)) = true:=by kernel_rfl
theorem q4 : (namedTie Tryz.prog Rows.brokerChunksRow.named Rows.brokerChunksSpec.vars) = true:=by kernel_rfl
theorem q5 : ((Rows.brokerChunksRow.stops == [])) = true:=by kernel_rfl
theorem q7 : ((Rows.brokerChunksRow.knobs == [])) = true:=by kernel_rfl
theorem q9 : ((Rows.brokerChunksRow.inPlace == Tryz.prog.inPlace 12)) = true:=by kernel_rfl
theorem q10 : ((Rows.brokerChunksRow.unfollowed == Tryz.prog.unfollowed 12)) = true:=by kernel_rfl
theorem q11 : ((Rows.brokerChunksRow.recurses == Tryz.prog.recurses 12)) = true:=by kernel_rfl
theorem q12 : ((Rows.brokerChunksRow.named == Tryz.prog.varsNamed 12)) = true:=by kernel_rfl
theorem q13 : ((Rows.brokerChunksRow.maps == (Tryz.f12.params.toList ++ Rows.brokerChunksSpec.plain.varTypes Tryz.prog).any (Tryz.prog.mapsRec ·))) = true:=by kernel_rfl
theorem q14 : ((Rows.brokerChunksRow.ifaces == (Tryz.f12.params.toList ++ Rows.brokerChunksSpec.plain.varTypes Tryz.prog).any (Tryz.prog.ifacesRec ·))) = true:=by kernel_rfl
theorem q15 : ((Rows.brokerChunksRow.mapsOut == Tryz.prog.mapsAmong Tryz.f12.resultTypes.toList)) = true:=by kernel_rfl
theorem q16 : ((Rows.brokerChunksRow.loops == (Tryz.f12.params.toList ++ Rows.brokerChunksSpec.plain.varTypes Tryz.prog).any (Tryz.prog.loopsFrom ·))) = true:=by kernel_rfl
theorem q17 : ((Rows.brokerChunksRow.wideKeys == (Tryz.f12.params.toList ++ Rows.brokerChunksSpec.plain.varTypes Tryz.prog ++ Tryz.f12.resultTypes.toList).any (Tryz.prog.wideKeysFrom ·))) = true:=by kernel_rfl
theorem q18 : (Rows.brokerChunksSpec.vars.all (Tryz.prog.varReadable ·)) = true:=by kernel_rfl
theorem q19 : (Tryz.f12.resultTypes.all (fun t=>Tryz.prog.readableRec t && decide (t < Tryz.prog.types.size))) = true:=by kernel_rfl
theorem q20 : ((Rows.brokerChunksRow.ifacesOut == Tryz.f12.resultTypes.toList.any (Tryz.prog.ifacesRec ·))) = true:=by kernel_rfl
theorem q21 : ((Rows.brokerChunksRow.loopsOut == Tryz.f12.resultTypes.toList.any (Tryz.prog.loopsFrom ·))) = true:=by kernel_rfl
theorem q22 : ((Rows.brokerChunksRow.plainKeys == Tryz.prog.plainKeys)) = true:=(show Rows.brokerChunksRow.plainKeys = Rows.brokerEventsRow.plainKeys from rfl) ▸ pq22
theorem q23 : (Rows.brokerChunksRow.shortTexts.isNone) = true:=by kernel_rfl
theorem q26 : ((Rows.brokerChunksRow.lifted == Tryz.prog.liftsFinal)) = true:=(show Rows.brokerChunksRow.lifted = Rows.brokerEventsRow.lifted from rfl) ▸ pq26
theorem q27 : ((Tryz.prog.make == some Rows.brokerChunksRow.make)) = true:=(show Rows.brokerChunksRow.make = Rows.brokerEventsRow.make from rfl) ▸ pq27
theorem q28 : kindsAre Tryz.prog Rows.brokerChunksRow Tryz.f12 = true:=by kernel_rfl
theorem q29 : ((Rows.brokerChunksRow.pinned == Rows.brokerChunksRow.pinnedBy)) = true:=by kernel_rfl
theorem q30 : ((Rows.brokerChunksRow.veiled == (Tryz.f12.params.toList ++ Rows.brokerChunksSpec.plain.varTypes Tryz.prog ++ Tryz.f12.resultTypes.toList).any (Tryz.prog.veiledRec ·))) = true:=by kernel_rfl
theorem q31 : (Rows.brokerChunksRow.veiledFits Tryz.prog Tryz.f12.params.toList (Tryz.f12.params.toList ++ Rows.brokerChunksSpec.plain.varTypes Tryz.prog ++ Tryz.f12.resultTypes.toList)) = true:=by kernel_rfl
theorem q_named : Tryz.prog.funcNamed Rows.brokerChunksRow.func = some 12:=by kernel_rfl
theorem q_inst : Tryz.f12.isInstance Tryz.prog Rows.brokerChunksRow.origin Rows.brokerChunksRow.targs:=of_decide_eq_true (by kernel_rfl)
theorem q_wrap : Tryz.f12.isWrapper Tryz.prog Rows.brokerChunksRow.wrapper Rows.brokerChunksRow.mainSum:=by unfold Func.isWrapper; first | (rw [if_pos (by decide +kernel)]; kernel_rfl) | (rw [if_neg (by decide +kernel)]; exact ⟨rfl,rfl⟩)
set_option maxRecDepth 100000 in
theorem q_all : joinedFacts Tryz.prog 12 Tryz.f12 Rows.brokerChunksSpec Rows.brokerChunksRow = true:=joined_of (P:=Tryz.prog) (f:=12) (fn:=Tryz.f12) (s:=Rows.brokerChunksSpec) (c:=Rows.brokerChunksRow) q0 pq1 pq2 q3 q4 q5 pq6 q7 pq8 q9 q10 q11 q12 q13 q14 q15 q16 q17 q18 q19 q20 q21 q22 q23 pq24 pq25 q26 q27 q28 q29 q30 q31
theorem over : Rows.BrokerChunksSaid:=
  OpenClaim.holds_of_wide 12 Tryz.f12 rfl rfl rfl rfl rfl rfl rfl ⟨rfl,rfl,rfl,rfl,rfl⟩ rfl rfl rfl rfl rfl q_named Tryz.func12 q_all q_inst q_wrap
    (fun os started H enc _=>lifted os started H enc)
theorem c_wf : Rows.brokerChunksRow.wfByText (OpenSpec.ofChange Rows.brokerChunksSpec) = true:=by kernel_rfl
theorem c_looks : true = Tryz.prog.looks []:=by kernel_rfl
theorem c_stand : ([32,32].all fun u=>!Tryz.prog.wantsStandIn u) = true:=by kernel_rfl
theorem c_goes : false = Rows.brokerChunksRow.goesBy Tryz.prog:=by kernel_rfl
end Go.Proofs.YtjmdddhbdofppaaGreatDoor.brokerChunks
namespace Go.Proofs.YtjmdddhbdofppaaGreatDoor
theorem brokerChunks_holds : Rows.BrokerChunksCardSaid:=
  Claim7.holds_tied_plain_at (c:=Rows.brokerChunksRow) .later [] _ true _ true
    brokerChunks.over (fun _ h=>by cases h) brokerChunks.c_wf (fun _ h=>by cases h) brokerChunks_row_tie rfl ⟨rfl,rfl⟩ main_is rfl
    (fun f fn hf hfn=>by
      obtain rfl : f = 12:=Option.some.inj (brokerChunks.q_named.symm.trans hf) |>.symm
      obtain rfl : fn = Tryz.f12:=(Option.some.inj (Tryz.func12.symm.trans hfn)).symm
      exact ⟨brokerChunks.c_looks,fun j t ht=>by
        rw [Tryz.params12] at ht
        have hm : t∈[32,32]:=by simpa using Array.mem_of_getElem? ht
        exact (show Tryz.prog.wantsStandIn t = false by simpa using List.all_eq_true.1 brokerChunks.c_stand t hm)⟩)
    brokerChunks.c_goes
#print axioms brokerChunks_holds
end Go.Proofs.YtjmdddhbdofppaaGreatDoor
