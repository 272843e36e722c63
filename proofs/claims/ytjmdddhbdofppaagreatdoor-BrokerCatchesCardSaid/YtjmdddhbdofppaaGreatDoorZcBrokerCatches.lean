/- BrokerCatches, with Qk Cr -/
import Derived.Test.YtjmdddhbdofppaaGreatDoorZcQo
import Derived.Deep.DeepCutAuto
import Derived.Test.YtjmdddhbdofppaaGreatDoorZc05
import Derived.Test.YtjmdddhbdofppaaGreatDoorZc09
import Derived.Test.YtjmdddhbdofppaaGreatDoorZc10
import Derived.Test.YtjmdddhbdofppaaGreatDoorZc19
import Derived.Test.YtjmdddhbdofppaaGreatDoorZc23
import Derived.Test.YtjmdddhbdofppaaGreatDoorZc42
import Derived.Test.YtjmdddhbdofppaaGreatDoorZcInv

section
namespace Go.Proofs.YtjmdddhbdofppaaGreatDoor.Bk
open Fr Lx
def texts : List M→Bs
  | []=>[]
  | m :: ms=>(if m.k = 6 then m.t else []) ++ texts ms
theorem texts_app : ∀ (a b : List M),texts (a ++ b) = texts a ++ texts b
  | [],_=>rfl
  | m :: a,b=>by show (if m.k = 6 then m.t else []) ++ texts (a ++ b) = (if m.k = 6 then m.t else []) ++ texts a ++ texts b; rw [texts_app a b,List.append_assoc]
theorem texts_take : ∀ (l : List M) (j : Nat) (m : M),l[j]? = some m→texts (l.take (j + 1)) = texts (l.take j) ++ (if m.k = 6 then m.t else [])
  | [],j,m,h=>by simp at h
  | x :: l,0,m,h=>by
    simp at h
    subst h
    show (if x.k = 6 then x.t else []) ++ [] = [] ++ _
    simp
  | x :: l,j + 1,m,h=>by
    have:=texts_take l j m (by simpa using h)
    show (if x.k = 6 then x.t else []) ++ texts (l.take (j + 1)) = (if x.k = 6 then x.t else []) ++ texts (l.take j) ++ _
    rw [this,List.append_assoc]
theorem texts_len : ∀ (l : List M),(texts l).length≤(encs l).length
  | []=>Nat.le_refl _
  | m :: l=>by
    have:=texts_len l
    show ((if m.k = 6 then m.t else []) ++ texts l).length≤(enc m ++ encs l).length
    rw [List.length_append,List.length_append,enc_len5]
    split
    · omega
    · rw [List.length_nil]; omega
def Calm (m : M) : Prop:=m.ok = true∧m.k≠7∧m.k≠12∧m.k≠13
structure Goes (L : Bs) (got : Bs) (c : Cn) : Prop where
  ms : ∃ ms,got ++ c.out = encs ms∧(∀ m∈ms,Calm m)∧texts ms = L.take c.p
  p : c.p≤L.length
  st : c.st = 1
  s : c.s≤9
  few : got.length + c.out.length + 12 * (L.length - c.p)≤60 + 12 * L.length
theorem goes_serve {B : Br} (hB : BOk B) (hlog : B.L.length≤B.cf.log) {got : Bs} : ∀ (n : Nat) (c : Cn),B.L.length - c.p≤n→CnOk B c→Goes B.L got c →
    ∃ c',serve (lone B 3 c) 3 = lone B 3 c'∧Goes B.L got c'∧nextB (lone B 3 c') c' = none∧c'.out.length + 12 * (B.L.length - c'.p)≤c.out.length + 12 * (B.L.length - c.p)
  | n,c,hn,hk,h=>by
    rcases hx : nextB (lone B 3 c) c with _ | ⟨m,p,s⟩
    · exact ⟨c,serve_none (lone_cs _ _ _) hx,h,hx,Nat.le_refl _⟩
    · have hx' : nextOf B.L B.cf.log c.p c.s ((B.cf.queue : Int) - c.out.length - 200) B.cf.data B.strikes = some (m,p,s):=hx
      have hno:=next_ok h.p h.s hB.strikes hB.len hx'
      have hd : m = dataM c.p ((B.L.drop c.p).take (p - c.p))∧s = c.s∧c.p < p∧p≤B.L.length∧(enc m).length = (p - c.p) + 11:=by
        unfold nextOf at hx'
        rw [if_neg (by omega)] at hx'
        split at hx'
        · cases hx'
        · next h2 =>
          have hc:=count_pos h2
          injection hx' with hx'; injection hx' with e1 hx'; injection hx' with e2 e3
          subst e1 e2 e3
          refine ⟨?_,rfl,by omega,hc.2.1,?_⟩
          · show (⟨6,_,0,_⟩ : M) = ⟨6,_,0,_⟩
            rw [show c.p + countOf B.L.length c.p ((B.cf.queue : Int) - c.out.length - 200) B.cf.data - c.p = countOf B.L.length c.p ((B.cf.queue : Int) - c.out.length - 200) B.cf.data by omega]
          · rw [enc_len5]
            show 6 * 1 + ((B.L.drop c.p).take _).length + 5 = _
            rw [List.length_take,List.length_drop]
            omega
      obtain ⟨d1,d2,d3,d4,d5⟩:=hd
      have hk12 : m.k≠12:=by rw [d1]; show ¬ (6 : Int) = 12; decide
      have hroom:=(hno.2.2.2.2 hk12).2
      have hfit : c.out.length + (enc m).length≤B.cf.queue:=by omega
      have e : putc B.cf.queue { c with p:=p,s:=s } (enc m) = { c with p:=p,s:=s,out:=c.out ++ enc m }:=by
        unfold putc
        rw [if_pos hfit]
      have hsv : served (lone B 3 c) 3 c m p s = lone B 3 { c with p:=p,s:=s,out:=c.out ++ enc m }:=by
        unfold served
        rw [show (lone B 3 c).cf.queue = B.cf.queue from rfl,e,lone_setc]
      have hb : BOk (lone B 3 c):=⟨hB.log,hB.data,hB.queue,hB.input,hB.idle,hB.strikes,hB.fok,hB.rin,hB.len,hB.told,hB.code,fun j d hd=>by obtain ⟨_,rfl⟩:=lone_one hd; exact ⟨hk.p,hk.s,hk.name,hk.st⟩⟩
      rw [serve_more hb (lone_cs _ _ _) hx hk12,hsv]
      have hg : Goes B.L got { c with p:=p,s:=s,out:=c.out ++ enc m }:=by
        obtain ⟨ms,g1,g2,g3⟩:=h.ms
        refine ⟨⟨ms ++ [m],?_,fun x hx=>?_,?_⟩,d4,h.st,by show s≤9; rw [d2]; exact h.s,?_⟩
        · show got ++ (c.out ++ enc m) = _
          rw [encs_app,← g1,encs_one,List.append_assoc]
        · rcases List.mem_append.1 hx with hx | hx
          · exact g2 x hx
          · rw [List.mem_singleton.1 hx]
            refine ⟨hno.2.2.1,?_,hk12,?_⟩
            · rw [d1]; show ¬ (6 : Int) = 7; decide
            · rw [d1]; show ¬ (6 : Int) = 13; decide
        · rw [texts_app,g3]
          show B.L.take c.p ++ ((if m.k = 6 then m.t else []) ++ []) = B.L.take p
          rw [d1,if_pos (show (dataM c.p ((B.L.drop c.p).take (p - c.p))).k = 6 from rfl),List.append_nil]
          show B.L.take c.p ++ (B.L.drop c.p).take (p - c.p) = _
          rw [← List.take_add]
          congr 1
          omega
        · show got.length + (c.out ++ enc m).length + 12 * (B.L.length - p)≤_
          have:=h.few
          rw [List.length_append,d5]
          omega
      have hk2 : CnOk B { c with p:=p,s:=s,out:=c.out ++ enc m }:=⟨d4,by show s≤9; rw [d2]; exact h.s,hk.name,hk.st⟩
      match n,hn with
      | 0,hn=>omega
      | n + 1,hn =>
        obtain ⟨c',f1,f2,f3,f4⟩:=goes_serve hB hlog n { c with p:=p,s:=s,out:=c.out ++ enc m } (by show B.L.length - p≤n; omega) hk2 hg
        refine ⟨c',f1,f2,f3,Nat.le_trans f4 ?_⟩
        show (c.out ++ enc m).length + 12 * (B.L.length - p)≤_
        rw [List.length_append,d5]
        omega
theorem goes_lone {f : Br→Nat→Br} {b b' : Br} {k : Nat} {c c' : Cn} (hst : c.st = 1) (hf : f (lone b k c) k = lone b' k c') : ∀ l : List Nat,l.Nodup→k∈l→goes f (lone b k c) l = lone b' k c'
  | [],_,h=>by cases h
  | j :: l,hn,h=>by
    obtain ⟨hj,hn⟩:=List.nodup_cons.1 hn
    show goes f (if opn (lone b k c) j then f (lone b k c) j else lone b k c) l = _
    by_cases e : j = k
    · subst e
      rw [show opn (lone b j c) j = true by unfold opn; rw [lone_cs]; simp [hst],if_pos rfl,hf]
      refine goes_same _ _ _ fun i hi ho=>?_
      obtain ⟨d,hd,_⟩:=opn_cs ho
      obtain ⟨rfl,_⟩:=lone_one hd
      exact absurd hi hj
    · rw [show opn (lone b k c) j = false by unfold opn; rw [lone_no _ _ _ e],if_neg (by decide)]
      exact goes_lone hst hf l hn ((List.mem_cons.1 h).resolve_left fun h=>e h.symm)
structure CatAt (cf : Cf) (b : Br) (i : Nat) (all got : Bs) (mu : Nat) : Prop where
  ev : EvOk b 0 2100 (i * 300)
  at_ : ∃ B c,b = lone B 3 c∧B.cf = cf∧B.L = all∧B.fl = firstFl cf.lease 3∧B.told = 0∧B.ended = false∧Goes all got c∧nextB b c = none∧c.out.length + 12 * (all.length - c.p) = mu
theorem cat_settle {cf : Cf} {B : Br} {c : Cn} {got : Bs} (hb : BOk (lone B 3 c)) (h1 : B.cf = cf) (hlog : B.L.length≤cf.log) (h2 : B.fl = firstFl cf.lease 3) (h3 : B.told = 0) (hg : Goes B.L got c) :
    ∃ c',settle (lone B 3 c) = lone B 3 c'∧Goes B.L got c'∧nextB (lone B 3 c') c' = none∧c'.out.length + 12 * (B.L.length - c'.p)≤c.out.length + 12 * (B.L.length - c.p):=by
  have hk:=hb.cn 3 c (lone_cs _ _ _)
  have hB : BOk { B with cs:=fun _=>none }:=⟨hb.log,hb.data,hb.queue,hb.input,hb.idle,hb.strikes,hb.fok,hb.rin,hb.len,hb.told,hb.code,fun j d hd=>by cases hd⟩
  have hl : ∀ c,lone ({ B with cs:=fun _=>none } : Br) 3 c = lone B 3 c:=fun _=>rfl
  obtain ⟨c',f1,f2,f3,f4⟩:=goes_serve hB (by show B.L.length≤B.cf.log; rw [h1]; exact hlog) (B.L.length - c.p) c (Nat.le_refl _) ⟨hk.p,hk.s,hk.name,hk.st⟩ hg
  rw [hl,hl] at f1
  refine ⟨c',?_,f2,f3,f4⟩
  have hh0 : ∀ x : Cn,holder (lone B 3 x) = lone B 3 x:=fun x=>holder_same (by show fhold B.fl = B.told; rw [h2,h3]; unfold firstFl fjoin; split <;> rfl)
  have hgo : goes serve (lone B 3 c) ids = lone B 3 c':=goes_lone hg.st f1 ids ids_nodup (by decide)
  unfold settle
  rw [hh0,hgo,hh0,reap_rest fun j d hd hd2=>by
    obtain ⟨_,rfl⟩:=lone_one hd
    have:=f2.st
    omega]
theorem cat_hello {cf : Cf} (hb : EvOk (bnew cf) 0 0 0) : connectE (bnew cf) 3 = 0∧bytesE (connectB (bnew cf) 3) 3 = 0∧∃ mu,CatAt cf (bytesB (connectB (bnew cf) 3) 3 (enc (helloM [118#8]))) 0 [] [] mu:=by
  obtain ⟨a1,a2⟩:=connect_new (b:=bnew cf) (k:=3) (by decide) (by decide) rfl
  have e : connectB (bnew cf) 3 = lone (bnew cf) 3 cnew:=a2
  have a3:=lone_hello (b:=bnew cf) (k:=3) (t:=[118#8]) (by decide) (by decide) hb.ok.queue.1 rfl rfl rfl rfl (by decide) (by decide)
  have hev:=(hb.connect 3).bytes 3 (enc (helloM [118#8]))
  rw [e] at hev ⊢
  rw [show ((3 : Nat) : Int) = 3 from rfl] at a3
  have hl : (enc (welcome 3 0 2) ++ enc (mfloor 0)).length≤40:=by
    rw [List.length_append,floor_len,enc_len5]
    decide
  refine ⟨a1,a3.2,_,⟨⟨hev.ok,hev.cn,Nat.le_trans hev.tot (by rw [enc_len5]; decide),hev.len,hev.sp⟩,_,_,a3.1,rfl,rfl,rfl,rfl,rfl,⟨⟨[welcome 3 0 2,mfloor 0],?_,?_,rfl⟩,Nat.le_refl _,rfl,Nat.zero_le _,?_⟩,?_,rfl⟩⟩
  · show [] ++ (enc (welcome 3 0 2) ++ enc (mfloor 0)) = _
    unfold encs
    simp
  · intro m hm
    simp only [List.mem_cons,List.not_mem_nil,or_false] at hm
    rcases hm with rfl | rfl <;> (unfold Calm; decide)
  · show 0 + (enc (welcome 3 0 2) ++ enc (mfloor 0)).length + 12 * (0 - 0)≤60 + 12 * 0
    omega
  · rw [a3.1]
    exact next_end rfl
variable {cf : Cf} {b : Br} {i : Nat} {all got : Bs} {mu : Nat}
theorem CatAt.output (h : CatAt cf b i all got mu) (hlog : cf.log = 20000) (hi : i < 40) {t : Bs} (ht : t.length≤300) : outputE b = 0∧∃ mu',CatAt cf (outputB b t) (i + 1) (all ++ t) got mu':=by
  have hev:=h.ev.output t (by omega)
  have hlen:=h.ev.len
  obtain ⟨B,c,rfl,h1,h2,h3,h4,h5,h6,h7,h8⟩:=h.at_
  subst h2
  refine ⟨by show (if B.ended = true then 3 else 0) = 0; rw [h5]; rfl,?_⟩
  have hev' : EvOk (outputB (lone B 3 c) t) 0 2100 ((i + 1) * 300):=⟨hev.ok,hev.cn,hev.tot,Nat.le_trans hev.len (by omega),hev.sp⟩
  have hout : outputB (lone B 3 c) t = settle (lone { B with L:=B.L ++ t,sp:=Sp.nxts B.sp t } 3 c):=by
    unfold outputB
    exact if_neg (show ¬ B.ended = true by rw [h5]; decide)
  obtain ⟨ms,g1,g2,g3⟩:=h6.ms
  have hp:=h6.p
  replace hlen : B.L.length≤i * 300:=hlen
  have hlo:=h.ev.ok
  have hk0:=hlo.cn 3 c (lone_cs _ _ _)
  have hb2 : BOk (lone { B with L:=B.L ++ t,sp:=Sp.nxts B.sp t } 3 c):=⟨hlo.log,hlo.data,hlo.queue,hlo.input,hlo.idle,hlo.strikes,hlo.fok,hlo.rin,by show (B.L ++ t).length≤_; rw [List.length_append]; omega,hlo.told,hlo.code,fun j d hd=>by
    obtain ⟨_,rfl⟩:=lone_one hd
    exact ⟨by show d.p≤(B.L ++ t).length; rw [List.length_append]; omega,hk0.s,hk0.name,hk0.st⟩⟩
  obtain ⟨c',f1,f2,f3,f4⟩:=cat_settle (cf:=cf) (B:={ B with L:=B.L ++ t,sp:=Sp.nxts B.sp t }) (c:=c) (got:=got) hb2 h1 (by show (B.L ++ t).length≤_; rw [List.length_append]; omega) h3 h4 (show Goes (B.L ++ t) got c from ⟨⟨ms,g1,g2,by rw [g3,List.take_append_of_le_length hp]⟩,by rw [List.length_append]; omega,h6.st,h6.s,by
    have:=h6.few
    rw [List.length_append]
    omega⟩)
  rw [hout,f1] at hev'
  refine ⟨c'.out.length + 12 * ((B.L ++ t).length - c'.p),hev'.1 |> fun _=>?_⟩
  rw [hout,f1]
  exact ⟨hev',_,c',rfl,h1,rfl,h3,h4,h5,f2,f3,rfl⟩
theorem CatAt.write (h : CatAt cf b i all got mu) (hlog : cf.log = 20000) (hi : i≤40) (n : Int) : writeE b 3 = 0∧(∃ mu',CatAt cf (writeB b 3 n) i all (got ++ writeT b 3 n) mu'∧mu' + (writeT b 3 n).length≤mu)∧(1≤n→writeT b 3 n = []→∃ ms,got = encs ms∧(∀ m∈ms,Calm m)∧texts ms = all)∧(got ++ writeT b 3 n).length≤60 + 12 * all.length:=by
  have hev:=h.ev.write 3 n
  have hlen:=h.ev.len
  obtain ⟨B,c,rfl,h1,h2,h3,h4,h5,h6,h7,h8⟩:=h.at_
  subst h2
  replace hlen : B.L.length≤i * 300:=hlen
  have ht:=there_of (lone_cs B 3 c) (by decide) (by decide)
  have hwt : writeT (lone B 3 c) 3 n = c.out.take (takeN n c.out.length):=by
    unfold writeT
    refine (if_pos ht).trans ?_
    show (match (lone B 3 c).cs 3 with | some c=>c.out.take (takeN n c.out.length) | none=>[]) = _
    rw [lone_cs]
  have hwb : writeB (lone B 3 c) 3 n = settle (lone B 3 { c with out:=c.out.drop (takeN n c.out.length) }):=by
    unfold writeB
    refine (if_pos ht).trans ?_
    show (match (lone B 3 c).cs 3 with | some c=>settle (setc (lone B 3 c) 3 (some { c with out:=c.out.drop (takeN n c.out.length) })) | none=>lone B 3 c) = _
    rw [lone_cs]
    show settle (setc (lone B 3 c) 3 (some _)) = _
    rw [lone_setc]
  obtain ⟨ms,g1,g2,g3⟩:=h6.ms
  obtain ⟨q,hq⟩ : ∃ q,takeN n c.out.length = q:=⟨_,rfl⟩
  have hqle : q≤c.out.length:=by rw [← hq]; unfold takeN; omega
  rw [hq] at hwt hwb
  have htl : (c.out.take q).length = q:=by rw [List.length_take]; omega
  have hg : Goes B.L (got ++ c.out.take q) { c with out:=c.out.drop q }:=by
    refine ⟨⟨ms,?_,g2,g3⟩,h6.p,h6.st,h6.s,?_⟩
    · show (got ++ c.out.take q) ++ c.out.drop q = _
      rw [List.append_assoc,List.take_append_drop,g1]
    · show (got ++ c.out.take q).length + (c.out.drop q).length + 12 * (B.L.length - c.p)≤_
      have:=h6.few
      rw [List.length_append,htl,List.length_drop]
      omega
  have hlo:=h.ev.ok
  have hk0:=hlo.cn 3 c (lone_cs _ _ _)
  have hb2 : BOk (lone B 3 { c with out:=c.out.drop q }):=⟨hlo.log,hlo.data,hlo.queue,hlo.input,hlo.idle,hlo.strikes,hlo.fok,hlo.rin,hlo.len,hlo.told,hlo.code,fun j d hd=>by
    obtain ⟨_,rfl⟩:=lone_one hd
    exact ⟨hk0.p,hk0.s,hk0.name,hk0.st⟩⟩
  obtain ⟨c',f1,f2,f3,f4⟩:=cat_settle hb2 h1 (by omega) h3 h4 hg
  rw [hwb,f1] at hev
  replace f4 : c'.out.length + 12 * (B.L.length - c'.p)≤(c.out.drop q).length + 12 * (B.L.length - c.p):=f4
  rw [List.length_drop] at f4
  refine ⟨by unfold writeE; exact if_pos ht,⟨_,⟨by rw [hwb,f1]; exact hev,B,c',hwb.trans f1,h1,rfl,h3,h4,h5,by rw [hwt]; exact f2,by rw [hwb,f1]; exact f3,rfl⟩,by rw [hwt,htl]; omega⟩,fun hn1 he=>?_,?_⟩
  · rw [hwt] at he
    have hq0 : q = 0:=by rw [← htl,he]; rfl
    have ho : c.out = []:=by
      have : c.out.length = 0:=by
        rw [hq0] at hq
        unfold takeN at hq
        omega
      exact List.eq_nil_of_length_eq_zero this
    have hp : c.p = B.L.length:=by
      have h9 : nextOf B.L B.cf.log c.p c.s ((B.cf.queue : Int) - c.out.length - 200) B.cf.data B.strikes = none:=h7
      unfold nextOf at h9
      rw [if_neg (by rw [h1,hlog]; omega)] at h9
      split at h9
      · next h2 =>
        have:=h6.p
        have hqu:=hlo.queue.1
        have hda:=hlo.data.1
        replace hqu : 220≤B.cf.queue:=hqu
        replace hda : 1≤B.cf.data:=hda
        rw [ho] at h2
        unfold countOf at h2
        simp only [List.length_nil] at h2
        omega
      · cases h9
    refine ⟨ms,?_,g2,by rw [g3,hp,List.take_length]⟩
    rw [← g1,ho,List.append_nil]
  · rw [hwt,List.length_append,htl]
    have:=h6.few
    omega
end Go.Proofs.YtjmdddhbdofppaaGreatDoor.Bk
end
section
namespace Go.Proofs.YtjmdddhbdofppaaGreatDoor
open Go.RowKit
def rowv (a b c d e f g h : Int) : Nat→Int×Int×Int
  | 0=>(a,1,65536) | 1=>(b,1,2042) | 2=>(c,220,65536) | 3=>(d,1,65536)
  | 4=>(e,0,9) | 5=>(f,1,1000) | 6=>(g,0,1000) | _=>(h,1,500)
def rowb (t : Int×Int×Int) : Bool:=bw t.2.1 t.2.2 t.1
def rests (a b c d e f g h : Int) (k : Nat) : Bool:=((List.range' k (8 - k)).map fun i=>rowb (rowv a b c d e f g h i)).all id
theorem rests_zero (a b c d e f g h : Int) : rt a b c d e f g h = rests a b c d e f g h 0:=by simp [rt,rests,rowb,rowv,List.range']
theorem rests_step (a b c d e f g h : Int) (k : Nat) (hk : k < 8) : rests a b c d e f g h k = (rowb (rowv a b c d e f g h k) && rests a b c d e f g h (k + 1)):=by
  unfold rests
  rw [show 8 - k = (8 - (k + 1)) + 1 by omega,List.range'_succ]
  simp
def tab (a b c d e f g h : Int) : Array Value:=#[.int .i64 a,.int .i64 1,.int .i64 65536,.int .i64 b,.int .i64 1,.int .i64 2042,.int .i64 c,.int .i64 220,.int .i64 65536,.int .i64 d,.int .i64 1,.int .i64 65536,.int .i64 e,.int .i64 0,.int .i64 9,.int .i64 f,.int .i64 1,.int .i64 1000,.int .i64 g,.int .i64 0,.int .i64 1000,.int .i64 h,.int .i64 1,.int .i64 500]
theorem tab_at (a b c d e f g h : Int) (k : Nat) (hk : k < 8) : (tab a b c d e f g h)[k * 3]? = some (.int .i64 (rowv a b c d e f g h k).1)∧(tab a b c d e f g h)[k * 3 + 1]? = some (.int .i64 (rowv a b c d e f g h k).2.1)∧(tab a b c d e f g h)[k * 3 + 2]? = some (.int .i64 (rowv a b c d e f g h k).2.2):=by
  rcases (show k = 0∨k = 1∨k = 2∨k = 3∨k = 4∨k = 5∨k = 6∨k = 7 by omega) with rfl | rfl | rfl | rfl | rfl | rfl | rfl | rfl <;> exact ⟨rfl,rfl,rfl⟩
theorem lright_any (a b c d e f g h : Int) (w : World) : Calls Tryz.prog 22 #[.agg (cv a b c d e f g h)] w fun r w'=>r = .returned (.bool (rt a b c d e f g h))∧Below w.heap.size w w':=by
  have HR:=Lib.hid (rests_zero a b c d e f g h)
  have HT:=Lib.hid (Bx.new (w.alloc (.cells (cv a b c d e f g h) 23)) (w.heap.size + 1) (by simp) (tab a b c d e f g h) 120)
  have hB:=fun (u : Value)=>((Below.refl w.heap.size w).alloc (Nat.le_refl _) (.cells (cv a b c d e f g h) 23)).alloc (by simp) (.cells (tab a b c d e f g h) 120)
  have HB:=Lib.hid hB
  clear hB
  unfold tab at HT HB
  unfold cv at HT HB ⊢
  go_enter Tryz.func22,Tryz.ntmps22
  go_wp2
  replace HB:=Lib.hid (HB.out (.bool true))
  have HS : Hid (w.heap.size + 2≤((w.alloc (.cells #[.int .i64 a,.int .i64 b,.int .i64 c,.int .i64 d,.int .i64 e,.int .i64 f,.int .i64 g,.int .i64 h] 23)).alloc (.cells #[.int .i64 a,.int .i64 1,.int .i64 65536,.int .i64 b,.int .i64 1,.int .i64 2042,.int .i64 c,.int .i64 220,.int .i64 65536,.int .i64 d,.int .i64 1,.int .i64 65536,.int .i64 e,.int .i64 0,.int .i64 9,.int .i64 f,.int .i64 1,.int .i64 1000,.int .i64 g,.int .i64 0,.int .i64 1000,.int .i64 h,.int .i64 1,.int .i64 500] 120)).heap.size):=Lib.hid (by simp)
  generalize ((w.alloc _).alloc _) = w1 at *
  go_loopw [33] (fun i wr=>∃ k : Nat,k≤8∧i = .int .i64 k∧Hid (Bx (w.heap.size + 1) wr (tab a b c d e f g h))∧Hid (Below w.heap.size w wr)∧Hid (w.heap.size + 2≤wr.heap.size)∧Hid (rt a b c d e f g h = rests a b c d e f g h k)) (fun i _=>8 - (intOf i).toNat)
  case atStart=>exact ⟨0,by omega,rfl,HT,HB,HS,HR⟩
  case round =>
    obtain ⟨k,hk,rfl,HTk,HBk,HSk,HRk⟩:=hrel
    clear HT HB HS HR
    by_cases hlt : k < 8
    · obtain ⟨c0,c1,c2⟩:=tab_at a b c d e f g h k hlt
      have hs:=rests_step a b c d e f g h k hlt
      have HRn : Hid (rowb (rowv a b c d e f g h k) = true→rt a b c d e f g h = rests a b c d e f g h (k + 1)):=Lib.hid fun hr=>by rw [HRk.out,hs,hr,Bool.true_and]
      have HRf : Hid (rowb (rowv a b c d e f g h k) = false→rt a b c d e f g h = false):=Lib.hid fun hr=>by rw [HRk.out,hs,hr,Bool.false_and]
      have l0:=HTk.out.cell _ _ c0
      have l1:=HTk.out.cell _ _ c1
      have l2:=HTk.out.cell _ _ c2
      clear c0 c1 c2 hs HRk
      unfold rowb bw at HRn HRf
      generalize rowv a b c d e f g h k = x at *
      obtain ⟨X,LO,HI⟩:=x
      have hd : decide ((k : Int) < 8) = true:=by simp; omega
      have HT2:=Lib.hid fun (u : Obj)=>HTk.out.go ((Below.refl _ wr).alloc (Nat.le_refl _) u) (by have:=HSk.out; omega)
      have HB2:=Lib.hid fun (u : Obj)=>HBk.out.alloc (by have:=HSk.out; omega) u
      have HS2 : Hid (∀ u : Obj,w.heap.size + 2≤(wr.alloc u).heap.size):=Lib.hid fun u=>by have:=HSk.out; simp; omega
      clear HTk HBk HSk
      by_cases h1 : X < LO
      · have g1 : decide (X < LO) = true:=by simpa using h1
        go_wp2
        go_ret
        exact ⟨by rw [HRf.out (by simp; omega)]; rfl,HB2.out _⟩
      by_cases h2 : X > HI
      · have g1 : decide (X < LO) = false:=by simpa using h1
        have g2 : decide (X > HI) = true:=by simpa using h2
        go_wp2
        go_ret
        exact ⟨by rw [HRf.out (by simp; omega)]; rfl,HB2.out _⟩
      have g1 : decide (X < LO) = false:=by simpa using h1
      have g2 : decide (X > HI) = false:=by simpa using h2
      go_wp2
      exact ⟨⟨k + 1,by omega,by simp,Lib.hid (HT2.out _),Lib.hid (HB2.out _),Lib.hid (HS2.out _),Lib.hid (HRn.out (by simp; omega))⟩,by simp [intOf]; omega⟩
    · have hd : decide ((k : Int) < 8) = false:=by simp; omega
      obtain rfl : k = 8:=by omega
      go_wp2
      go_ret
      exact ⟨by rw [HRk.out]; rfl,HBk.out⟩
end Go.Proofs.YtjmdddhbdofppaaGreatDoor
end
namespace Go.Proofs.YtjmdddhbdofppaaGreatDoor.brokerCatches
open Go.ChangeShapes Go.WideShapes Go.ChangeAt Go.RowKit
open Fr Bk
theorem conf_ev2 {c : Cf} (h : CfOk c) : EvOk (bnew c) 0 0 0:=
  ⟨⟨h.log,h.data,h.queue,h.input,h.idle,h.strikes,(fok_new c.lease).mono (by decide),fun p hp=>(by cases hp),Nat.zero_le _,⟨Int.le_refl 0,(by decide : (0 : Int)≤16)⟩,Nat.zero_le _,fun k c hc=>(by cases hc)⟩,fun k c hc=>(by cases hc),Nat.zero_le _,Nat.zero_le _,Sp.Ok.start (by have:=h.width; omega) (by have:=h.width; omega)⟩
theorem rt_cf2 {a b c d e f g h : Int} (hr : rt a b c d e f g h = true) : ∃ cf : Cf,CfOk cf∧EvOk (bnew cf) 0 0 0∧a = (cf.log : Nat)∧b = (cf.data : Nat)∧c = (cf.queue : Nat)∧d = (cf.input : Nat)∧e = (cf.strikes : Nat)∧f = (cf.lease : Nat)∧g = (cf.idle : Nat)∧h = (cf.width : Nat):=by
  unfold rt bw at hr
  simp only [Bool.and_eq_true,decide_eq_true_eq] at hr
  have ho : CfOk ⟨a.toNat,b.toNat,c.toNat,d.toNat,e.toNat,f.toNat,g.toNat,h.toNat⟩:=⟨by dsimp only; omega,by dsimp only; omega,by dsimp only; omega,by dsimp only; omega,by dsimp only; omega,by dsimp only; omega,by dsimp only; omega,by dsimp only; omega⟩
  exact ⟨_,ho,conf_ev2 ho,by dsimp only; omega,by dsimp only; omega,by dsimp only; omega,by dsimp only; omega,by dsimp only; omega,by dsimp only; omega,by dsimp only; omega,by dsimp only; omega⟩
def cfL (cf : Cf) : Cf:=⟨20000,cf.data,cf.queue,cf.input,cf.strikes,cf.lease,0,cf.width⟩
theorem cfL_ok {cf : Cf} (h : CfOk cf) : CfOk (cfL cf):=⟨⟨by show 1≤20000; decide,by show 20000≤65536; decide⟩,h.data,h.queue,h.input,h.strikes,h.lease,by show 0≤1000; decide,h.width⟩
def strn : Value→Nat
  | .string s=>s.size
  | _=>0
theorem encs_ge : ∀ (l : List M),l.length≤(encs l).length
  | []=>Nat.le_refl _
  | m :: l=>by
    have:=encs_ge l
    rw [show encs (m :: l) = enc m ++ encs l from rfl,List.length_append,List.length_cons,enc_len5]
    omega
theorem texts_part (l : List M) (j : Nat) : (texts (l.take j)).length≤(texts l).length:=by
  have h : texts l = texts (l.take j) ++ texts (l.drop j):=by rw [← texts_app,List.take_append_drop]
  rw [h,List.length_append]
  omega
set_option maxRecDepth 100000 in
set_option maxHeartbeats 8000000 in
theorem walk (ca0 cb0 cc0 cd0 ce0 cf0 cg0 ch0 : Int) (a1 : Option Addr) (len1 cap1 : Nat) (A1 : Nat→Option Addr) (L1 C1 : Nat→Nat) (T1 : Nat→Bs) (a2 : Int) (w : World)  (w1 : Pcs w w.heap.size a1 len1 A1 L1 C1 T1) (g1 : len1≤cap1∧cap1≤maxLen) (w2 : (Lit.int .i64 a2).wf = true) (ht : TI w) :
    Calls Tryz.prog 8 #[.agg (cv ca0 cb0 cc0 cd0 ce0 cf0 cg0 ch0),.slice a1 len1 cap1,.int .i64 a2] w fun e w'=>e = .returned (.bool true)∧Below w.heap.size w w':=by
  have HTI:=Lib.hid ht
  have HPC:=Lib.hid w1
  have HW2:=Lib.hid w2
  have hln : len1≤9223372036854775807:=by have:=g1; unfold maxLen at this; omega
  clear ht w1 g1 w2 HW2
  by_cases h40 : 40 < len1
  · have d40 : decide ((len1 : Int) > 40) = true:=decide_eq_true (by omega)
    have d41 : decide (40 < (len1 : Int)) = true:=decide_eq_true (by omega)
    unfold cv
    go_enter Tryz.func8,Tryz.ntmps8
    have hxm:=Bx.new w _ rfl #[.int .i64 ca0,.int .i64 cb0,.int .i64 cc0,.int .i64 cd0,.int .i64 ce0,.int .i64 cf0,.int .i64 cg0,.int .i64 ch0] 23
    have hba : Below w.heap.size w (w.alloc (.cells #[.int .i64 ca0,.int .i64 cb0,.int .i64 cc0,.int .i64 cd0,.int .i64 ce0,.int .i64 cf0,.int .i64 cg0,.int .i64 ch0] 23)):=(Below.refl _ _).alloc (Nat.le_refl _) _
    have hsz : w.heap.size < (w.alloc (.cells #[.int .i64 ca0,.int .i64 cb0,.int .i64 cc0,.int .i64 cd0,.int .i64 ce0,.int .i64 cf0,.int .i64 cg0,.int .i64 ch0] 23)).heap.size:=by simp
    go_wp2_with fail
    generalize w.alloc (.cells #[.int .i64 ca0,.int .i64 cb0,.int .i64 cc0,.int .i64 cd0,.int .i64 ce0,.int .i64 cf0,.int .i64 cg0,.int .i64 ch0] 23) = wa at *
    obtain ⟨gm,hgm⟩ : ∃ gm,w.heap.size = gm:=⟨_,rfl⟩
    rw [hgm] at hxm hba hsz
    have HG:=Lib.hid hgm
    have hTI:=HTI.out.below (hgm ▸ hba)
    have HP0:=Lib.hid (show Pcs w gm a1 len1 A1 L1 C1 T1 from hgm ▸ HPC.out)
    rw [hgm]
    clear hgm HPC
    refine (bhead_any wa hTI).mono ?_
    rintro e w2 ⟨rfl,hb1⟩
    have HX2:=Lib.hid (hxm.go hb1 hsz)
    have HB2:=Lib.hid (Below.trans hba (hb1.mono (Nat.le_of_lt hsz)))
    have HT2:=Lib.hid (hTI.below hb1)
    have HS2:=Lib.hid (Nat.lt_of_lt_of_le hsz hb1.size)
    clear hxm hba hb1 hTI hsz
    have HP1:=HP0
    clear HP1 HX2 HT2 HS2
    go_wp2
    go_ret
    exact ⟨rfl,by rw [HG.out]; exact HB2.out⟩
  have d40 : decide ((len1 : Int) > 40) = false:=decide_eq_false (by omega)
  have d41 : decide (40 < (len1 : Int)) = false:=decide_eq_false (by omega)
  by_cases hrt : rt ca0 cb0 cc0 cd0 ce0 cf0 cg0 ch0 = true
  rotate_left
  · have hrt : rt ca0 cb0 cc0 cd0 ce0 cf0 cg0 ch0 = false:=by simpa using hrt
    unfold cv
    go_enter Tryz.func8,Tryz.ntmps8
    have hxm:=Bx.new w _ rfl #[.int .i64 ca0,.int .i64 cb0,.int .i64 cc0,.int .i64 cd0,.int .i64 ce0,.int .i64 cf0,.int .i64 cg0,.int .i64 ch0] 23
    have hba : Below w.heap.size w (w.alloc (.cells #[.int .i64 ca0,.int .i64 cb0,.int .i64 cc0,.int .i64 cd0,.int .i64 ce0,.int .i64 cf0,.int .i64 cg0,.int .i64 ch0] 23)):=(Below.refl _ _).alloc (Nat.le_refl _) _
    have hsz : w.heap.size < (w.alloc (.cells #[.int .i64 ca0,.int .i64 cb0,.int .i64 cc0,.int .i64 cd0,.int .i64 ce0,.int .i64 cf0,.int .i64 cg0,.int .i64 ch0] 23)).heap.size:=by simp
    go_wp2_with fail
    generalize w.alloc (.cells #[.int .i64 ca0,.int .i64 cb0,.int .i64 cc0,.int .i64 cd0,.int .i64 ce0,.int .i64 cf0,.int .i64 cg0,.int .i64 ch0] 23) = wa at *
    obtain ⟨gm,hgm⟩ : ∃ gm,w.heap.size = gm:=⟨_,rfl⟩
    rw [hgm] at hxm hba hsz
    have HG:=Lib.hid hgm
    have hTI:=HTI.out.below (hgm ▸ hba)
    have HP0:=Lib.hid (show Pcs w gm a1 len1 A1 L1 C1 T1 from hgm ▸ HPC.out)
    rw [hgm]
    clear hgm HPC
    refine (bhead_any wa hTI).mono ?_
    rintro e w2 ⟨rfl,hb1⟩
    have HX2:=Lib.hid (hxm.go hb1 hsz)
    have HB2:=Lib.hid (Below.trans hba (hb1.mono (Nat.le_of_lt hsz)))
    have HT2:=Lib.hid (hTI.below hb1)
    have HS2:=Lib.hid (Nat.lt_of_lt_of_le hsz hb1.size)
    clear hxm hba hb1 hTI hsz
    have z0:=HX2.out.cell 0 (.int .i64 ca0) rfl
    have z1:=HX2.out.cell 1 (.int .i64 cb0) rfl
    have z2:=HX2.out.cell 2 (.int .i64 cc0) rfl
    have z3:=HX2.out.cell 3 (.int .i64 cd0) rfl
    have z4:=HX2.out.cell 4 (.int .i64 ce0) rfl
    have z5:=HX2.out.cell 5 (.int .i64 cf0) rfl
    have z6:=HX2.out.cell 6 (.int .i64 cg0) rfl
    have z7:=HX2.out.cell 7 (.int .i64 ch0) rfl
    have HP1:=HP0
    clear HP1 HT2
    go_wp2_with fail
    refine (lright_any ca0 cb0 cc0 cd0 ce0 cf0 cg0 ch0 w2).mono ?_
    rintro e w3 ⟨rfl,hb3⟩
    rw [hrt]
    have HB3:=Lib.hid (Below.trans HB2.out (hb3.mono (Nat.le_of_lt HS2.out)))
    go_wp2
    go_ret
    exact ⟨rfl,by rw [HG.out]; exact HB3.out⟩
  obtain ⟨cf,hcf,hev0,rfl,rfl,rfl,rfl,rfl,rfl,rfl,rfl⟩:=rt_cf2 hrt
  have HC:=Lib.hid (cfL_ok hcf)
  clear hcf hev0
  unfold cv
  go_enter Tryz.func8,Tryz.ntmps8
  have hxm:=Bx.new w _ rfl #[.int .i64 (cf.log : Nat),.int .i64 (cf.data : Nat),.int .i64 (cf.queue : Nat),.int .i64 (cf.input : Nat),.int .i64 (cf.strikes : Nat),.int .i64 (cf.lease : Nat),.int .i64 (cf.idle : Nat),.int .i64 (cf.width : Nat)] 23
  have hba : Below w.heap.size w (w.alloc (.cells #[.int .i64 (cf.log : Nat),.int .i64 (cf.data : Nat),.int .i64 (cf.queue : Nat),.int .i64 (cf.input : Nat),.int .i64 (cf.strikes : Nat),.int .i64 (cf.lease : Nat),.int .i64 (cf.idle : Nat),.int .i64 (cf.width : Nat)] 23)):=(Below.refl _ _).alloc (Nat.le_refl _) _
  have hsz : w.heap.size < (w.alloc (.cells #[.int .i64 (cf.log : Nat),.int .i64 (cf.data : Nat),.int .i64 (cf.queue : Nat),.int .i64 (cf.input : Nat),.int .i64 (cf.strikes : Nat),.int .i64 (cf.lease : Nat),.int .i64 (cf.idle : Nat),.int .i64 (cf.width : Nat)] 23)).heap.size:=by simp
  go_wp2_with fail
  generalize w.alloc (.cells #[.int .i64 (cf.log : Nat),.int .i64 (cf.data : Nat),.int .i64 (cf.queue : Nat),.int .i64 (cf.input : Nat),.int .i64 (cf.strikes : Nat),.int .i64 (cf.lease : Nat),.int .i64 (cf.idle : Nat),.int .i64 (cf.width : Nat)] 23) = wa at *
  obtain ⟨gm,hgm⟩ : ∃ gm,w.heap.size = gm:=⟨_,rfl⟩
  rw [hgm] at hxm hba hsz
  have HG:=Lib.hid hgm
  have hTI:=HTI.out.below (hgm ▸ hba)
  have HP0:=Lib.hid (show Pcs w gm a1 len1 A1 L1 C1 T1 from hgm ▸ HPC.out)
  rw [hgm]
  clear hgm HPC
  refine (bhead_any wa hTI).mono ?_
  rintro e w2 ⟨rfl,hb1⟩
  have HX2:=Lib.hid (hxm.go hb1 hsz)
  have HB2:=Lib.hid (Below.trans hba (hb1.mono (Nat.le_of_lt hsz)))
  have HT2:=Lib.hid (hTI.below hb1)
  have HS2:=Lib.hid (Nat.lt_of_lt_of_le hsz hb1.size)
  clear hxm hba hb1 hTI hsz
  have z0:=HX2.out.cell 0 (.int .i64 (cf.log : Nat)) rfl
  have z1:=HX2.out.cell 1 (.int .i64 (cf.data : Nat)) rfl
  have z2:=HX2.out.cell 2 (.int .i64 (cf.queue : Nat)) rfl
  have z3:=HX2.out.cell 3 (.int .i64 (cf.input : Nat)) rfl
  have z4:=HX2.out.cell 4 (.int .i64 (cf.strikes : Nat)) rfl
  have z5:=HX2.out.cell 5 (.int .i64 (cf.lease : Nat)) rfl
  have z6:=HX2.out.cell 6 (.int .i64 (cf.idle : Nat)) rfl
  have z7:=HX2.out.cell 7 (.int .i64 (cf.width : Nat)) rfl
  go_wp2_with fail
  refine (lright_any (cf.log : Nat) (cf.data : Nat) (cf.queue : Nat) (cf.input : Nat) (cf.strikes : Nat) (cf.lease : Nat) (cf.idle : Nat) (cf.width : Nat) w2).mono ?_
  rintro e w3 ⟨rfl,hb3⟩
  rw [hrt]
  have hx3:=HX2.out.go hb3 HS2.out
  have hx4:=hx3.set 0 (.int .i64 20000)
  have hx5:=hx4.set 6 (.int .i64 0)
  have HX5:=Lib.hid (show Bx gm ((w3.setCell ⟨gm,0,none⟩ (.int .i64 20000)).setCell ⟨gm,6,none⟩ (.int .i64 0)) #[.int .i64 20000,.int .i64 (cf.data : Nat),.int .i64 (cf.queue : Nat),.int .i64 (cf.input : Nat),.int .i64 (cf.strikes : Nat),.int .i64 (cf.lease : Nat),.int .i64 0,.int .i64 (cf.width : Nat)] from hx5)
  have hbb : Below gm w2 ((w3.setCell ⟨gm,0,none⟩ (.int .i64 20000)).setCell ⟨gm,6,none⟩ (.int .i64 0)):=((hb3.mono (Nat.le_of_lt HS2.out)).setCell (p:=⟨gm,0,none⟩) (Nat.le_refl _) _).setCell (p:=⟨gm,6,none⟩) (Nat.le_refl _) _
  have HB3:=Lib.hid (Below.trans HB2.out hbb)
  have HT3:=Lib.hid (HTI.out.below (show Below w.heap.size w _ from by rw [HG.out]; exact HB3.out))
  have hs3 : gm < ((w3.setCell ⟨gm,0,none⟩ (.int .i64 20000)).setCell ⟨gm,6,none⟩ (.int .i64 0)).heap.size:=Nat.lt_of_lt_of_le HX5.out.room (Nat.le_refl _)
  have f0:=hx3.free 0
  have c0:=hx3.cell 0 (.int .i64 (cf.log : Nat)) rfl
  have f6:=hx4.free 6
  have c6:=hx4.cell 6 (.int .i64 (cf.idle : Nat)) rfl
  clear hx3 hx4 hx5 hbb HX2 HT2 HS2 z0 z1 z2 z3 z4 z5 z6 z7
  go_upto_region 7 with fail
  generalize (w3.setCell ⟨gm,0,none⟩ (.int .i64 20000)).setCell ⟨gm,6,none⟩ (.int .i64 0) = w4 at *
  have HS3:=Lib.hid hs3
  have z0:=HX5.out.cell 0 (.int .i64 20000) rfl
  have z1:=HX5.out.cell 1 (.int .i64 (cf.data : Nat)) rfl
  have z2:=HX5.out.cell 2 (.int .i64 (cf.queue : Nat)) rfl
  have z3:=HX5.out.cell 3 (.int .i64 (cf.input : Nat)) rfl
  have z4:=HX5.out.cell 4 (.int .i64 (cf.strikes : Nat)) rfl
  have z5:=HX5.out.cell 5 (.int .i64 (cf.lease : Nat)) rfl
  have z6:=HX5.out.cell 6 (.int .i64 0) rfl
  have z7:=HX5.out.cell 7 (.int .i64 (cf.width : Nat)) rfl
  clear hs3 f0 c0 f6 c6
  have HNew:=Lib.hid (show Calls Tryz.prog 21 #[.agg #[.int .i64 20000,.int .i64 (cf.data : Nat),.int .i64 (cf.queue : Nat),.int .i64 (cf.input : Nat),.int .i64 (cf.strikes : Nat),.int .i64 (cf.lease : Nat),.int .i64 0,.int .i64 (cf.width : Nat)]] w4 fun e w'=>∃ g,e = .returned (.pointer (some (at0 g)))∧LBx w4.heap.size g w' (bnew (cfL cf))∧Below w4.heap.size w4 w' from lb_new HC.out w4 HT3.out)
  go_wp2_with fail
  refine HNew.out.mono ?_
  rintro e w5 ⟨g,rfl,hl5,hb5⟩
  have HL5:=Lib.hid hl5
  have HB5:=Lib.hid (Below.trans HB3.out (hb5.mono (Nat.le_of_lt HS3.out)))
  have hn0:=HS3.out
  clear hl5 hb5 HX5 HB2 HB3 HT3 HS3 HNew z0 z1 z2 z3 z4 z5 z6 z7
  generalize w4.heap.size = n0 at *
  have hn1 : gm≤n0:=Nat.le_of_lt hn0
  have HE0:=Lib.hid (conf_ev2 HC.out)
  have hid3 : wf64 3:=by decide
  obtain ⟨k1,k2,mu0,k3⟩:=cat_hello HE0.out
  have HK1:=Lib.hid k1
  have HK2:=Lib.hid k2
  have HK3:=Lib.hid k3
  clear k1 k2 k3
  go_wp2_with fail
  refine (lb_connect HL5.out HE0.out.ok 3 hid3).mono ?_
  rintro e w6 ⟨rfl,hl6,hb6⟩
  rw [HK1.out]
  have HL6:=Lib.hid hl6
  have HB6:=Lib.hid (Below.trans HB5.out (hb6.mono hn1))
  have HE6:=Lib.hid (HE0.out.connect 3)
  clear hl6 hb6 HB5 HL5 HK1
  go_wp2_with fail
  refine (lhello_any [118#8] (by decide) w6).mono ?_
  rintro e w7 ⟨A7,c7,rfl,hy7,hn7,_,hb7⟩
  have HW7:=Lib.hid (LAway.made (n:=(enc (helloM [118#8])).length) HL6.out hb7 hn7)
  have HY7:=Lib.hid hy7
  have HB7:=Lib.hid (Below.trans HB6.out (hb7.mono (by rw [← HG.out]; exact HB6.out.size)))
  clear hy7 hn7 hb7
  go_wp2_with fail
  refine (lb_bytes HW7.out HE6.out (by decide) 3 hid3 c7 HY7.out (by rw [enc_len5]; decide)).mono ?_
  rintro e w8 ⟨rfl,hl8,hb8⟩
  rw [HK2.out]
  obtain ⟨b0,hb0⟩ : ∃ b0,bytesB (connectB (bnew (cfL cf)) 3) 3 (enc (helloM [118#8])) = b0:=⟨_,rfl⟩
  have HAt0:=Lib.hid (show CatAt (cfL cf) b0 0 [] [] mu0 by rw [← hb0]; exact HK3.out)
  rw [hb0] at hl8
  have HL8:=Lib.hid hl8
  have HB8:=Lib.hid (Below.trans HB7.out (hb8.mono hn1))
  clear hl8 hb8 hb0 HW7 HY7 HL6 HB6 HB7 HE6 HE0 HK2 HK3
  obtain ⟨q,hq,hand⟩:=bits_any a2 255 (by decide)
  have hand : bits .and .i64 a2 255 = (q : Int):=hand
  go_wp2
  go_loopw [8,9,47] (fun s8 s9 s47 wr=>∃ (i : Nat) (al gt : Bs) (b : Br) (mu : Nat),s47 = .int .i64 (i : Nat)∧s8 = .string (str al)∧s9 = .string (str gt)∧i≤len1∧Hid (CatAt (cfL cf) b i al gt mu)∧al.length≤300 * i∧gt.length≤60 + 12 * al.length∧LBx n0 g wr b∧Below gm w wr) (fun _ _ s _=>len1 - (intOf s).toNat)
  case atStart=>exact ⟨0,[],[],b0,mu0,rfl,rfl,rfl,Nat.zero_le _,HAt0,Nat.le_refl _,Nat.zero_le _,HL8.out,HB8.out⟩
  case round =>
    obtain ⟨i,al,gt,b,mu,rfl,rfl,rfl,hi,HAt,hal,hgt,hl,hb⟩:=hrel
    have HL:=Lib.hid hl
    have HB:=Lib.hid hb
    have hgw : gm≤wr.heap.size:=by rw [← HG.out]; exact hb.size
    have hs8:=str_size al
    have hs9:=str_size gt
    clear hl hb HL8 HB8 HAt0
    by_cases hil : i < len1
    · have di : decide ((i : Int) < (len1 : Int)) = true:=decide_eq_true (by omega)
      obtain ⟨bp,op,rfl,hbp,hc⟩:=(HP0.out.below HB.out).outer (by omega)
      have hck:=hc i hil
      obtain ⟨hwb,hw1,hw2⟩:=(HP0.out.below HB.out).inner i hil
      have hbl:=hwb.1
      have HBy:=Lib.hid hwb
      have hLk : L1 i≤9223372036854775807:=by unfold most at hw2; omega
      have HCap:=Lib.hid hw1
      clear hc hwb hw1 hw2
      by_cases h300 : 300 < L1 i
      · have d3 : decide ((L1 i : Int) > 300) = true:=decide_eq_true (by omega)
        have d4 : decide (300 < (L1 i : Int)) = true:=decide_eq_true (by omega)
        go_wp2
        go_ret
        exact ⟨rfl,by rw [HG.out]; exact HB.out⟩
      have d3 : decide ((L1 i : Int) > 300) = false:=decide_eq_false (by omega)
      have d4 : decide (300 < (L1 i : Int)) = false:=decide_eq_false (by omega)
      have hli : L1 i≤300:=by omega
      obtain ⟨o1,mu1,hat1⟩:=HAt.out.output rfl (by omega) (t:=T1 i) (by rw [hbl]; exact hli)
      have HO1:=Lib.hid o1
      have HAt1:=Lib.hid hat1
      have HAw:=Lib.hid (LAway.old (A:=A1 i) (n:=L1 i) HL.out (fun hn p hp=>by
        obtain ⟨bq,oq,e1,e2,_⟩:=HBy.out.2 hn
        rw [e1] at hp
        injection hp with hp
        subst hp
        show bq < n0
        omega))
      have HOut:=Lib.hid (lb_output (c2:=C1 i) HAw.out HAt.out.ev HBy.out hgw HCap.out (by omega))
      clear o1 hat1 h300
      go_wp2_with fail
      refine HOut.out.mono ?_
      rintro e w9 ⟨rfl,hl9,hb9⟩
      rw [HO1.out]
      have HL9:=Lib.hid hl9
      have HB9:=Lib.hid (Below.trans HB.out (hb9.mono hn1))
      have hcv:=conv_str (cap:=C1 i) (HP0.out.inner i hil).1
      have hcv:=conv_str (cap:=C1 i) ((HP0.out.below (Below.trans HB.out (hb9.mono hn1))).inner i hil).1
      have hts : (str (T1 i)).size = L1 i:=by rw [str_size]; exact hbl
      have hWr:=lb_write HL9.out HAt1.out.ev.ok 3 (1 + (q : Int)) hid3
      have HWr:=Lib.hid hWr
      have hov : ¬ (9223372036854775807 < al.length + L1 i):=by omega
      clear hl9 hb9 HOut HAw HBy HCap hWr HL HB hck hbp
      go_wp2_with fail
      refine HWr.out.mono ?_
      rintro e wa2 ⟨A9,m9,c9,rfl,hla,hba2,hya,hca,hna⟩
      obtain ⟨e1,⟨mu2,hat2,_⟩,_,hbd⟩:=HAt1.out.write rfl (by omega) (1 + (q : Int))
      rw [e1]
      obtain ⟨tw,htw⟩ : ∃ tw,writeT (outputB b (T1 i)) 3 (1 + (q : Int)) = tw:=⟨_,rfl⟩
      rw [htw] at hat2 hya hbd
      have hl9:=hya.1
      have HAt2:=Lib.hid hat2
      have HLa:=Lib.hid hla
      have HBa:=Lib.hid (Below.trans HB9.out (hba2.mono hn1))
      have hcv9:=conv_str (cap:=c9) hya
      have htw9 : (str tw).size = m9:=by rw [str_size]; exact hl9
      rw [List.length_append,List.length_append,hbl] at hbd
      have hov9 : ¬ (9223372036854775807 < gt.length + m9):=by omega
      have hbd2 : gt.length + tw.length≤60 + 12 * (al.length + L1 i):=hbd
      have hal2 : al.length + L1 i≤300 * (i + 1):=by omega
      clear e1 htw hat2 hla hba2 hya hca hna HWr HL9 HB9 HAt1 HO1 hbd
      go_wp2
      go_roundw
      case rel=>exact ⟨i + 1,al ++ T1 i,gt ++ tw,_,mu2,by go_num,by rw [str_app],by rw [str_app],by omega,HAt2,by rw [List.length_append,hbl]; exact hal2,by rw [List.length_append,List.length_append,hbl]; exact hbd2,HLa.out,HBa.out⟩
      case measure=>simp [intOf]; omega
    obtain rfl : i = len1:=by omega
    have di : decide ((i : Int) < (i : Int)) = false:=decide_eq_false (by omega)
    have hi40 : i≤40:=by omega
    have hal40 : al.length≤12000:=by omega
    have HAL:=Lib.hid hal
    clear HP0 hal hi
    go_wp2
    try simp only [di]
    go_loopw [9] (fun s9 wr2=>∃ (g2 : Bs) (b2 : Br) (mu2 : Nat),s9 = .string (str g2)∧Hid (CatAt (cfL cf) b2 i al g2 mu2)∧g2.length≤60 + 12 * al.length∧LBx n0 g wr2 b2∧Below gm w wr2) (fun s _=>60 + 12 * al.length - strn s)
    case atStart=>exact ⟨gt,b,mu,rfl,HAt,hgt,HL.out,HB.out⟩
    case round =>
      obtain ⟨g2,b2,mu2,rfl,HAt2,hg2,hl2,hb2⟩:=hrel
      have HL2:=Lib.hid hl2
      have HB2:=Lib.hid hb2
      have HWr:=Lib.hid (lb_write HL2.out HAt2.out.ev.ok 3 500 hid3)
      have hs9:=str_size g2
      clear hl2 hb2 HL HB HAt hgt
      go_wp2_with fail
      refine HWr.out.mono ?_
      rintro e wa ⟨A9,m9,c9,rfl,hla,hba2,hya,hca,hna⟩
      obtain ⟨e1,⟨mu3,hat3,_⟩,hfin,hbd⟩:=HAt2.out.write rfl hi40 500
      rw [e1]
      obtain ⟨tw,htw⟩ : ∃ tw,writeT b2 3 500 = tw:=⟨_,rfl⟩
      rw [htw] at hat3 hya hbd hfin
      have hl9:=hya.1
      have HLa:=Lib.hid hla
      have HBa:=Lib.hid (Below.trans HB2.out (hba2.mono hn1))
      have hgwa : gm≤wa.heap.size:=by rw [← HG.out]; exact HBa.out.size
      by_cases hm0 : m9 = 0
      rotate_left
      · have d0 : decide ((m9 : Int) = 0) = false:=decide_eq_false (by omega)
        have d01 : ((m9 : Int) == 0) = false:=by simp; omega
        have HAt3:=Lib.hid hat3
        have hcv9:=conv_str (cap:=c9) hya
        have htw9 : (str tw).size = m9:=by rw [str_size]; exact hl9
        rw [List.length_append] at hbd
        have hov9 : ¬ (9223372036854775807 < g2.length + m9):=by omega
        have HM:=Lib.hid (show strn (.string (str (g2 ++ tw))) = g2.length + tw.length by show (str (g2 ++ tw)).size = _; rw [str_size,List.length_append])
        clear e1 htw hat3 hla hba2 hya hca hna HWr hfin HL2 HB2 HAt2
        go_wp2
        go_roundw
        case rel=>exact ⟨g2 ++ tw,_,mu3,by rw [str_app],HAt3,by rw [List.length_append]; exact hbd,HLa.out,HBa.out⟩
        case measure =>
          have h1:=HM.out
          rw [str_app] at h1
          have h2 : strn (.string (str g2)) = g2.length:=str_size g2
          simp only [h1,h2]
          omega
      subst hm0
      obtain ⟨l,hgl,hcalm,htx⟩:=hfin (by decide) (List.eq_nil_of_length_eq_zero hl9)
      subst hgl
      obtain ⟨cb,wb,hcb,hyb,hbb,hlb,hsb⟩:=conv_tob wa (encs l)
      have HBb:=Lib.hid (Below.trans HBa.out (hbb.mono hgwa))
      have hen : (encs l).length≤1000000000:=by omega
      have HMs:=Lib.hid (lmessages_any l (fun m hm=>(hcalm m hm).1) wb hyb hsb hlb hen)
      have HCalm:=Lib.hid hcalm
      have HTx:=Lib.hid htx
      have hgwb : gm≤wb.heap.size:=by rw [← HG.out]; exact HBb.out.size
      clear e1 htw hat3 hla hba2 hya hca hna HWr hfin HL2 HB2 HAt2 hyb hbb hlb hsb hcalm htx HLa hl9 hbd
      go_wp2_with fail
      refine HMs.out.mono ?_
      rintro e wc ⟨R,rc,rfl,hrow,hbc⟩
      have HRow:=Lib.hid hrow
      have HBc:=Lib.hid (Below.trans HBb.out (hbc.mono hgwb))
      have hgwc : gm≤wc.heap.size:=by rw [← HG.out]; exact HBc.out.size
      have hte:=texts_len l
      obtain ⟨ll,hll⟩ : ∃ ll,l.length = ll:=⟨_,rfl⟩
      have hll1 : ll≤1000000000:=by have:=encs_ge l; omega
      rw [hll]
      have HLL:=Lib.hid hll
      clear hrow hbc HMs hll HBb hcb hgwb
      go_wp2
      go_loopw [18,92] (fun s18 s92 wr2=>∃ j : Nat,s92 = .int .i64 (j : Nat)∧s18 = .string (str (texts (l.take j)))∧j≤ll∧Below wc.heap.size wc wr2) (fun _ s _=>ll - (intOf s).toNat)
      case atStart=>exact ⟨0,rfl,rfl,Nat.zero_le _,Below.refl _ _⟩
      case round =>
        obtain ⟨j,rfl,rfl,hj,hbr⟩:=hrel
        have HBr:=Lib.hid hbr
        have hzr:=hbr.size
        clear hbr
        have hsj:=str_size (texts (l.take j))
        by_cases hjl : j < ll
        · obtain ⟨m,hm⟩ : ∃ m,l[j]? = some m:=⟨_,List.getElem?_eq_getElem (by rw [HLL.out]; exact hjl)⟩
          obtain ⟨hc1,hc7,hc12,hc13⟩:=HCalm.out m (List.mem_of_getElem? hm)
          obtain ⟨rb,off,rfl,hlt,hcell⟩:=HRow.out.msin.outer (by have:=HLL.out; omega)
          obtain ⟨v0,v1,v2,v3⟩:=hcell j m hm
          have v0:=(HBr.out.cell (p:=⟨rb,off + j * 4,none⟩) hlt).trans v0
          have v1:=(HBr.out.cell (p:=⟨rb,off + j * 4 + 1,none⟩) hlt).trans v1
          have v2:=(HBr.out.cell (p:=⟨rb,off + j * 4 + 2,none⟩) hlt).trans v2
          have v3:=(HBr.out.cell (p:=⟨rb,off + j * 4 + 3,none⟩) hlt).trans v3
          have hgt:=texts_take l j m hm
          have hpt:=texts_part l (j + 1)
          rw [HTx.out] at hpt
          have HX:=Lib.hid (Bx.new wr _ rfl #[.int .i64 m.k,.int .i64 m.a,.int .i64 m.b,.string (str m.t)] 65)
          have HBa2:=Lib.hid (HBr.out.alloc hzr (.cells #[.int .i64 m.k,.int .i64 m.a,.int .i64 m.b,.string (str m.t)] 65))
          have dj : decide ((j : Int) < (ll : Int)) = true:=decide_eq_true (by omega)
          have e7 : decide (m.k = 7) = false:=decide_eq_false hc7
          have f7 : (m.k == 7) = false:=by simp [hc7]
          have e12 : decide (m.k = 12) = false:=decide_eq_false hc12
          have f12 : (m.k == 12) = false:=by simp [hc12]
          have e13 : decide (m.k = 13) = false:=decide_eq_false hc13
          have f13 : (m.k == 13) = false:=by simp [hc13]
          have hst:=str_size m.t
          clear hm hc1 hc7 hc12 hc13 hcell
          go_upto_region 33 with fail
          generalize wr.alloc (.cells #[.int .i64 m.k,.int .i64 m.a,.int .i64 m.b,.string (str m.t)] 65) = wz at *
          have q0:=HX.out.cell 0 (.int .i64 m.k) rfl
          have q3:=HX.out.cell 3 (.string (str m.t)) rfl
          by_cases hk : m.k = 6
          · have e6 : decide (m.k = 6) = true:=decide_eq_true hk
            have f6 : (m.k == 6) = true:=by simp [hk]
            rw [if_pos hk] at hgt
            rw [hgt,List.length_append] at hpt
            have hov : ¬ (9223372036854775807 < (texts (l.take j)).length + m.t.length):=by omega
            have HGT:=Lib.hid hgt
            clear hgt hk
            go_wp2
            go_roundw
            case rel=>exact ⟨j + 1,by go_num,by rw [HGT.out,str_app],by omega,HBa2.out⟩
            case measure=>simp [intOf]; omega
          · have e6 : decide (m.k = 6) = false:=decide_eq_false hk
            have f6 : (m.k == 6) = false:=by simp [hk]
            rw [if_neg hk,List.append_nil] at hgt
            have HGT:=Lib.hid hgt
            clear hgt hk
            go_wp2
            go_roundw
            case rel=>exact ⟨j + 1,by go_num,by rw [HGT.out],by omega,HBa2.out⟩
            case measure=>simp [intOf]; omega
        · obtain rfl : j = ll:=by omega
          have dj : decide ((j : Int) < (j : Int)) = false:=decide_eq_false (by omega)
          have hfin : texts (l.take j) = al:=by rw [List.take_of_length_le (by rw [HLL.out]; omega)]; exact HTx.out
          rw [hfin]
          have hsr : ((str al).toList == (str al).toList) = true:=by simp
          go_wp2
          exact bodyPost_ret (v:=.bool true) (by simp [results,Tryz.results8,go_sem]) rfl ⟨rfl,by rw [HG.out]; exact HBc.out.trans (HBr.out.mono hgwc)⟩
theorem w_in : Tryz.checked.prog.inits.idxOf? 8 = none:=by kernel_rfl
theorem w_ok (os : Os) : Input.okWideB Tryz.prog ((World.doorLaid Tryz.prog 400 os).forCall (fun _ _=>0) ⟨#[],#[.agg #[.int .i64 0,.int .i64 0,.int .i64 0,.int .i64 0,.int .i64 0,.int .i64 0,.int .i64 0,.int .i64 0],.slice none 0 0,.int .i64 0],[]⟩) 8 ⟨#[],#[.agg #[.int .i64 0,.int .i64 0,.int .i64 0,.int .i64 0,.int .i64 0,.int .i64 0,.int .i64 0,.int .i64 0],.slice none 0 0,.int .i64 0],[]⟩ = true:=by kernel_rfl
theorem w_pre (os : Os) (H : Type) (enc : TypeId×Value→H) : Rows.brokerCatchesSpec.preB enc Tryz.prog Tryz.f8 [] false ((World.doorLaid Tryz.prog 400 os).forCall (fun _ _=>0) ⟨#[],#[.agg #[.int .i64 0,.int .i64 0,.int .i64 0,.int .i64 0,.int .i64 0,.int .i64 0,.int .i64 0,.int .i64 0],.slice none 0 0,.int .i64 0],[]⟩).memory #[.agg #[.int .i64 0,.int .i64 0,.int .i64 0,.int .i64 0,.int .i64 0,.int .i64 0,.int .i64 0,.int .i64 0],.slice none 0 0,.int .i64 0] 8 = true:=by kernel_rfl
theorem w_sz (os : Os) (H : Type) (enc : TypeId×Value→H) : Rows.brokerCatchesSpec.sizedB enc Tryz.prog Tryz.f8 false ((World.doorLaid Tryz.prog 400 os).forCall (fun _ _=>0) ⟨#[],#[.agg #[.int .i64 0,.int .i64 0,.int .i64 0,.int .i64 0,.int .i64 0,.int .i64 0,.int .i64 0,.int .i64 0],.slice none 0 0,.int .i64 0],[]⟩).memory #[.agg #[.int .i64 0,.int .i64 0,.int .i64 0,.int .i64 0,.int .i64 0,.int .i64 0,.int .i64 0,.int .i64 0],.slice none 0 0,.int .i64 0] 8 = true:=by kernel_rfl
set_option maxRecDepth 100000 in
theorem lifted (os : Os) (started : os.Started) (H : Type) (enc : TypeId×Value→H) :
    ReturnsInHanded {} Tryz.checked os 8 .any (fun w args=>(Rows.brokerCatchesSpec.pre enc Tryz.prog Tryz.f8 [] false w args∧laidMetH Tryz.prog laidL w)∧sizedMet enc Tryz.prog Tryz.f8 (OpenSpec.ofChange Rows.brokerCatchesSpec) false w args)
      (Rows.brokerCatchesSpec.post enc Tryz.prog Tryz.f8 false true false false):=by
  refine returnsInHanded_of_change_and (C:=Tryz.checked) (X:=fun w _=>laidMetH Tryz.prog laidL w) (fun _ _ _ hh h=>h.of_heap hh) own started w_in Tryz.func8
    (ChangeSpec.witness_shaped (enc:=enc) (C:=Tryz.checked) (os:=os) (X:=fun w _=>laidMetH Tryz.prog laidL w) false (World.doorLaid Tryz.prog 400 os) #[.agg #[.int .i64 0,.int .i64 0,.int .i64 0,.int .i64 0,.int .i64 0,.int .i64 0,.int .i64 0,.int .i64 0],.slice none 0 0,.int .i64 0] 8 rfl (door_shaped os _) (w_ok os) (w_pre os H enc) (w_sz os H enc) (door_met os _)) ?_
  intro W base args ds gs before hval0 hW hcnd hsz0 hL _
  have hti:=ti_of hL
  have hval : ∀ (j : Nat) t v,Tryz.f8.params[j]? = some t→args[j]? = some v→Value.okWide Tryz.prog W .any base t v:=hval0
  have hW':=hW
  obtain ⟨p,q,hA0,hV,rfl,hfz,hnd⟩:=hW
  have hsz : (DataW.weightsEach Tryz.prog (Tryz.f8.params.toList ++ Rows.brokerCatchesSpec.plain.varTypes Tryz.prog) (ds ++ gs)).all (·≤reachBytes) = true:=hsz0
  have hA : DataW.TrodAll enc Tryz.prog W 0 (fun _=>true) true Tryz.f8.params.toList args.toList ds p:=hA0
  rw [Tryz.params8] at hA hval hsz
  obtain ⟨v0,vs0,d0,ds0,p0,q0,hargs,rfl,rfl,h0,r0⟩:=trodAll_cons hA
  obtain ⟨v1,vs1,d1,ds1,p1,q1,rfl,rfl,rfl,h1,r1⟩:=trodAll_cons r0
  obtain ⟨v2,vs2,d2,ds2,p2,q2,rfl,rfl,rfl,h2,r2⟩:=trodAll_cons r1
  obtain ⟨rfl,rfl,rfl⟩:=trodAll_nil r2
  obtain rfl : args = #[v0,v1,v2]:=by cases args; simp_all
  obtain ⟨rfl,rfl⟩:=trodVars_none hV
  have k0:=h0
  have lt0 : ∀ x∈p0,x.block < W.heap.size:=by obtain ⟨m,hm⟩:=k0; exact DataW.trod_lt m _ _ _ hm
  obtain ⟨ca0,cb0,cc0,cd0,ce0,cf0,cg0,ch0,rfl⟩:=open_conf (hval 0 23 v0 rfl rfl) h0
  obtain ⟨a1,len1,cap1,rfl⟩:=okWide_slice Tryz.underlying77 (hval 1 77 v1 rfl rfl)
  have k1:=h1
  have lt1 : ∀ x∈p1,x.block < W.heap.size:=by obtain ⟨m,hm⟩:=k1; exact DataW.trod_lt m _ _ _ hm
  obtain ⟨A1,L1,C1,T1,w1,g1⟩ : ∃ A L C T,Pcs W W.heap.size a1 len1 A L C T∧len1≤cap1∧cap1≤maxLen:=by
    obtain ⟨fuel,hf⟩:=h1
    exact open_pcs hf (fits_of hsz (j:=1) rfl rfl)
  obtain ⟨a2,rfl,rfl,rfl,w2⟩:=open_int Tryz.underlying3 (hval 2 3 v2 rfl rfl) h2
  clear hA0 hval0 hsz hsz0
  refine (walk ca0 cb0 cc0 cd0 ce0 cf0 cg0 ch0 a1 len1 cap1 A1 L1 C1 T1 a2 W w1 g1 w2 hti).mono fun e W' ⟨he,bel⟩=>?_
  subst he
  exact ⟨_,rfl,_,_,_,[],_,[],hW',trodAll_mk1 (shut_bool Tryz.underlying4 _),(trodAll_cons_mk (Below.trod laidOut (by kernel_rfl) (of_decide_eq_true (by kernel_rfl)) k0 bel lt0) (trodAll_cons_mk (Below.trod laidOut (by kernel_rfl) (of_decide_eq_true (by kernel_rfl)) k1 bel lt1) (trodAll_cons_mk (shut_int Tryz.underlying3 w2) trodAll_mk0))),rfl,bel.frame _,fun h=>by cases h⟩
theorem q0 : (Rows.brokerCatchesRow.wf (OpenSpec.ofChange Rows.brokerCatchesSpec)) = true:=by kernel_rfl
theorem q3 : (Tryz.f8.params.all (Tryz.prog.readableRec ·)) = true:=by kernel_rfl
theorem q4 : (namedTie Tryz.prog Rows.brokerCatchesRow.named Rows.brokerCatchesSpec.vars) = true:=by kernel_rfl
theorem q5 : ((Rows.brokerCatchesRow.stops == [])) = true:=by kernel_rfl
theorem q7 : ((Rows.brokerCatchesRow.knobs == [])) = true:=by kernel_rfl
theorem q9 : ((Rows.brokerCatchesRow.inPlace == Tryz.prog.inPlace 8)) = true:=by kernel_rfl
theorem q10 : ((Rows.brokerCatchesRow.unfollowed == Tryz.prog.unfollowed 8)) = true:=by kernel_rfl
theorem q11 : ((Rows.brokerCatchesRow.recurses == Tryz.prog.recurses 8)) = true:=by kernel_rfl
theorem q12 : ((Rows.brokerCatchesRow.named == Tryz.prog.varsNamed 8)) = true:=by kernel_rfl
theorem q13 : ((Rows.brokerCatchesRow.maps == (Tryz.f8.params.toList ++ Rows.brokerCatchesSpec.plain.varTypes Tryz.prog).any (Tryz.prog.mapsRec ·))) = true:=by kernel_rfl
theorem q14 : ((Rows.brokerCatchesRow.ifaces == (Tryz.f8.params.toList ++ Rows.brokerCatchesSpec.plain.varTypes Tryz.prog).any (Tryz.prog.ifacesRec ·))) = true:=by kernel_rfl
theorem q15 : ((Rows.brokerCatchesRow.mapsOut == Tryz.prog.mapsAmong Tryz.f8.resultTypes.toList)) = true:=by kernel_rfl
theorem q16 : ((Rows.brokerCatchesRow.loops == (Tryz.f8.params.toList ++ Rows.brokerCatchesSpec.plain.varTypes Tryz.prog).any (Tryz.prog.loopsFrom ·))) = true:=by kernel_rfl
theorem q17 : ((Rows.brokerCatchesRow.wideKeys == (Tryz.f8.params.toList ++ Rows.brokerCatchesSpec.plain.varTypes Tryz.prog ++ Tryz.f8.resultTypes.toList).any (Tryz.prog.wideKeysFrom ·))) = true:=by kernel_rfl
theorem q18 : (Rows.brokerCatchesSpec.vars.all (Tryz.prog.varReadable ·)) = true:=by kernel_rfl
theorem q19 : (Tryz.f8.resultTypes.all (fun t=>Tryz.prog.readableRec t && decide (t < Tryz.prog.types.size))) = true:=by kernel_rfl
theorem q20 : ((Rows.brokerCatchesRow.ifacesOut == Tryz.f8.resultTypes.toList.any (Tryz.prog.ifacesRec ·))) = true:=by kernel_rfl
theorem q21 : ((Rows.brokerCatchesRow.loopsOut == Tryz.f8.resultTypes.toList.any (Tryz.prog.loopsFrom ·))) = true:=by kernel_rfl
theorem q22 : ((Rows.brokerCatchesRow.plainKeys == Tryz.prog.plainKeys)) = true:=(show Rows.brokerCatchesRow.plainKeys = Rows.brokerEventsRow.plainKeys from rfl) ▸ pq22
theorem q23 : (Rows.brokerCatchesRow.shortTexts.isNone) = true:=by kernel_rfl
theorem q26 : ((Rows.brokerCatchesRow.lifted == Tryz.prog.liftsFinal)) = true:=(show Rows.brokerCatchesRow.lifted = Rows.brokerEventsRow.lifted from rfl) ▸ pq26
theorem q27 : ((Tryz.prog.make == some Rows.brokerCatchesRow.make)) = true:=(show Rows.brokerCatchesRow.make = Rows.brokerEventsRow.make from rfl) ▸ pq27
theorem q28 : kindsAre Tryz.prog Rows.brokerCatchesRow Tryz.f8 = true:=by kernel_rfl
theorem q29 : ((Rows.brokerCatchesRow.pinned == Rows.brokerCatchesRow.pinnedBy)) = true:=by kernel_rfl
theorem q30 : ((Rows.brokerCatchesRow.veiled == (Tryz.f8.params.toList ++ Rows.brokerCatchesSpec.plain.varTypes Tryz.prog ++ Tryz.f8.resultTypes.toList).any (Tryz.prog.veiledRec ·))) = true:=by kernel_rfl
theorem q31 : (Rows.brokerCatchesRow.veiledFits Tryz.prog Tryz.f8.params.toList (Tryz.f8.params.toList ++ Rows.brokerCatchesSpec.plain.varTypes Tryz.prog ++ Tryz.f8.resultTypes.toList)) = true:=by kernel_rfl
theorem q_named : Tryz.prog.funcNamed Rows.brokerCatchesRow.func = some 8:=by kernel_rfl
theorem q_inst : Tryz.f8.isInstance Tryz.prog Rows.brokerCatchesRow.origin Rows.brokerCatchesRow.targs:=of_decide_eq_true (by kernel_rfl)
theorem q_wrap : Tryz.f8.isWrapper Tryz.prog Rows.brokerCatchesRow.wrapper Rows.brokerCatchesRow.mainSum:=by unfold Func.isWrapper; first | (rw [if_pos (by decide +kernel)]; kernel_rfl) | (rw [if_neg (by decide +kernel)]; exact ⟨rfl,rfl⟩)
set_option maxRecDepth 100000 in
theorem q_all : joinedFacts Tryz.prog 8 Tryz.f8 Rows.brokerCatchesSpec Rows.brokerCatchesRow = true:=joined_of (P:=Tryz.prog) (f:=8) (fn:=Tryz.f8) (s:=Rows.brokerCatchesSpec) (c:=Rows.brokerCatchesRow) q0 pq1 pq2 q3 q4 q5 pq6 q7 pq8 q9 q10 q11 q12 q13 q14 q15 q16 q17 q18 q19 q20 q21 q22 q23 pq24 pq25 q26 q27 q28 q29 q30 q31
theorem over : Rows.BrokerCatchesSaid:=
  OpenClaim.holds_of_wide 8 Tryz.f8 rfl rfl rfl rfl rfl rfl rfl ⟨rfl,rfl,rfl,rfl,rfl⟩ rfl rfl rfl rfl rfl q_named Tryz.func8 q_all q_inst q_wrap
    (fun os started H enc _=>lifted os started H enc)
theorem c_wf : Rows.brokerCatchesRow.wfByText (OpenSpec.ofChange Rows.brokerCatchesSpec) = true:=by kernel_rfl
theorem c_looks : true = Tryz.prog.looks []:=by kernel_rfl
theorem c_stand : ([23,77,3].all fun u=>!Tryz.prog.wantsStandIn u) = true:=by kernel_rfl
theorem c_goes : false = Rows.brokerCatchesRow.goesBy Tryz.prog:=by kernel_rfl
end Go.Proofs.YtjmdddhbdofppaaGreatDoor.brokerCatches
namespace Go.Proofs.YtjmdddhbdofppaaGreatDoor
theorem brokerCatches_holds : Rows.BrokerCatchesCardSaid:=
  Claim7.holds_tied_plain_at (c:=Rows.brokerCatchesRow) .later [] _ true _ true
    brokerCatches.over (fun _ h=>by cases h) brokerCatches.c_wf (fun _ h=>by cases h) brokerCatches_row_tie rfl ⟨rfl,rfl⟩ main_is rfl
    (fun f fn hf hfn=>by
      obtain rfl : f = 8:=Option.some.inj (brokerCatches.q_named.symm.trans hf) |>.symm
      obtain rfl : fn = Tryz.f8:=(Option.some.inj (Tryz.func8.symm.trans hfn)).symm
      exact ⟨brokerCatches.c_looks,fun j t ht=>by
        rw [Tryz.params8] at ht
        have hm : t∈[23,77,3]:=by simpa using Array.mem_of_getElem? ht
        exact (show Tryz.prog.wantsStandIn t = false by simpa using List.all_eq_true.1 brokerCatches.c_stand t hm)⟩)
    brokerCatches.c_goes
#print axioms brokerCatches_holds
end Go.Proofs.YtjmdddhbdofppaaGreatDoor
