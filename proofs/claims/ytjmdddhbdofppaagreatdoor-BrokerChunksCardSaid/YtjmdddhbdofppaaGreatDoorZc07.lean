/- Qt Qr Qi Qd -/
import Derived.Test.YtjmdddhbdofppaaGreatDoorZc06

section
namespace Go.Proofs.YtjmdddhbdofppaaGreatDoor.Bk
open Fr Lx
def tk (c : Cn) : Cn:={ c with idle:=c.idle + 1 }
def Stays (b : Br) (c : Cn) : Prop:=b.cf.idle = 0∨c.idle + 1 < b.cf.idle
theorem tickC_stays {b : Br} {k : Nat} {c : Cn} (hc : b.cs k = some c) (h : Stays b c) : tickC b k = setc b k (some (tk c)):=by
  unfold tickC
  rw [hc]
  show (if b.cf.idle≠0∧b.cf.idle≤c.idle + 1 then _ else _) = _
  rw [if_neg (by unfold Stays at h; omega)]
  rfl
theorem tickC_none {b : Br} {k : Nat} (hc : b.cs k = none) : tickC b k = b:=by unfold tickC; rw [hc]
theorem ticks_map : ∀ (l : List Nat) (b : Br),l.Nodup→(∀ k∈l,∀ c,b.cs k = some c→Stays b c)→l.foldl tickC b = { b with cs:=fun j=>if j∈l then (b.cs j).map tk else b.cs j }
  | [],b,_,_=>by simp
  | k :: l,b,hn,hs=>by
    obtain ⟨hk,hn⟩:=List.nodup_cons.1 hn
    show l.foldl tickC (tickC b k) = _
    rcases hc : b.cs k with _ | c
    · rw [tickC_none hc,ticks_map l b hn fun j hj=>hs j (List.mem_cons_of_mem _ hj)]
      congr 1
      funext j
      by_cases e : j = k
      · subst e; rw [if_neg hk,if_pos List.mem_cons_self,hc]; rfl
      · by_cases e2 : j∈l
        · rw [if_pos e2,if_pos (List.mem_cons_of_mem _ e2)]
        · rw [if_neg e2,if_neg (fun h=>(List.mem_cons.1 h).elim e e2)]
    · rw [tickC_stays hc (hs k List.mem_cons_self c hc),ticks_map l _ hn fun j hj d hd=>by
        rw [setc_ne b k _ (fun e : j = k=>hk (by rw [← e]; exact hj))] at hd
        exact hs j (List.mem_cons_of_mem _ hj) d hd]
      show ({ b with cs:=_ } : Br) = _
      congr 1
      funext j
      by_cases e : j = k
      · subst e; rw [if_neg hk,if_pos List.mem_cons_self,hc,setc_cs]; rfl
      · rw [setc_ne b k _ e]
        by_cases e2 : j∈l
        · rw [if_pos e2,if_pos (List.mem_cons_of_mem _ e2)]
        · rw [if_neg e2,if_neg (fun h=>(List.mem_cons.1 h).elim e e2)]
theorem ticks_all {b : Br} (hI : In16 b) (hs : ∀ k c,b.cs k = some c→Stays b c) : ids.foldl tickC b = Bk.mapc b tk:=by
  rw [ticks_map ids b ids_nodup fun k _=>hs k]
  unfold Bk.mapc
  congr 1
  funext j
  by_cases e : j∈ids
  · rw [if_pos e]
  · rw [if_neg e,hI.no (fun h=>e (mem_ids.2 h))]; rfl
section
variable {b : Br} {n : Nat}
theorem CW.tick (h : CW b n) (hs : ∀ k c,b.cs k = some c→Stays b c) (hq : n + 11≤b.cf.queue) : CW (tickB b) (n + 11)∧(tickB b).fl = ftick b.fl∧(tickB b).told = fhold (ftick b.fl)∧Sm (tickB b) b∧(∀ j,((tickB b).cs j).isSome = (b.cs j).isSome) ∧
    ∀ k d,(tickB b).cs k = some d→∃ c,b.cs k = some c∧d.idle = c.idle + 1:=by
  have e : tickB b = Bk.settle (Bk.mapc (setFl b (ftick b.fl)) tk):=by
    unfold tickB
    exact congrArg _ (ticks_all (b:=setFl b (ftick b.fl)) h.in16 hs)
  have hw : CW (Bk.mapc (setFl b (ftick b.fl)) tk) n:=(h.fl (ftick b.fl)).mapc fun c h1 h2=>⟨h1,rfl,rfl,rfl,h2⟩
  obtain ⟨s1,s2,s3,s4⟩:=hw.settle (show n + 11≤b.cf.queue from hq)
  have hl:=holder_lh (Bk.mapc (setFl b (ftick b.fl)) tk)
  rw [e]
  refine ⟨s2,s3,s4,?_,fun j=>?_,fun k d hd=>?_⟩
  · rw [s1]
    exact hl.sm.trans ⟨rfl,rfl,rfl,rfl,rfl,rfl⟩
  · rw [s1,hl.some j]
    show ((b.cs j).map tk).isSome = _
    rw [Option.isSome_map]
  · rw [s1] at hd
    obtain ⟨c1,h1,h2⟩:=hl.cn k d hd
    replace h1 : (b.cs k).map tk = some c1:=h1
    obtain ⟨c,hc,rfl⟩:=Option.map_eq_some_iff.1 h1
    exact ⟨c,hc,h2.idle⟩
theorem left_len {k : Nat} (hk : k≤16) : (enc (left k)).length≤12:=by
  have:=Dgs.dgs_len k 1 (by show k < 100; omega)
  unfold left
  rw [notice_len,List.length_append]
  show 5 + _ + 5≤12
  omega
theorem CW.cut (h : CW b n) {k : Nat} {c : Cn} (hc : b.cs k = some c) (hq : n + 23≤b.cf.queue) : writeE b (k : Nat) = 0∧CW (cutB b (k : Nat)) (n + 23)∧(cutB b (k : Nat)).fl = fleave b.fl k∧(cutB b (k : Nat)).told = fhold (fleave b.fl k)∧Sm (cutB b (k : Nat)) b ∧
    ∀ j,((cutB b (k : Nat)).cs j).isSome = (!decide (j = k) && (b.cs j).isSome):=by
  obtain ⟨h1,h2⟩:=h.in16 k (by rw [hc]; rfl)
  obtain ⟨c1,c2,c3,c4,c5⟩:=h.cn k c hc
  have ht:=there_of hc h1 h2
  have hk : ((k : Nat) : Int).toNat = k:=by omega
  have hll:=left_len h2
  have hlv : leave b k = Bk.mapc (setFl (setc b k (some { c with st:=2 })) (fleave b.fl k)) (hear (left k)):=by
    show leaveW (tellN 16) b k = _
    unfold leaveW
    rw [hc]
    show (if c.st = 1 then tellN 16 (left k) (setFl (setc b k (some { c with st:=2 })) (fleave b.fl k)) else _) = _
    rw [if_pos c1]
    refine goes_mapc (sendN 15 (left k)) (plus (left k)) (setFl (setc b k (some { c with st:=2 })) (fleave b.fl k)) (fun j hj=>?_) fun cs' j d _ _ hd hst hd'=>?_
    · by_cases e : j = k
      · omega
      · replace hj : ((setc b k (some { c with st:=2 })).cs j).isSome = true:=hj
        rw [setc_ne b k _ e] at hj; exact h.in16 j hj
    · refine sendN_fits hd' (by omega) ?_
      replace hd : (setc b k (some { c with st:=2 })).cs j = some d:=hd
      show d.out.length + _≤b.cf.queue
      by_cases e : j = k
      · subst e
        rw [setc_cs] at hd
        injection hd with hd
        subst hd
        exact absurd hst (by show ¬ (2 : Nat) = 1; decide)
      · rw [setc_ne b k _ e] at hd
        have:=(h.cn j d hd).2.2.2.2
        omega
  have hcs : ∀ j d,(setc (leave b k) k none).cs j = some d→j≠k∧∃ d0,b.cs j = some d0∧d = plus (left k) d0:=fun j d hd=>by
    by_cases e : j = k
    · subst e; rw [setc_cs] at hd; cases hd
    · rw [setc_ne _ k _ e,hlv] at hd
      replace hd : ((setc b k (some { c with st:=2 })).cs j).map (hear (left k)) = some d:=hd
      rw [setc_ne b k _ e] at hd
      obtain ⟨d0,hd0,rfl⟩:=Option.map_eq_some_iff.1 hd
      refine ⟨e,d0,hd0,?_⟩
      unfold hear
      rw [if_pos (h.cn j d0 hd0).1]
  have hw : CW (setc (leave b k) k none) (n + 12):=by
    refine ⟨fun j hj=>?_,fun j d hd=>?_⟩
    · obtain ⟨d,hd⟩:=Option.isSome_iff_exists.1 hj
      obtain ⟨_,d0,hd0,_⟩:=hcs j d hd
      exact h.in16 j (by rw [hd0]; rfl)
    · obtain ⟨_,d0,hd0,rfl⟩:=hcs j d hd
      obtain ⟨f1,f2,f3,f4,f5⟩:=h.cn j d0 hd0
      refine ⟨f1,f2,f3,?_,?_⟩
      · rw [hlv]; exact f4
      · show (d0.out ++ enc (left k)).length≤_; rw [List.length_append]; omega
  have hcf : (setc (leave b k) k none).cf = b.cf:=by rw [hlv]; rfl
  have hfl : (setc (leave b k) k none).fl = fleave b.fl k:=by rw [hlv]; rfl
  obtain ⟨s1,s2,s3,s4⟩:=hw.settle (by rw [hcf]; omega)
  have e : cutB b (k : Nat) = Bk.settle (setc (leave b k) k none):=by unfold cutB; rw [if_pos ht,hk]
  rw [e]
  have hl:=holder_lh (setc (leave b k) k none)
  refine ⟨by unfold writeE; rw [if_pos ht],s2,s3.trans hfl,by rw [s4,hfl],?_,fun j=>?_⟩
  · rw [s1]
    exact hl.sm.trans (by rw [hlv]; exact ⟨rfl,rfl,rfl,rfl,rfl,rfl⟩)
  · rw [s1,hl.some j]
    by_cases e : j = k
    · subst e; rw [setc_cs]; simp
    · rw [setc_ne _ k _ e,hlv]
      show (((setc b k (some { c with st:=2 })).cs j).map (hear (left k))).isSome = _
      rw [Option.isSome_map,setc_ne b k _ e]
      simp [e]
theorem CW.flush (h : CW b n) (ht : fhold b.fl = b.told) {k : Nat} {c : Cn} (hc : b.cs k = some c) {w : Int} (hw : (c.out.length : Int)≤w) : writeT b (k : Nat) w = c.out∧writeE b (k : Nat) = 0∧writeB b (k : Nat) w = setc b k (some { c with out:=[] })∧CW (setc b k (some { c with out:=[] })) n:=by
  obtain ⟨h1,h2⟩:=h.in16 k (by rw [hc]; rfl)
  obtain ⟨c1,c2,c3,c4,c5⟩:=h.cn k c hc
  obtain ⟨e1,e2,e3⟩:=write_all h1 h2 hc hw
  have hb : CW (setc b k (some { c with out:=[] })) n:=h.set h1 h2 ⟨c1,c2,c3,c4,Nat.zero_le _⟩
  exact ⟨e1,e2,by rw [e3,settle_rest (hb.rest ht)],hb⟩
theorem CW.took {k : Nat} {c : Cn} {m : M} (h : CW b n) (hc : b.cs k = some c) (hm : m.ok = true) {b' : Br} (ht : takeB (setc b k (some { c with idle:=0 })) k (some m) = b') (hr : Rest b') : bytesB b (k : Nat) (enc m) = b'∧bytesE b (k : Nat) = 0:=by
  obtain ⟨h1,h2⟩:=h.in16 k (by rw [hc]; rfl)
  obtain ⟨c1,c2,c3,c4,c5⟩:=h.cn k c hc
  obtain ⟨e1,e2⟩:=bytes_one h1 h2 hc c2 (by omega) hm
  refine ⟨?_,e2⟩
  rw [e1,ht,holder_same hr.told,settle_rest hr]
def deniedM (s : Bs) : M:=⟨11,0,0,s⟩
theorem CW.denied (h : CW b n) (hto : fhold b.fl = b.told) {k : Nat} {c : Cn} (hc : b.cs k = some c) {seq : Int} {s : Bs} (h0 : 0≤seq) (hs1 : seq≤1099511627776) (hs : ∀ x∈s,x≠10#8) (hn : s.length≤80) (hd : ∀ b' : Br,b'.fl = b.fl→doB b' k (parse s) = (b',false)) (hq : n + (enc (deniedM s)).length≤b.cf.queue) :
    bytesB b (k : Nat) (enc (keys seq (esc s))) = setc b k (some (plus (deniedM s) { c with idle:=0 }))∧bytesE b (k : Nat) = 0∧CW (setc b k (some (plus (deniedM s) { c with idle:=0 }))) (n + (enc (deniedM s)).length):=by
  obtain ⟨h1,h2⟩:=h.in16 k (by rw [hc]; rfl)
  obtain ⟨c1,c2,c3,c4,c5⟩:=h.cn k c hc
  have hok:=keys_ok (seq:=seq) (t:=esc s) h0 hs1 (by unfold esc; simp; omega)
  have hb : CW (setc b k (some (plus (deniedM s) { c with idle:=0 }))) (n + (enc (deniedM s)).length):=
    (h.mono (Nat.le_add_right _ _)).set h1 h2 ⟨c1,c2,c3,c4,by show (c.out ++ _).length≤_; rw [List.length_append]; omega⟩
  have ht : takeB (setc b k (some { c with idle:=0 })) k (some (keys seq (esc s))) = setc b k (some (plus (deniedM s) { c with idle:=0 })):=by
    rw [keys_cmd (c:={ c with idle:=0 }) (setc_cs _ _ _) c1 c3 hs hn]
    unfold cmd1
    rw [hd (setc b k (some { c with idle:=0 })) rfl]
    show Bk.holder (Bk.send (deniedM s) (setc b k (some { c with idle:=0 })) k) = _
    rw [send_fits (setc_cs _ _ _) (by show c.st≠2; omega) (by show c.out.length + _≤b.cf.queue; omega),setc_two]
    exact holder_same hto
  obtain ⟨e1,e2⟩:=h.took hc hok ht (hb.rest hto)
  exact ⟨e1,e2,hb⟩
theorem take_plain {k : Nat} {c : Cn} {seq : Int} {t : Bs} (hc : b.cs k = some c) (hst : c.st = 1) (hl : c.lx = lx0) (ht : ∀ x∈t,x≠29#8) : takeB b k (some (keys seq t)) = offered b k seq t:=by
  rw [take_keys hc hst,keysB_eq hc]
  obtain ⟨h1,h2,h3⟩:=lx_plain t ht
  show cmds (offered (setc b k (some { c with lx:=lrun c.lx t })) k seq (lkeys c.lx t)) k (lcmds c.lx t) = _
  rw [hl,h1,h2,h3,show ({ c with lx:=lx0 } : Cn) = c by rw [← hl],setc_as hc]
  rfl
theorem CW.typed (h : CW b n) (hto : fhold b.fl = b.told) {k : Nat} {c : Cn} (hc : b.cs k = some c) {seq : Int} {t : Bs} (h0 : 0≤seq) (hs1 : seq≤1099511627776) (ht : ∀ x∈t,x≠29#8) (hn : t.length≤2042) (hne : t≠[]) (hw : whyB b k t.length = 0) :
    bytesB b (k : Nat) (enc (keys seq t)) = { setc b k (some { c with idle:=0 }) with inp:=b.inp ++ t,tot:=b.tot + t.length }∧bytesE b (k : Nat) = 0∧CW { setc b k (some { c with idle:=0 }) with inp:=b.inp ++ t,tot:=b.tot + t.length } n:=by
  obtain ⟨h1,h2⟩:=h.in16 k (by rw [hc]; rfl)
  obtain ⟨c1,c2,c3,c4,c5⟩:=h.cn k c hc
  have hb : CW { setc b k (some { c with idle:=0 }) with inp:=b.inp ++ t,tot:=b.tot + t.length } n:=by
    have:=h.set h1 h2 (c:={ c with idle:=0 }) ⟨c1,c2,c3,c4,c5⟩
    exact ⟨this.in16,this.cn⟩
  have hk : takeB (setc b k (some { c with idle:=0 })) k (some (keys seq t)) = { setc b k (some { c with idle:=0 }) with inp:=b.inp ++ t,tot:=b.tot + t.length }:=by
    rw [take_plain (c:={ c with idle:=0 }) (setc_cs _ _ _) c1 c3 ht]
    unfold offered
    rw [if_neg hne,if_pos (show whyB (setc b k (some { c with idle:=0 })) k t.length = 0 from hw)]
    rfl
  obtain ⟨e1,e2⟩:=h.took hc (keys_ok h0 hs1 hn) hk (hb.rest hto)
  exact ⟨e1,e2,hb⟩
def rejectM (seq : Int) (why : Nat) : M:=⟨8,seq,why,[]⟩
theorem reject_len (seq : Int) (why : Nat) : (enc (rejectM seq why)).length = 17:=by rw [enc_len5]; rfl
theorem CW.rejected (h : CW b n) (hto : fhold b.fl = b.told) {k : Nat} {c : Cn} (hc : b.cs k = some c) {seq : Int} {t : Bs} (h0 : 0≤seq) (hs1 : seq≤1099511627776) (ht : ∀ x∈t,x≠29#8) (hn : t.length≤2042) (hne : t≠[]) (hw : whyB b k t.length≠0) (hq : n + 17≤b.cf.queue) :
    bytesB b (k : Nat) (enc (keys seq t)) = setc b k (some (plus (rejectM seq (whyB b k t.length)) { c with idle:=0 }))∧bytesE b (k : Nat) = 0∧CW (setc b k (some (plus (rejectM seq (whyB b k t.length)) { c with idle:=0 }))) (n + 17):=by
  obtain ⟨h1,h2⟩:=h.in16 k (by rw [hc]; rfl)
  obtain ⟨c1,c2,c3,c4,c5⟩:=h.cn k c hc
  have hb : CW (setc b k (some (plus (rejectM seq (whyB b k t.length)) { c with idle:=0 }))) (n + 17):=
    (h.mono (Nat.le_add_right _ _)).set h1 h2 ⟨c1,c2,c3,c4,by show (c.out ++ enc _).length≤_; rw [List.length_append,reject_len]; omega⟩
  have hk : takeB (setc b k (some { c with idle:=0 })) k (some (keys seq t)) = setc b k (some (plus (rejectM seq (whyB b k t.length)) { c with idle:=0 })):=by
    rw [take_plain (c:={ c with idle:=0 }) (setc_cs _ _ _) c1 c3 ht]
    have hwy : whyB (setc b k (some { c with idle:=0 })) k t.length = whyB b k t.length:=rfl
    unfold offered
    rw [if_neg hne,hwy,if_neg hw]
    show Bk.send (rejectM seq (whyB b k t.length)) _ k = _
    rw [send_fits (setc_cs _ _ _) (by show c.st≠2; omega) (by show c.out.length + (enc _).length≤b.cf.queue; rw [reject_len]; omega),setc_two]
  obtain ⟨e1,e2⟩:=h.took hc (keys_ok h0 hs1 hn) hk (hb.rest hto)
  exact ⟨e1,e2,hb⟩
end
def dataM (p : Nat) (t : Bs) : M:=⟨6,p,0,t⟩
theorem data_len (p : Nat) (t : Bs) : (enc (dataM p t)).length = t.length + 11:=by rw [enc_len5]; show 6 * 1 + t.length + 5 = _; omega
def sv (L : Bs) (c : Cn) : Cn:=if c.p = L.length then c else { c with p:=L.length,out:=c.out ++ enc (dataM c.p (L.drop c.p)) }
def SvOk (b : Br) (c : Cn) : Prop:=c.p≤b.L.length∧b.L.length - b.cf.log≤c.p∧b.L.length - c.p≤b.cf.data∧b.L.length - c.p≤2042∧c.out.length + (b.L.length - c.p) + 211≤b.cf.queue
theorem sv_next {b : Br} {c : Cn} (h : SvOk b c) (hp : c.p≠b.L.length) : nextB b c = some (dataM c.p (b.L.drop c.p),b.L.length,c.s):=by
  obtain ⟨h1,h2,h3,h4,h5⟩:=h
  have hc : countOf b.L.length c.p ((b.cf.queue : Int) - c.out.length - 200) b.cf.data = b.L.length - c.p:=by
    unfold countOf
    omega
  unfold nextB nextOf
  rw [if_neg (by omega),hc,if_neg (by omega),show c.p + (b.L.length - c.p) = b.L.length by omega]
  rw [List.take_of_length_le (by rw [List.length_drop]; omega)]
  rfl
theorem settle_sv {b : Br} (hI : In16 b) (ht : fhold b.fl = b.told) (hc : ∀ k c,b.cs k = some c→c.st = 1∧SvOk b c) : Bk.settle b = Bk.mapc b (sv b.L):=by
  have hg : goes serve b ids = Bk.mapc b (sv b.L):=by
    rw [goes_mapc serve (sv b.L) b hI fun cs' k c _ _ hk hst hk'=>?_]
    · unfold Bk.mapc
      congr 1
      funext k
      rcases hk : b.cs k with _ | c
      · rfl
      · show some (if c.st = 1 then sv b.L c else c) = _
        rw [if_pos (hc k c hk).1]
        rfl
    · by_cases hp : c.p = b.L.length
      · rw [serve_none (b:={ b with cs:=cs' }) hk' (next_end hp)]
        unfold sv
        rw [if_pos hp,setc_as (b:={ b with cs:=cs' }) hk']
      · have h:=(hc k c hk).2
        have hn : nextB { b with cs:=cs' } c = some (dataM c.p (b.L.drop c.p),b.L.length,c.s):=sv_next (b:={ b with cs:=cs' }) h hp
        have hsv : served { b with cs:=cs' } k c (dataM c.p (b.L.drop c.p)) b.L.length c.s = setc { b with cs:=cs' } k (some (sv b.L c)):=by
          unfold served putc sv
          obtain ⟨h1,h2,h3,h4,h5⟩:=h
          rw [if_pos (by rw [data_len,List.length_drop]; show c.out.length + _≤b.cf.queue; omega),if_neg hp]
        show serveN (b.L.length + 1 + 1) { b with cs:=cs' } k = _
        rw [serveN_succ _ _ k hk',hn]
        show (if (6 : Int) = 12 then _ else serveN (b.L.length + 1) (served { b with cs:=cs' } k c (dataM c.p (b.L.drop c.p)) b.L.length c.s) k) = _
        rw [if_neg (by decide),hsv,serveN_succ _ _ k (setc_cs _ _ _),next_end (b:=setc { b with cs:=cs' } k (some (sv b.L c))) (c:=sv b.L c) (by
          show (sv b.L c).p = b.L.length
          unfold sv
          rw [if_neg hp])]
  have hend : ∀ k c,(Bk.mapc b (sv b.L)).cs k = some c→c.st = 1∧c.p = b.L.length:=fun k c hk=>by
    replace hk : (b.cs k).map (sv b.L) = some c:=hk
    obtain ⟨d,hd,rfl⟩:=Option.map_eq_some_iff.1 hk
    have:=(hc k d hd).1
    unfold sv
    split
    · next e=>exact ⟨this,e⟩
    · exact ⟨this,rfl⟩
  unfold Bk.settle
  rw [holder_same ht,hg,holder_same (by exact ht),reap_rest fun k c hk h2=>by have:=(hend k c hk).1; omega]
end Go.Proofs.YtjmdddhbdofppaaGreatDoor.Bk
end

section
namespace Go.Proofs.YtjmdddhbdofppaaGreatDoor.Bk
open Fr Lx
structure FlOwn (s : Fl) (ow i : Nat) : Prop where
  rising : Rising s.roles
  own : ∀ j,rget s.roles j = some 2→j = ow
  is : ow≠0→rget s.roles ow = some 2
  lo : ∀ j v,rget s.roles j = some v→1≤j∧j≤i
theorem FlOwn.any {s : Fl} {ow i : Nat} (h : FlOwn s ow i) : anyOwner s = decide (ow≠0):=by
  unfold anyOwner
  by_cases h0 : ow = 0
  · rw [decide_eq_false (by omega),Bool.eq_false_iff]
    intro ha
    rw [List.any_eq_true] at ha
    obtain ⟨p,hp,h2⟩:=ha
    have h2 : p.2 = 2:=by simpa using h2
    have hg:=rget_of_mem h.rising (show (p.1,p.2)∈s.roles from hp)
    rw [h2] at hg
    have:=h.own _ hg
    have:=h.lo _ _ hg
    omega
  · rw [decide_eq_true h0,List.any_eq_true]
    exact ⟨_,rget_mem (h.is h0),by simp⟩
def roleFor (w : Bool) (ow : Nat) : Int:=if w then (if ow = 0 then 2 else 1) else 0
def ownNext (w : Bool) (ow id : Nat) : Nat:=if w = true∧ow = 0 then id else ow
theorem FlOwn.first {s : Fl} {ow i : Nat} (h : FlOwn s ow i) (w : Bool) : firstRole s w = roleFor w ow:=by
  unfold firstRole roleFor
  rw [h.any]
  by_cases h0 : ow = 0
  · simp [h0]
  · simp [h0]
theorem FlOwn.join {s : Fl} {ow i : Nat} (h : FlOwn s ow i) (w : Bool) : FlOwn (fjoin s (i + 1 : Nat) (roleFor w ow)) (ownNext w ow (i + 1)) (i + 1)∧rrole (fjoin s (i + 1 : Nat) (roleFor w ow)).roles (i + 1 : Nat) = roleFor w ow∧rhas (fjoin s (i + 1 : Nat) (roleFor w ow)).roles (i + 1 : Nat) = true:=by
  have hno : rget s.roles ((i + 1 : Nat) : Int) = none:=by
    rcases e : rget s.roles ((i + 1 : Nat) : Int) with _ | v
    · rfl
    · have:=h.lo _ _ e; omega
  have hr : isRole (roleFor w ow) = true:=by unfold roleFor isRole; (repeat' split) <;> decide
  have hj : joins s ((i + 1 : Nat) : Int) (roleFor w ow) = true:=by
    unfold joins rhas
    rw [hno,hr]
    simp <;> omega
  have hf : fjoin s ((i + 1 : Nat) : Int) (roleFor w ow) = { s with roles:=rput s.roles ((i + 1 : Nat) : Int) (roleFor w ow) }:=by unfold fjoin; rw [if_pos hj]
  rw [hf]
  have hp:=fun j=>rget_put h.rising ((i + 1 : Nat) : Int) (roleFor w ow) j
  refine ⟨⟨h.rising.put _ _,fun j hj2=>?_,fun hne=>?_,fun j v hv=>?_⟩,?_,?_⟩
  · replace hj2 : rget (rput s.roles _ _) j = some 2:=hj2
    rw [hp] at hj2
    unfold ownNext
    by_cases e : j = ((i + 1 : Nat) : Int)
    · rw [if_pos e] at hj2
      injection hj2 with hj2
      have : w = true∧ow = 0:=by
        revert hj2
        unfold roleFor
        cases w
        · intro h9; exact absurd (show (0 : Int) = 2 from h9) (by decide)
        · by_cases h0 : ow = 0
          · exact fun _=>⟨rfl,h0⟩
          · rw [if_neg h0]; intro h9; exact absurd h9 (by decide)
      rw [if_pos this,e]
    · rw [if_neg e] at hj2
      have h9:=h.own j hj2
      have:=h.lo _ _ hj2
      rw [if_neg (by omega)]
      exact h9
  · show rget (rput s.roles _ _) _ = some 2
    rw [hp]
    unfold ownNext at hne ⊢
    by_cases hw : w = true∧ow = 0
    · rw [if_pos hw,if_pos rfl]
      unfold roleFor
      rw [hw.1,if_pos rfl,if_pos hw.2]
    · rw [if_neg hw] at hne ⊢
      have:=h.is hne
      have h2:=h.lo _ _ this
      rw [if_neg (by omega)]
      exact this
  · replace hv : rget (rput s.roles _ _) j = some v:=hv
    rw [hp] at hv
    by_cases e : j = ((i + 1 : Nat) : Int)
    · omega
    · rw [if_neg e] at hv
      have:=h.lo _ _ hv
      omega
  · unfold rrole
    show (rget (rput s.roles _ _) _).getD 0 = _
    rw [hp,if_pos rfl]; rfl
  · unfold rhas
    show (rget (rput s.roles _ _) _).isSome = true
    rw [hp,if_pos rfl]; rfl
theorem fout_roles (s : Fl) (id : Int) : (fout s id).roles = s.roles:=by
  unfold fout outAt
  split <;> rfl
theorem FlOwn.gone {s : Fl} {ow i : Nat} (h : FlOwn s ow i) : FlOwn (fleave s ow) 0 i:=by
  have hr : (fleave s ow).roles = rdel s.roles ow:=by
    unfold fleave
    split
    · rfl
    · next hn=>exact (rdel_none (by unfold rhas at hn; simpa using hn)).symm
  have hd:=fun j=>rget_del h.rising ow j
  refine ⟨by rw [hr]; exact h.rising.del _,fun j hj=>?_,fun h0=>absurd rfl h0,fun j v hv=>?_⟩
  · rw [hr,hd] at hj
    split at hj
    · cases hj
    · next e=>exact absurd (h.own j hj) e
  · rw [hr,hd] at hv
    split at hv
    · cases hv
    · exact h.lo _ _ hv
structure RolesAt (b : Br) (i ow : Nat) : Prop where
  cw : CW b (i * 130)
  ev : EvOk b 0 (i * 2200) 0
  cf : b.cf = cfd
  ended : b.ended = false
  told : fhold b.fl = b.told
  few : ∀ j,(b.cs j).isSome = true→j≤i
  own : FlOwn b.fl ow i
def wU : Bs:=[117#8]
def roleM (w : Bool) : M:=⟨1,if w then 5 else 4,0,wU⟩
theorem role_ok (w : Bool) : (roleM w).ok = true:=by cases w <;> decide
theorem role_enc (w : Bool) : (enc (roleM w)).length = 18:=by rw [enc_len5]; cases w <;> rfl
theorem cfd_ok : EvOk (bnew cfd) 0 0 0:=by
  refine ⟨⟨by decide,by decide,by decide,by decide,by decide,by decide,(fok_new 100).mono (by decide),fun p hp=>(by cases hp),Nat.zero_le _,by decide,by decide,fun k c hc=>(by cases hc)⟩,fun k c hc=>(by cases hc),Nat.zero_le _,Nat.zero_le _,Sp.Ok.start (by decide) (by decide)⟩
theorem roles_begin : RolesAt (bnew cfd) 0 0:=
  ⟨⟨fun k hk=>(by cases hk),fun k c hc=>(by cases hc)⟩,cfd_ok,rfl,rfl,rfl,fun j hj=>(by cases hj),⟨List.Pairwise.nil,fun j hj=>(by cases hj),fun h=>absurd rfl h,fun j v hv=>(by cases hv)⟩⟩
theorem RolesAt.L {b : Br} {i ow : Nat} (h : RolesAt b i ow) : b.L = []:=List.eq_nil_of_length_eq_zero (Nat.le_zero.1 h.ev.len)
theorem RolesAt.come {b : Br} {i ow : Nat} (h : RolesAt b i ow) (hi : i < 14) (w : Bool) :
    let b2:=bytesB (connectB b (i + 1 : Nat)) (i + 1 : Nat) (enc (roleM w))
    CW b2 (i * 130 + 107)∧EvOk b2 0 (i * 2200 + 2070) 0∧b2.cf = cfd∧b2.ended = false∧fhold b2.fl = b2.told∧(∀ j,(b2.cs j).isSome = true→j≤i + 1)∧(b2.cs (i + 1)).isSome = true∧FlOwn b2.fl (ownNext w ow (i + 1)) (i + 1)∧rrole b2.fl.roles (i + 1 : Nat) = roleFor w ow∧rhas b2.fl.roles (i + 1 : Nat) = true:=by
  have hno : b.cs (i + 1) = none:=by
    rcases e : b.cs (i + 1) with _ | c
    · rfl
    · have:=h.few (i + 1) (by rw [e]; rfl); omega
  have hat : comeAt b (roleM w) = b.L.length:=by
    have : comeAt b (roleM w)≤b.L.length:=viewAt_le _ _ _ _
    have h0:=h.L
    rw [h0] at this ⊢
    exact Nat.le_zero.1 this
  obtain ⟨e1,e2,e3,e4,e5,e6,e7⟩:=h.cw.come (k:=i + 1) (by omega) (by omega) hno (role_ok w) rfl (by cases w <;> decide) (show isName wU = true by decide) hat (by rw [h.cf]; show i * 130 + 60 + 47≤2048; omega)
  have hro : comeRole b (roleM w) = roleFor w ow:=by
    unfold comeRole
    rw [show decide ((roleM w).a % 2 = 1) = w by cases w <;> decide]
    exact h.own.first w
  rw [hro] at e4 e5
  obtain ⟨f1,f2,f3⟩:=h.own.join w
  have hev:=(h.ev.connect (i + 1 : Nat)).bytes (i + 1 : Nat) (enc (roleM w))
  rw [role_enc] at hev
  refine ⟨e3,hev,e6.cf.trans h.cf,e6.ended.trans h.ended,by rw [e5,e4],fun j hj=>?_,by rw [e7]; simp,by rw [e4]; exact f1,by rw [e4]; exact f2,by rw [e4]; exact f3⟩
  rw [e7] at hj
  simp only [Bool.or_eq_true,decide_eq_true_eq] at hj
  rcases hj with hj | hj
  · omega
  · have:=h.few j hj; omega
theorem RolesAt.stay {b : Br} {i ow : Nat} (h : RolesAt b i ow) (hi : i < 14) (w : Bool) : RolesAt (bytesB (connectB b (i + 1 : Nat)) (i + 1 : Nat) (enc (roleM w))) (i + 1) (ownNext w ow (i + 1)):=by
  obtain ⟨e1,e2,e3,e4,e5,e6,e7,e8,e9,e10⟩:=h.come hi w
  exact ⟨e1.mono (by omega),⟨e2.ok,e2.cn,Nat.le_trans e2.tot (by omega),e2.len,e2.sp⟩,e3,e4,e5,e6,e8⟩
theorem RolesAt.cut {b : Br} {i ow : Nat} (h : RolesAt b i ow) (hi : i < 14) (w : Bool) (ho : ownNext w ow (i + 1) = i + 1) : RolesAt (cutB (bytesB (connectB b (i + 1 : Nat)) (i + 1 : Nat) (enc (roleM w))) (i + 1 : Nat)) (i + 1) 0:=by
  obtain ⟨e1,e2,e3,e4,e5,e6,e7,e8,e9,e10⟩:=h.come hi w
  obtain ⟨c,hc⟩:=Option.isSome_iff_exists.1 e7
  obtain ⟨g1,g2,g3,g4,g5,g6⟩:=e1.cut hc (by rw [e3]; show i * 130 + 107 + 23≤2048; omega)
  have e9:=e2.cut (i + 1 : Nat)
  rw [ho] at e8
  refine ⟨g2.mono (by omega),⟨e9.ok,e9.cn,Nat.le_trans e9.tot (by omega),e9.len,e9.sp⟩,g5.cf.trans e3,g5.ended.trans e4,by rw [g4,g3],fun j hj=>?_,by rw [g3]; exact e8.gone⟩
  rw [g6] at hj
  simp only [Bool.and_eq_true] at hj
  exact e6 j hj.2
end Go.Proofs.YtjmdddhbdofppaaGreatDoor.Bk
end

section
namespace Go.Proofs.YtjmdddhbdofppaaGreatDoor.Bk
open Fr Lx
theorem lone_cw {b : Br} {k : Nat} {c : Cn} {n : Nat} (h1 : 1≤k) (h2 : k≤16) (hc : c.st = 1∧c.fd = fd0∧c.lx = lx0∧c.p = b.L.length∧c.out.length≤n) : CW (lone b k c) n:=
  ⟨lone_in h1 h2,fun j d hd=>by obtain ⟨rfl,rfl⟩:=lone_one hd; exact hc⟩
theorem lone_in1 {b : Br} {k : Nat} {c : Cn} (hc : c.st≠1) : ∀ j,opn (lone b k c) j = false:=fun j=>by
  unfold opn
  by_cases e : j = k
  · subst e; rw [lone_cs]; simpa using hc
  · rw [lone_no b k c e]
theorem lone_shut1 {b : Br} {k : Nat} {c : Cn} (hst : c.st = 1) (hq : c.out.length + 11≤b.cf.queue) (why : Nat) : shut (lone b k c) k why = lone (setFl b (fleave b.fl k)) k { c with st:=2,out:=c.out ++ enc (closed why) }:=by
  unfold shut
  rw [send_fits (lone_cs b k c) (by omega) (by rw [closed_len]; exact hq),lone_setc]
  show leaveW (tellN 16) (lone b k (plus (closed why) c)) k = _
  unfold leaveW
  rw [lone_cs]
  show (if (plus (closed why) c).st = 1 then tellN 16 (left k) (setFl (setc (lone b k (plus (closed why) c)) k (some { plus (closed why) c with st:=2 })) (fleave b.fl k)) else _) = _
  refine (if_pos hst).trans ?_
  show tellN 16 (left k) (setFl (setc (lone b k (plus (closed why) c)) k (some { plus (closed why) c with st:=2 })) (fleave b.fl k)) = _
  rw [lone_setc]
  exact goes_none _ ids fun j _=>lone_in1 (b:=setFl b (fleave b.fl k)) (k:=k) (c:={ plus (closed why) c with st:=2 }) (by show ¬ (2 : Nat) = 1; decide) j
theorem lone_tick {b : Br} {k : Nat} {c : Cn} (h1 : 1≤k) (h2 : k≤16) (hst : c.st = 1) (hp : c.p = b.L.length) (hs : Stays b c) (hf : ftick b.fl = b.fl) (ht : fhold b.fl = b.told) : tickB (lone b k c) = lone b k (tk c):=by
  unfold tickB
  rw [show ({ lone b k c with fl:=ftick (lone b k c).fl } : Br) = lone b k c by show lone (setFl b (ftick b.fl)) k c = _; rw [hf]; rfl]
  rw [ticks_all (lone_in h1 h2) fun j d hd=>by obtain ⟨rfl,rfl⟩:=lone_one hd; exact hs]
  rw [lone_mapc]
  exact settle_rest (lone_rest ht hp (by show c.st≠2; omega))
theorem lone_late {b : Br} {k : Nat} {c : Cn} (h1 : 1≤k) (h2 : k≤16) (hst : c.st = 1) (hq : c.out.length + 11≤b.cf.queue) (hi : b.cf.idle≠0∧b.cf.idle≤c.idle + 1) (hf : ftick b.fl = b.fl) (ht : fhold (fleave b.fl k) = b.told) :
    tickB (lone b k c) = lone (setFl b (fleave b.fl k)) k { c with st:=2,idle:=c.idle + 1,out:=c.out ++ enc (closed 6) }:=by
  have hd : ∀ l : List Nat,l.Nodup→k∈l→l.foldl tickC (lone b k c) = shut (lone b k (tk c)) k 6:=by
    have hno : ∀ (l : List Nat) (x : Br),k ∉ l→(∀ j,j≠k→x.cs j = none)→l.foldl tickC x = x:=by
      intro l
      induction l with
      | nil=>exact fun _ _ _=>rfl
      | cons j l ih =>
        intro x hk hx
        have hj : j≠k:=fun e=>hk (by rw [e]; exact List.mem_cons_self)
        show l.foldl tickC (tickC x j) = x
        rw [tickC_none (hx j hj)]
        exact ih x (fun h=>hk (List.mem_cons_of_mem _ h)) hx
    intro l
    induction l with
    | nil=>intro _ h; cases h
    | cons j l ih =>
      intro hn hk
      obtain ⟨hj,hn⟩:=List.nodup_cons.1 hn
      show l.foldl tickC (tickC (lone b k c) j) = _
      by_cases e : j = k
      · subst e
        have e1 : tickC (lone b j c) j = shut (lone b j (tk c)) j 6:=by
          unfold tickC
          rw [lone_cs]
          show (if b.cf.idle≠0∧b.cf.idle≤c.idle + 1 then shut (setc (lone b j c) j (some (tk c))) j 6 else _) = _
          rw [if_pos hi,lone_setc]
        rw [e1,lone_shut1 (c:=tk c) hst hq]
        exact hno l _ hj fun i hi=>lone_no _ _ _ hi
      · rw [tickC_none (lone_no b k c e)]
        exact ih hn ((List.mem_cons.1 hk).resolve_left fun h=>e h.symm)
  unfold tickB
  rw [show ({ lone b k c with fl:=ftick (lone b k c).fl } : Br) = lone b k c by show lone (setFl b (ftick b.fl)) k c = _; rw [hf]; rfl]
  rw [hd ids ids_nodup (mem_ids.2 ⟨h1,h2⟩),lone_shut1 (c:=tk c) hst hq]
  refine settle_rest ⟨ht,fun j d hd h1=>?_,fun j d hd _=>?_⟩
  · obtain ⟨rfl,rfl⟩:=lone_one hd
    exact absurd h1 (by show ¬ (2 : Nat) = 1; decide)
  · obtain ⟨rfl,rfl⟩:=lone_one hd
    exact fun e=>enc_ne (closed 6) (List.append_eq_nil_iff.1 e).2
def pong : M:=⟨14,0,0,[]⟩
def ping : M:=⟨3,0,0,[]⟩
theorem ping_ok : ping.ok = true:=by decide
theorem lone_ping {b : Br} {k : Nat} {c : Cn} (h1 : 1≤k) (h2 : k≤16) (hst : c.st = 1) (hfd : c.fd = fd0) (hp : c.p = b.L.length) (hq : c.out.length + 5≤b.cf.queue) (ht : fhold b.fl = b.told) :
    bytesB (lone b k c) (k : Nat) (enc ping) = lone b k (plus pong { c with idle:=0 })∧bytesE (lone b k c) (k : Nat) = 0:=by
  obtain ⟨e1,e2⟩:=bytes_one (b:=lone b k c) (c:=c) (m:=ping) h1 h2 (lone_cs _ _ _) hfd (by omega) ping_ok
  refine ⟨?_,e2⟩
  rw [e1,lone_setc]
  have hk : takeB (lone b k { c with idle:=0 }) k (some ping) = lone b k (plus pong { c with idle:=0 }):=by
    unfold takeB
    rw [lone_cs]
    show (if decide (c.st = 0) = true then _ else if (3 : Int) = 2 then _ else if (3 : Int) = 3 then send pong (lone b k { c with idle:=0 }) k else _) = _
    rw [if_neg (by simp; omega),if_neg (by decide),if_pos rfl]
    rw [send_fits (lone_cs _ _ _) (by show c.st≠2; omega) (by show c.out.length + (enc pong).length≤b.cf.queue; rw [show (enc pong).length = 5 by rw [enc_len5]; rfl]; exact hq),lone_setc]
  have hr : Rest (lone b k (plus pong { c with idle:=0 })):=lone_rest ht hp (by show c.st≠2; omega)
  rw [hk,holder_same hr.told,settle_rest hr]
theorem lone_output {b : Br} {k : Nat} {c : Cn} {t : Bs} (h1 : 1≤k) (h2 : k≤16) (hst : c.st = 1) (hp : c.p = b.L.length) (he : b.ended = false) (ht : fhold b.fl = b.told) (hl : (b.L ++ t).length≤b.cf.log) (hd : t.length≤b.cf.data) (h20 : t.length≤2042) (hq : c.out.length + t.length + 211≤b.cf.queue) :
    outputB (lone b k c) t = lone { b with L:=b.L ++ t,sp:=Sp.nxts b.sp t } k (sv (b.L ++ t) c):=by
  unfold outputB
  refine (if_neg (show ¬ b.ended = true by rw [he]; decide)).trans ?_
  show settle (lone { b with L:=b.L ++ t,sp:=Sp.nxts b.sp t } k c) = _
  rw [settle_sv (b:=lone { b with L:=b.L ++ t,sp:=Sp.nxts b.sp t } k c) (lone_in h1 h2) ht fun j d hd=>?_,lone_mapc]
  · rfl
  · obtain ⟨rfl,rfl⟩:=lone_one hd
    rw [List.length_append] at hl
    refine ⟨hst,?_,?_,?_,?_,?_⟩
    · show d.p≤(b.L ++ t).length; rw [List.length_append]; omega
    · show (b.L ++ t).length - b.cf.log≤d.p; rw [List.length_append]; omega
    · show (b.L ++ t).length - d.p≤b.cf.data; rw [List.length_append]; omega
    · show (b.L ++ t).length - d.p≤2042; rw [List.length_append]; omega
    · show d.out.length + ((b.L ++ t).length - d.p) + 211≤b.cf.queue; rw [List.length_append]; omega
theorem lone_again {b : Br} {k : Nat} {c : Cn} {seq : Int} {s : Bs} {back : Int} (h1 : 1≤k) (h2 : k≤16) (h0 : 0≤seq) (hs1 : seq≤1099511627776) (hst : c.st = 1) (hfd : c.fd = fd0) (hlx : c.lx = lx0) (hs : ∀ x∈s,x≠10#8) (hn : s.length≤80) (hpa : parse s = some (10,back)) (ht : fhold b.fl = b.told)
    (hl : b.L.length≤b.cf.log) (hd : b.L.length≤b.cf.data) (h20 : b.L.length≤2042) (hq : c.out.length + b.L.length + 211≤b.cf.queue) :
    bytesB (lone b k c) (k : Nat) (enc (keys seq (esc s))) = lone b k (sv b.L { c with idle:=0,p:=startOf b.L.length b.cf.log back })∧bytesE (lone b k c) (k : Nat) = 0:=by
  have hok:=keys_ok (seq:=seq) (t:=esc s) h0 hs1 (by unfold esc; simp; omega)
  obtain ⟨e1,e2⟩:=bytes_one (b:=lone b k c) (c:=c) h1 h2 (lone_cs _ _ _) hfd (by omega) hok
  refine ⟨?_,e2⟩
  rw [e1,lone_setc,keys_cmd (c:={ c with idle:=0 }) (lone_cs _ _ _) hst hlx hs hn]
  have hc : cmd1 (lone b k { c with idle:=0 }) k s = lone b k { c with idle:=0,p:=startOf b.L.length b.cf.log back }:=by
    unfold cmd1
    rw [hpa]
    have : doB (lone b k { c with idle:=0 }) k (some (10,back)) = (lone b k { c with idle:=0,p:=startOf b.L.length b.cf.log back },true):=by
      unfold doB
      show (if isOwners 10 = true∧_ then _ else if (10 : Int) = 1 then _ else if (10 : Int) = 2 then _ else if (10 : Int) = 3 then _ else if (10 : Int) = 4 then _ else if (10 : Int) = 5 then _ else if (10 : Int) = 10 then _ else _) = _
      rw [if_neg (by rw [show isOwners 10 = false by decide]; simp),if_neg (by decide),if_neg (by decide),if_neg (by decide),if_neg (by decide),if_neg (by decide),if_pos rfl]
      rw [lone_cs]
      show (setc (lone b k { c with idle:=0 }) k (some _),true) = _
      rw [lone_setc]
      rfl
    rw [this]
    exact holder_same ht
  rw [hc,holder_same (by exact ht)]
  rw [settle_sv (lone_in h1 h2) ht fun j d hd=>?_,lone_mapc]
  · rfl
  · obtain ⟨rfl,rfl⟩:=lone_one hd
    have:=startOf_le b.L.length b.cf.log back
    refine ⟨hst,this,?_,?_,?_,?_⟩
    · show b.L.length - b.cf.log≤_; omega
    · show b.L.length - _≤b.cf.data; omega
    · show b.L.length - _≤2042; omega
    · show c.out.length + (b.L.length - _) + 211≤b.cf.queue; omega
end Go.Proofs.YtjmdddhbdofppaaGreatDoor.Bk
end

section
namespace Go.Proofs.YtjmdddhbdofppaaGreatDoor.Bk
open Fr Lx
theorem tx_no10 (k n : Int) : ∀ x∈Orm.tx k n,x≠10#8:=by
  have hw : ∀ j : Nat,∀ x∈Orm.wd j,x≠10#8:=by intro j; unfold Orm.wd; split <;> decide
  intro x hx
  unfold Orm.tx at hx
  split at hx
  · exact hw _ x hx
  · rcases List.mem_append.1 hx with h | h
    · rcases List.mem_append.1 h with h | h
      · exact hw _ x h
      · rw [List.mem_singleton.1 h]; decide
    · have:=Dgs.dgs_are _ x h
      intro e
      subst e
      exact absurd this (by unfold Dgs.IsD; decide)
theorem bytesB_ev {b : Br} {T : Nat} (h : EvOk b 0 T 0) (id : Int) (m : M) : EvOk (bytesB b id (enc m)) 0 (T + 2052 + (enc m).length) 0:=h.bytes id (enc m)
def secondM (watch : Bool) : M:=⟨1,if watch then 4 else 5,0,[98#8]⟩
theorem second_ok (w : Bool) : (secondM w).ok = true:=by cases w <;> decide
noncomputable def dn1 : Br:=bytesB (connectB (bnew cfd) 1) 1 (enc (helloM [97#8]))
noncomputable def dn2 (w : Bool) : Br:=bytesB (connectB dn1 2) 2 (enc (secondM w))
noncomputable def dn3 (w : Bool) : Br:=bytesB (dn2 w) 1 (enc (keys 1 (esc wFloor)))
noncomputable def dn4 (w : Bool) : Br:=writeB (dn3 w) 1 5000
noncomputable def dn5 (w : Bool) : Br:=writeB (dn4 w) 2 5000
noncomputable def dn6 (w : Bool) (s : Bs) : Br:=bytesB (dn5 w) 2 (enc (keys 7 (esc s)))
noncomputable def dn7 (w : Bool) (s : Bs) : Br:=writeB (dn6 w s) 2 5000
noncomputable def dn8 (w : Bool) (s : Bs) : Br:=writeB (dn7 w s) 1 5000
theorem fask_floor {k : Nat} {s : Fl} (ha : askE s k = 0) (b' : Br) (hb : b'.fl = s) : doB b' k (parse wFloor) = (setFl b' (fask s k),true):=by
  rw [parse_floor]
  unfold doB
  show (if isOwners 1 = true∧_ then _ else if (1 : Int) = 1 then ({ b' with fl:=fask b'.fl k },decide (askE b'.fl k = 0)) else _) = _
  rw [if_neg (by rw [show isOwners 1 = false by decide]; simp),if_pos rfl,hb,ha]
  rfl
def flD (w : Bool) : Fl:=⟨100,100,[(1,2),(2,if w then 0 else 1)],[1]⟩
theorem dn_first : CW dn1 107∧dn1.fl = ⟨100,0,[(1,2)],[]⟩∧dn1.told = 0∧Sm dn1 (bnew cfd)∧(∀ j,(dn1.cs j).isSome = (decide (j = 1) || false))∧connectE (bnew cfd) 1 = 0∧bytesE (connectB (bnew cfd) 1) 1 = 0:=by
  have h0:=roles_begin
  obtain ⟨e1,e2,e3,e4,e5,e6,e7⟩:=h0.cw.come (k:=1) (m:=helloM [97#8]) (by decide) (by decide) rfl (hello_ok (by decide)) rfl (by decide) (by decide) (Nat.le_zero.1 (viewAt_le _ _ _ _)) (by decide)
  exact ⟨e3,e4,e5,e6,fun j=>(e7 j).trans rfl,e1,e2⟩
theorem dn_second (w : Bool) : CW (dn2 w) 214∧(dn2 w).fl = ⟨100,0,[(1,2),(2,if w then 0 else 1)],[]⟩∧(dn2 w).told = 0∧Sm (dn2 w) (bnew cfd)∧(∀ j,((dn2 w).cs j).isSome = (decide (j = 2) || (decide (j = 1) || false)))∧connectE dn1 2 = 0∧bytesE (connectB dn1 2) 2 = 0:=by
  obtain ⟨a1,a2,a3,a4,a5,_,_⟩:=dn_first
  have hL : dn1.L = []:=a4.L
  obtain ⟨e1,e2,e3,e4,e5,e6,e7⟩:=a1.come (k:=2) (m:=secondM w) (by decide) (by decide) (by
    rcases e : dn1.cs 2 with _ | c
    · rfl
    · have:=a5 2; rw [e] at this; cases this) (second_ok w) rfl (by cases w <;> decide) (show isName [98#8] = true by decide) (by
      have : comeAt dn1 (secondM w)≤dn1.L.length:=viewAt_le _ _ _ _
      rw [hL] at this ⊢
      exact Nat.le_zero.1 this) (by rw [a4.cf]; decide)
  have hf : fjoin dn1.fl ((2 : Nat) : Int) (comeRole dn1 (secondM w)) = ⟨100,0,[(1,2),(2,if w then 0 else 1)],[]⟩:=by
    unfold comeRole
    rw [a2]
    cases w <;> rfl
  rw [hf] at e4 e5
  exact ⟨e3,e4,e5,e6.trans a4,fun j=>(e7 j).trans (by rw [a5 j]),e1,e2⟩
theorem dn_third (w : Bool) : CW (dn3 w) 236∧(dn3 w).fl = flD w∧(dn3 w).told = 1∧Sm (dn3 w) (bnew cfd)∧(∀ j,((dn3 w).cs j).isSome = (decide (j = 2) || (decide (j = 1) || false)))∧bytesE (dn2 w) 1 = 0:=by
  obtain ⟨a1,a2,a3,a4,a5,_,_⟩:=dn_second w
  obtain ⟨c,hc⟩:=Option.isSome_iff_exists.1 (show ((dn2 w).cs 1).isSome = true by rw [a5]; rfl)
  have ha : askE (dn2 w).fl ((1 : Nat) : Int) = 0:=by rw [a2]; cases w <;> decide
  obtain ⟨e1,e2,e3,e4,e5,e6⟩:=a1.cmd hc (seq:=1) (s:=wFloor) (by decide) (by decide) (by decide) (by decide) (fun b' hb=>fask_floor ha b' hb) (by rw [a4.cf]; decide)
  have hf : fask (dn2 w).fl ((1 : Nat) : Int) = flD w:=by rw [a2]; cases w <;> rfl
  rw [hf] at e3 e4
  exact ⟨e2,e3,e4.trans rfl,e5.trans a4,fun j=>(e6 j).trans (a5 j),e1⟩
theorem doB_denied {b' : Br} {k : Nat} {kind n : Int} (ho : isOwners kind = true) (hr : rrole b'.fl.roles k≠2) : doB b' k (some (kind,n)) = (b',false):=by
  unfold doB
  show (if isOwners kind = true∧rrole b'.fl.roles k≠2 then (b',false) else _) = _
  rw [if_pos ⟨ho,hr⟩]
theorem denied_is (w : Bool) {kind n : Int} (hr : Orm.Rt kind n) (ho : isOwners kind = true) :
    bytesE (dn5 w) 2 = 0∧writeT (dn6 w (Orm.tx kind n)) 2 5000 = enc (deniedM (Orm.tx kind n))∧writeE (dn6 w (Orm.tx kind n)) 2 = 0∧writeT (dn7 w (Orm.tx kind n)) 1 5000 = []∧(dn8 w (Orm.tx kind n)).fl = flD w:=by
  obtain ⟨a1,a2,a3,a4,a5,_⟩:=dn_third w
  obtain ⟨s,hs⟩ : ∃ s,Orm.tx kind n = s:=⟨_,rfl⟩
  have hs20 : s.length≤20:=by rw [← hs]; exact Orm.tx_len hr
  have hs10 : ∀ x∈s,x≠10#8:=by rw [← hs]; exact tx_no10 kind n
  have hpa : parse s = some (kind,n):=parse_is hr hs
  rw [hs]
  obtain ⟨c1,hc1⟩:=Option.isSome_iff_exists.1 (show ((dn3 w).cs 1).isSome = true by rw [a5]; rfl)
  have t3 : fhold (dn3 w).fl = (dn3 w).told:=by rw [a2,a3]; rfl
  obtain ⟨f1,f2,f3,f4⟩:=a1.flush t3 hc1 (w:=5000) (by have:=(a1.cn 1 c1 hc1).2.2.2.2; omega)
  have d4 : dn4 w = setc (dn3 w) 1 (some { c1 with out:=[] }):=f3
  rw [← d4] at f4
  have e4 : (dn4 w).fl = flD w:=by rw [d4]; exact a2
  have t4 : fhold (dn4 w).fl = (dn4 w).told:=by rw [d4]; exact t3
  have hc4 : (dn4 w).cs 1 = some { c1 with out:=[] }:=by rw [d4,setc_cs]
  obtain ⟨c2,hc2⟩:=Option.isSome_iff_exists.1 (show ((dn4 w).cs 2).isSome = true by rw [d4,setc_ne _ 1 _ (by decide),a5]; rfl)
  obtain ⟨g1,g2,g3,g4⟩:=f4.flush t4 hc2 (w:=5000) (by have:=(f4.cn 2 c2 hc2).2.2.2.2; omega)
  have d5 : dn5 w = setc (dn4 w) 2 (some { c2 with out:=[] }):=g3
  rw [← d5] at g4
  have e5 : (dn5 w).fl = flD w:=by rw [d5]; exact e4
  have t5 : fhold (dn5 w).fl = (dn5 w).told:=by rw [d5]; exact t4
  have hc5 : (dn5 w).cs 2 = some { c2 with out:=[] }:=by rw [d5,setc_cs]
  have hq5 : (dn5 w).cf = cfd:=by rw [d5]; show (dn4 w).cf = cfd; rw [d4]; exact a4.cf
  have hel : (enc (deniedM s)).length≤25:=by rw [enc_len5]; show 6 * 0 + s.length + 5≤25; omega
  obtain ⟨i1,i2,i3⟩:=g4.denied t5 hc5 (seq:=7) (s:=s) (by decide) (by decide) hs10 (by omega) (fun b' hb=>by
    rw [hpa]
    exact doB_denied ho (by rw [hb,e5]; cases w <;> decide)) (by rw [hq5]; show 236 + _≤2048; omega)
  have d6 : dn6 w s = setc (dn5 w) 2 (some (plus (deniedM s) { c2 with out:=[],idle:=0 })):=i1
  rw [← show dn6 w s = _ from i1] at i3
  have t6 : fhold (dn6 w s).fl = (dn6 w s).told:=by rw [d6]; exact t5
  have hc6 : (dn6 w s).cs 2 = some (plus (deniedM s) { c2 with out:=[],idle:=0 }):=by rw [d6,setc_cs]
  obtain ⟨j1,j2,j3,j4⟩:=i3.flush t6 hc6 (w:=5000) (by
    have h9 : (plus (deniedM s) { c2 with out:=[],idle:=0 }).out.length≤25:=by
      show ([] ++ enc (deniedM s)).length≤25
      rw [List.nil_append]
      exact hel
    omega)
  have d7 : dn7 w s = setc (dn6 w s) 2 (some { plus (deniedM s) { c2 with out:=[],idle:=0 } with out:=[] }):=j3
  rw [← show dn7 w s = _ from j3] at j4
  have t7 : fhold (dn7 w s).fl = (dn7 w s).told:=by rw [d7]; exact t6
  have hc7 : (dn7 w s).cs 1 = some { c1 with out:=[] }:=by rw [d7,setc_ne _ 2 _ (by decide),d6,setc_ne _ 2 _ (by decide),d5,setc_ne _ 2 _ (by decide),hc4]
  obtain ⟨k1,k2,k3,k4⟩:=j4.flush t7 hc7 (w:=5000) (by show (0 : Int)≤5000; decide)
  refine ⟨i2,?_,j2,k1,?_⟩
  · exact j1.trans (List.nil_append _)
  · have : (dn8 w s).fl = (dn7 w s).fl:=by
      have h : dn8 w s = setc (dn7 w s) 1 _:=k3
      rw [h]
      rfl
    rw [this,d7]
    show (dn6 w s).fl = _
    rw [d6]
    exact e5
theorem dn1_ev : EvOk dn1 0 2076 0:=cfd_ok.connect 1 |>.bytes 1 (enc (helloM [97#8])) |> fun h=>⟨h.ok,h.cn,Nat.le_trans h.tot (by rw [enc_len5]; decide),h.len,h.sp⟩
theorem dn2_ev (w : Bool) : EvOk (dn2 w) 0 4200 0:=(dn1_ev.connect 2).bytes 2 (enc (secondM w)) |> fun h=>⟨h.ok,h.cn,Nat.le_trans h.tot (by rw [enc_len5]; cases w <;> decide),h.len,h.sp⟩
theorem dn3_ev (w : Bool) : EvOk (dn3 w) 0 6300 0:=(dn2_ev w).bytes 1 (enc (keys 1 (esc wFloor))) |> fun h=>⟨h.ok,h.cn,Nat.le_trans h.tot (by rw [enc_len5]; decide),h.len,h.sp⟩
theorem dn5_ev (w : Bool) : EvOk (dn5 w) 0 6300 0:=((dn3_ev w).write 1 5000).write 2 5000
theorem dn6_ev (w : Bool) {kind n : Int} (hr : Orm.Rt kind n) : EvOk (dn6 w (Orm.tx kind n)) 0 8400 0:=(dn5_ev w).bytes 2 (enc (keys 7 (esc (Orm.tx kind n)))) |> fun h=>⟨h.ok,h.cn,Nat.le_trans h.tot (by
  have:=Orm.tx_len hr
  rw [enc_len5]
  show 6300 + 2052 + (6 * 1 + (esc (Orm.tx kind n)).length + 5)≤8400
  unfold esc
  simp
  omega),h.len,h.sp⟩
end Go.Proofs.YtjmdddhbdofppaaGreatDoor.Bk
end
