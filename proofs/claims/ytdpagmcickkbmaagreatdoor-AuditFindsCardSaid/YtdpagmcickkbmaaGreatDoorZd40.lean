/- PFoi -/
import Derived.WalkSpells
import Derived.Test.YtdpagmcickkbmaaGreatDoorZd39
namespace Go.Proofs.YtdpagmcickkbmaaGreatDoor
set_option maxRecDepth 100000
open Go.Lib renaming hid → lj
section
open Go.RowKit
def TabIs (z:Zo) (F:Nat→Prop) (g:Nat) (w:World) (s:Fl):Prop:=Ta.Is z F g w (ofFl s)
def TGives (z:Zo) (F:Nat→Prop) (g:Nat) (w:World) (s2:Fl) (v:Value) (e:Ending) (w':World):Prop:=
 ∃ F2,e = .returned v∧TabIs z F2 g w' s2∧(∀ b,F2 b→F b∨w.heap.size≤b)∧Only F w w'
def LGives (z:Zo) (F:Nat→Prop) (g:Nat) (w:World) (s:Fl) (l:List Int) (e:Ending) (w':World):Prop:=
 ∃ F2 a n c,e = .returned (.slice a n c)∧TabIs z F2 g w' s∧(∀ b,F2 b→F b∨w.heap.size≤b)∧Only F w w' ∧
  Vals w' w'.heap.size a n (ints l)∧n≤c∧∀ b,0<n→In a b→w.heap.size≤b∧¬ F2 b
theorem TGives.mk {z:Zo} {F:Nat→Prop} {g:Nat} {w w':World} {s2:Fl} {v:Value} {e:Ending} {t:Ta} (h:TaGives z F g w t v e w') (ht:t=ofFl s2):TGives z F g w s2 v e w':=by
 subst ht; exact h
theorem TGives.ret {z:Zo} {F:Nat→Prop} {g:Nat} {w w':World} {s2:Fl} {v v2:Value} {e:Ending} {t:Ta} (h:TaGives z F g w t v e w') (ht:t=ofFl s2):TGives z F g w s2 v2 (.returned v2) w':=by
 subst ht;obtain ⟨F2,_,h⟩:=h;exact ⟨F2,rfl,h⟩
section
variable {z:Zo} {F:Nat→Prop} {g N:Nat} {w w':World} {s:Fl}
theorem TabIs.keep {S:Nat→Prop} (h:TabIs z F g w s) (hO:Only S w w') (hS:∀ b,F b→¬ S b):TabIs z F g w' s:=Ta.Is.keep h hO hS
theorem taat_len {om:Option Nat} {a:Option Addr} {n c:Nat} (h:TaAt z F g om a n c w (ofFl s)) (hk:FOk N s) (hN:N≤100000):n≤1000000:=by
 have h1:s.line.tail.length=n:=h.len;have h2:=hk.ln;rw [List.length_tail] at h1;omega
theorem new_ta (lease:Int) (w:World) (L:Int) (hL:((fnew lease).lease:Int) - 1=L) :
  TabIs z0 (fun b=>b=w.heap.size) w.heap.size (w.alloc (.cells #[.map none,.int .i64 0,.int .i64 0,.slice none 0 0,.int .i64 L] 71)) (fnew lease):=by
 subst hL;have hk:=fok_new lease;refine ⟨none,none,0,0,Bo.new _ _ rfl _ _,.inl ⟨rfl,rfl⟩,Rw.nil 0 _,by simp,?_,?_,rfl,?_,?_,?_,hk.l1,hk.l2⟩
 ·rintro ⟨p,hp,_⟩; cases hp
 ·intro bm e; cases e
 ·intro bm e; cases e
 ·rintro b ⟨p,hp,_⟩; cases hp
 ·rintro b rfl; simp
theorem tnew_any (lease:Int) (w:World):Calls Tryz.prog 23 #[.int .i64 lease] w fun e w' =>
  ∃ F g,e = .returned (.pointer (some ⟨g,0,none⟩))∧TabIs z0 F g w' (fnew lease)∧(∀ b,F b→w.heap.size≤b)∧Below w.heap.size w w':=by
 have HX:=lj (show ((fnew lease).lease:Int)=min (max lease 1) 1000 from by show ((min (max lease 1) 1000).toNat:Int)=_; omega);have HB:=lj (show ∀ o1,Below w.heap.size w (w.alloc o1) from fun o1=>(Below.refl _ _).alloc (Nat.le_refl _) _);have HN:=lj (new_ta lease w)
 go_enter Tryz.func23,Tryz.ntmps23
 go_wp2;go_ret;exact ⟨fun b=>b=w.heap.size,w.heap.size,rfl,HN.out (min (max lease 1) 1000 - 1) (by rw [HX.out]),fun b hb=>by subst hb; exact Nat.le_refl _,HB.out _⟩
theorem tlose_roles (t:Ta) (rs:List (Int×Int)) (id:Int):tlose { t with roles:=rs } id={ tlose t id with roles:=rs }:=by
 unfold tlose
 show (if t.hold=id then tpass (tstop { t with roles:=rs } id) else tstop { t with roles:=rs } id)=_
 split
 ·unfold tpass tstop tgrant
  show (match without t.waits id with | []=>_ | x :: _=>_)=_
  rcases without t.waits id with _ | ⟨x,r⟩ <;> rfl
 ·rfl
theorem fout_frole (s:Fl) (id r:Int):fout (frole s id r) id={ fout s id with roles:=rput s.roles id r }:=by
 unfold fout frole outAt
 split <;> rfl
theorem joins_yes {id r:Int} (hb:rhas s.roles id=false) (h1:¬ id<1) (h2:isRole r=true):joins s id r=true:=by
 unfold joins; rw [hb,h2]; simp; omega
theorem tjoin_any (h:TabIs z F g w s) (hk:FOk N s) (hN:N≤100000) (id r:Int) (hid:wf64 id) (hr:wf64 r) :
    Calls Tryz.prog 121 #[.pointer (some ⟨g,z.o,none⟩),.int .i64 id,.int .i64 r] w fun e w'=>TGives z F g w (fjoin s id r) (.bool (joins s id r)) e w':=by
  have hq:=fun r0=>run_eql_map_nil (P:=Tryz.prog) w 68 3 164 r0 Tryz.underlying68
  obtain ⟨om,a,n,c,h⟩:=h
  have hT:Calls Tryz.prog 95 #[.pointer (some ⟨g,z.o,none⟩),.int .i64 id] w fun e w'=>e = .returned (.bool (rhas s.roles id))∧w'=w:=there_any h id hid
  have hR:=right_any r w
  have hNo:=lj (show joins s id r=false→TGives z F g w (fjoin s id r) (.bool false) (.returned (.bool false)) w from fun e=>by
    unfold fjoin;rw [e,if_neg (by simp)]
    exact ⟨F,rfl,⟨om,a,n,c,h⟩,fun _ h=>.inl h,Only.refl _ _⟩)
  have HYes:=lj (show joins s id r=true→∀ w0 w2 F2 bm,Rm bm w2 (rput s.roles id r)→Only (fun k=>k=bm) w0 w2→TaAt z F2 g (some bm) a n c w0 (ofFl s)→(∀ b,F2 b→F b∨w.heap.size≤b)→Only F w w0→TGives z F g w (fjoin s id r) (.bool true) (.returned (.bool true)) w2 from fun e w0 w2 F2 bm h2 h3 h4 h5 h6=>by
    obtain ⟨z1,z2⟩:=h4.reroles h2 h3;unfold fjoin;rw [e,if_pos rfl]
    exact ⟨F2,rfl,⟨some bm,a,n,c,z1⟩,h5,h6.trans' z2 h5⟩)
  have hrl:s.roles.length≤1000000:=by have:=hk.rn; omega
  rcases hb:rhas s.roles id with _ | _
  all_goals rw [hb] at hT
  · by_cases h1:id<1
    · have hj:joins s id r=false:=by unfold joins; simp; omega
      have HZ:=lj (hNo.out hj);rw [hj];clear hj hNo HYes hb h hR hrl
      go_enter Tryz.func121,Tryz.ntmps121
      go_wp2_with fail
      refine hT.mono ?_;rintro e w2 ⟨rfl,rfl⟩;go_wp2;go_ret;exact HZ.out
    · rcases h2:isRole r with _ | _
      all_goals rw [h2] at hR
      · have hj:joins s id r=false:=by unfold joins; rw [h2]; simp
        have HZ:=lj (hNo.out hj);rw [hj];clear hj hNo HYes hb h h2 hrl
        go_enter Tryz.func121,Tryz.ntmps121
        go_wp2_with fail
        refine hT.mono ?_;rintro e w2 ⟨rfl,rfl⟩
        go_wp2_with fail
        refine hR.mono ?_;rintro e w2 ⟨rfl,rfl⟩;go_wp2;go_ret;exact HZ.out
      · have hj:=joins_yes hb h1 h2
        rw [hj];have HY:=lj (HYes.out hj);clear hNo HYes hb h2 hj
        rcases h.mo with ⟨rfl,hr0⟩ | ⟨bm,rfl,hrm⟩
        · have hmm:=@run_makeMap Tryz.prog
          obtain ⟨y1,y2⟩:=h.mapped;have hc0:=h.bx.cell0 (.map none) rfl;have hf0:=h.bx.free0
          have hrm:Rm w.heap.size ((w.alloc (.map #[] 0)).setCell ⟨g,z.o,none⟩ (.map (some w.heap.size))) s.roles:=by
            rcases y1.mo with ⟨e,_⟩ | ⟨bm,e,hrm⟩
            · cases e
            · injection e with e; subst e; exact hrm
          obtain ⟨w3,hst,hR3,hO3⟩:=hrm.store hid hr hrl;have HZ:=lj (HY.out _ _ _ _ hR3 hO3 y1 (fun b hb=>hb.imp (fun h=>h) (fun h=>by omega)) y2);have hgw:g<w.heap.size:=h.lt _ h.m1;rw [World.setCell_alloc_past _ _ _ _ hgw] at hst;clear HY hR3 hO3 hrm y1 y2 h hr0
          go_enter Tryz.func121,Tryz.ntmps121
          go_wp2_with fail
          refine hT.mono ?_;rintro e w2 ⟨rfl,rfl⟩
          go_wp2_with fail
          refine hR.mono ?_;rintro e w2 ⟨rfl,rfl⟩;go_wp2;go_ret;exact HZ.out
        · have hc0:=h.bx.cell0 (.map (some bm)) rfl
          obtain ⟨w3,hst,hR3,hO3⟩:=Rm.store hrm hid hr hrl;have HZ:=lj (HY.out _ _ _ _ hR3 hO3 h (fun b hb=>.inl hb) (Only.refl _ _));clear HY hR3 hO3 hrm h
          go_enter Tryz.func121,Tryz.ntmps121
          go_wp2_with fail
          refine hT.mono ?_;rintro e w2 ⟨rfl,rfl⟩
          go_wp2_with fail
          refine hR.mono ?_;rintro e w2 ⟨rfl,rfl⟩;go_wp2;go_ret;exact HZ.out
  · have hj:joins s id r=false:=by unfold joins; rw [hb]; simp
    have HZ:=lj (hNo.out hj);rw [hj];clear hj hNo HYes hb h hR hrl
    go_enter Tryz.func121,Tryz.ntmps121
    go_wp2_with fail
    refine hT.mono ?_;rintro e w2 ⟨rfl,rfl⟩;go_wp2;go_ret;exact HZ.out
theorem tlose_keeps (t:Ta) (id:Int):(tlose t id).roles=t.roles∧(tlose t id).lease=t.lease:=by
 unfold tlose tpass tstop tgrant
 split
 ·dsimp only
  split <;> exact ⟨rfl,rfl⟩
 ·exact ⟨rfl,rfl⟩
theorem tleave_any (h:TabIs z F g w s) (hk:FOk N s) (hN:N≤100000) (id:Int) (hid:wf64 id) :
  Calls Tryz.prog 78 #[.pointer (some ⟨g,z.o,none⟩),.int .i64 id] w fun e w'=>TGives z F g w (fleave s id) (.bool (rhas s.roles id)) e w':=by
 obtain ⟨om,a,n,c,h⟩:=h
 have hT:Calls Tryz.prog 95 #[.pointer (some ⟨g,z.o,none⟩),.int .i64 id] w fun e w'=>e = .returned (.bool (rhas s.roles id))∧w'=w:=there_any h id hid
 have hn:=taat_len h hk hN
 rcases hb:rhas s.roles id with _ | _
 all_goals rw [hb] at hT
 ·have HZ:=lj (show TGives z F g w (fleave s id) (.bool false) (.returned (.bool false)) w from by
   unfold fleave;rw [hb,if_neg (by simp)]
   exact ⟨F,rfl,⟨om,a,n,c,h⟩,fun _ h=>.inl h,Only.refl _ _⟩)
  clear hb h
  go_enter Tryz.func78,Tryz.ntmps78
  go_wp2_with fail
  refine hT.mono ?_;rintro e w2 ⟨rfl,rfl⟩;go_wp2;go_ret;exact HZ.out
 ·have hL:=lose_any h hn id
  have HK:=lj (show ∀ (w2 w4:World) (F2:Nat→Prop) (bm:Nat) (a2:Option Addr) (n2 c2:Nat),TaAt z F2 g (some bm) a2 n2 c2 w2 (tlose (ofFl s) id)→(∀ b,F2 b→F b∨w.heap.size≤b)→Only F w w2→Rm bm w4 (rdel s.roles id)→Only (fun k=>k=bm) w2 w4→TGives z F g w (fleave s id) (.bool true) (.returned (.bool true)) w4 from fun w2 w4 F2 bm a2 n2 c2 h2 hF2 hO2 hR hO4=>by
   obtain ⟨z1,z2⟩:=h2.reroles hR hO4;unfold fleave;rw [hb,if_pos rfl];refine ⟨F2,rfl,⟨some bm,a2,n2,c2,?_⟩,hF2,hO2.trans' z2 hF2⟩;rw [← tout_eq hk id] at z1
   exact z1)
  have HB:=lj hb;have HE:=lj (tlose_keeps (ofFl s) id);clear hb h
  go_enter Tryz.func78,Tryz.ntmps78
  go_wp2_with fail
  refine hT.mono ?_;rintro e w2 ⟨rfl,rfl⟩
  go_wp2_with fail
  refine hL.mono ?_;rintro e w2 ⟨F2,rfl,⟨om2,a2,n2,c2,h2⟩,hF2,hO2⟩
  obtain ⟨bm,rfl,hrm⟩:∃ bm,om2=some bm∧Rm bm w2 s.roles:=by
   rcases h2.mo with ⟨_,hr⟩ | ⟨bm,e,hr⟩
   ·rw [HE.out.1] at hr
    have hr':s.roles=[]:=hr;have hb:=HB.out;rw [hr'] at hb;cases hb
   ·rw [HE.out.1] at hr
    exact ⟨bm,e,hr⟩
  have hc0:=h2.bx.cell0 (.map (some bm)) rfl;obtain ⟨w4,hst,hR4,hO4⟩:=hrm.drop hid;have HZ:=lj (HK.out w2 w4 F2 bm a2 n2 c2 h2 hF2 hO2 hR4 hO4);clear h2 hF2 hO2 hR4 hO4 hrm hL;go_wp2;go_ret;exact HZ.out
theorem tset_any (h:TabIs z F g w s) (hk:FOk N s) (hN:N≤100000) (id r:Int) (hid:wf64 id) (hr:wf64 r) :
  Calls Tryz.prog 159 #[.pointer (some ⟨g,z.o,none⟩),.int .i64 id,.int .i64 r] w fun e w'=>TGives z F g w (fset s id r) (.bool (sets s id r)) e w':=by
 obtain ⟨om,a,n,c,h⟩:=h
 have hT:Calls Tryz.prog 95 #[.pointer (some ⟨g,z.o,none⟩),.int .i64 id] w fun e w'=>e = .returned (.bool (rhas s.roles id))∧w'=w:=there_any h id hid
 have hR:=right_any r w;have hn:=taat_len h hk hN
 have hNo:=lj (show sets s id r=false→TGives z F g w (fset s id r) (.bool false) (.returned (.bool false)) w from fun e=>by
  unfold fset;rw [e,if_neg (by simp)]
  exact ⟨F,rfl,⟨om,a,n,c,h⟩,fun _ h=>.inl h,Only.refl _ _⟩)
 rcases hb:rhas s.roles id with _ | _
 all_goals rw [hb] at hT
 ·have hj:sets s id r=false:=by unfold sets; rw [hb]; simp
  have HZ:=lj (hNo.out hj);rw [hj];clear hb h hNo hj hR
  go_enter Tryz.func159,Tryz.ntmps159
  go_wp2_with fail
  refine hT.mono ?_;rintro e w2 ⟨rfl,rfl⟩;go_wp2;go_ret;exact HZ.out
 ·rcases h2:isRole r with _ | _
  all_goals rw [h2] at hR
  ·have hj:sets s id r=false:=by unfold sets; rw [h2]; simp
   have HZ:=lj (hNo.out hj);rw [hj];clear hb h hNo hj h2
   go_enter Tryz.func159,Tryz.ntmps159
   go_wp2_with fail
   refine hT.mono ?_;rintro e w2 ⟨rfl,rfl⟩
   go_wp2_with fail
   refine hR.mono ?_;rintro e w2 ⟨rfl,rfl⟩;go_wp2;go_ret;exact HZ.out
  ·have hj:sets s id r=true:=by unfold sets; rw [hb,h2]; rfl
   rw [hj]
   obtain ⟨bm,rfl,hrm⟩:∃ bm,om=some bm∧Rm bm w s.roles:=by
    rcases h.mo with ⟨_,hr0⟩ | ⟨bm,e,hr0⟩
    ·have hr':s.roles=[]:=hr0
     rw [hr'] at hb;cases hb
    ·exact ⟨bm,e,hr0⟩
   have hc0:=h.bx.cell0 (.map (some bm)) rfl;obtain ⟨w4,hst,hR4,hO4⟩:=hrm.store hid hr (by have:=hk.rn; omega);obtain ⟨z1,z2⟩:=h.reroles hR4 hO4
   by_cases h0:r=0
   ·have hL:=lose_any z1 hn id
    have HK:=lj (show ∀ e w5,TaGives z F g w4 (tlose { ofFl s with roles:=rput s.roles id r } id) (.tuple #[]) e w5→TGives z F g w (fset s id r) (.bool true) (.returned (.bool true)) w5 from fun e w5 hg=>by
     refine TGives.ret (hg.then (fun b hb=>.inl hb) z2) ?_;rw [tlose_roles,← tout_eq hk id];unfold fset;rw [hj,if_pos rfl,if_pos h0,fout_frole]
     first | done | rfl)
    subst h0;clear hb h hNo hj h2 z1 z2 hR4 hO4 hrm
    go_enter Tryz.func159,Tryz.ntmps159
    go_wp2_with fail
    refine hT.mono ?_;rintro e w2 ⟨rfl,rfl⟩
    go_wp2_with fail
    refine hR.mono ?_;rintro e w2 ⟨rfl,rfl⟩
    go_wp2_with fail
    refine hL.mono ?_;intro e w5 hg;have HZ:=lj (HK.out _ _ hg);obtain ⟨_,rfl,_⟩:=hg;clear hL;go_wp2;go_ret;exact HZ.out
   ·have HZ:=lj (show TGives z F g w (fset s id r) (.bool true) (.returned (.bool true)) w4 from by
     unfold fset;rw [hj,if_pos rfl,if_neg h0]
     exact ⟨F,rfl,⟨some bm,a,n,c,z1⟩,fun _ h=>.inl h,z2⟩)
    have hd:(r == 0)=false:=by simpa using h0
    clear hb h hNo hj h2 z1 z2 hR4 hO4 hrm
    go_enter Tryz.func159,Tryz.ntmps159
    go_wp2_with fail
    refine hT.mono ?_;rintro e w2 ⟨rfl,rfl⟩
    go_wp2_with fail
    refine hR.mono ?_;rintro e w2 ⟨rfl,rfl⟩;go_wp2;go_ret;exact HZ.out
theorem askE_eq (s:Fl) (id:Int):askE s id=if mayE s.roles id=0 then (if id∈s.line then 3 else 0) else mayE s.roles id:=by
 unfold askE mayE
 repeat' split
 all_goals first | rfl | omega | simp_all
theorem giveE_eq (s:Fl) (id:Int):giveE s id=if mayE s.roles id=0 then (if s.line.head?=some id then 3 else 0) else mayE s.roles id:=by
 unfold giveE mayE
 repeat' split
 all_goals first | rfl | omega | simp_all
theorem may_has {rs:List (Int×Int)} {id:Int} (h:mayE rs id=0):rhas rs id=true:=by
 unfold mayE at h
 split at h
 ·assumption
 ·cases h
theorem task_any (h:TabIs z F g w s) (hk:FOk N s) (hN:N≤100000) (id:Int) (hid:wf64 id) :
    Calls Tryz.prog 131 #[.pointer (some ⟨g,z.o,none⟩),.int .i64 id] w fun e w'=>TGives z F g w (fask s id) (.int .i64 (askE s id)) e w':=by
  obtain ⟨om,a,n,c,h⟩:=h
  have hM:Calls Tryz.prog 155 #[.pointer (some ⟨g,z.o,none⟩),.int .i64 id] w fun e w'=>e = .returned (.int .i64 (mayE s.roles id))∧w'=w:=may_any h id hid
  have hW:Calls Tryz.prog 156 #[.pointer (some ⟨g,z.o,none⟩),.int .i64 id] w fun e w'=>e = .returned (.bool (decide (id∈s.line.tail)))∧w'=w:=waits_any h (taat_len h hk hN) id
  have hn:=taat_len h hk hN;have c1:=h.bx.cell 1 (.int .i64 (fhold s)) rfl
  have HNo:=lj (show ∀ k:Int,askE s id=k→k≠0→TGives z F g w (fask s id) (.int .i64 k) (.returned (.int .i64 k)) w from fun k e hne=>by
    unfold fask;rw [e,if_neg hne]
    exact ⟨F,rfl,⟨om,a,n,c,h⟩,fun _ h=>.inl h,Only.refl _ _⟩)
  have hE:=askE_eq s id
  by_cases h0:mayE s.roles id=0
  · rw [h0] at hM
    rw [if_pos h0] at hE;have hpos:=rhas_pos hk (may_has h0)
    have hne:id≠0:=by omega
    have hlm:=line_mem (s:=s) hne
    by_cases e1:fhold s=id
    · rw [if_pos (hlm.2 (.inl e1))] at hE
      have HZ:=lj (HNo.out 3 hE (by decide));rw [hE];rw [e1] at c1;clear h hE h0 hlm hpos HNo hW
      go_enter Tryz.func131,Tryz.ntmps131
      go_wp2_with fail
      refine hM.mono ?_;rintro e w2 ⟨rfl,rfl⟩;go_wp2;go_ret;exact HZ.out
    · have e1':(fhold s == id)=false:=by simpa using e1
      by_cases e2:id∈s.line.tail
      · rw [if_pos (hlm.2 (.inr e2))] at hE
        rw [decide_eq_true e2] at hW;have HZ:=lj (HNo.out 3 hE (by decide));rw [hE];clear h hE h0 hlm hpos HNo e2;generalize fhold s=hd at *
        go_enter Tryz.func131,Tryz.ntmps131
        go_wp2_with fail
        refine hM.mono ?_;rintro e w2 ⟨rfl,rfl⟩
        go_wp2_with fail
        refine hW.mono ?_;rintro e w2 ⟨rfl,rfl⟩;go_wp2;go_ret;exact HZ.out
      · rw [if_neg (fun hm=>(hlm.1 hm).elim e1 e2)] at hE
        rw [decide_eq_false e2] at hW;rw [hE]
        by_cases e3:s.line=[]
        · have hz:fhold s=0:=hk.hold0.2 e3
          have hG:=grant_any h hn id;have HK:=lj (task_first id e3 hE);rw [hz] at c1 e1';clear h hE h0 hlm hpos HNo e1 e2 e3 hz
          go_enter Tryz.func131,Tryz.ntmps131
          go_wp2_with fail
          refine hM.mono ?_;rintro e w2 ⟨rfl,rfl⟩
          go_wp2_with fail
          refine hW.mono ?_;rintro e w2 ⟨rfl,rfl⟩
          go_wp2_with fail
          refine hG.mono ?_;intro e w5 hg;have HZ:=lj (show TGives z F g w2 (fask s id) (.int .i64 0) (.returned (.int .i64 0)) w5 from TGives.ret hg HK.out.symm);obtain ⟨_,rfl,_⟩:=hg;clear hG;go_wp2;go_ret;exact HZ.out
        · have hz:fhold s≠0:=fun e=>e3 (hk.hold0.1 e)
          have hz':(fhold s == 0)=false:=by simpa using hz
          have HK:=lj (task_more id e3 hE);have c3:=h.bx.cell 3 (.slice a n c) rfl;have f3:=h.bx.free 3;have HH:=lj h;clear h hE h0 hlm hpos HNo e1 e2 e3;generalize fhold s=hd at *
          go_enter Tryz.func131,Tryz.ntmps131
          go_wp2_with fail
          refine hM.mono ?_;rintro e w2 ⟨rfl,rfl⟩
          go_wp2_with fail
          refine hW.mono ?_;rintro e w2 ⟨rfl,rfl⟩
          go_upto_region 4 with fail
          have HV:=lj (show Vals (w2.alloc (.cells #[.int .i64 id] 3)) (w2.heap.size+1) (some ⟨w2.heap.size,0,none⟩) 1 (ints [id]) from Vals.lit w2 (ints [id]) 3 (ints_one _) (0,0) _ rfl);have HO:=lj (show Only (fun _=>False) w2 (w2.alloc (.cells #[.int .i64 id] 3)) from (Only.refl _ _).alloc _);have HM:=lj (HH.out.rw.only HO.out (fun _ _ h=>h));have hgw:g<w2.heap.size:=HH.out.lt _ HH.out.m1
          go_wp2_with (first
            | (at_builtin
               (refine wpList_rw elem_int rfl (.tmp 16) (.tmp 18) rfl 0 rfl HM.out rfl HV.out (by omega) (Nat.zero_le _) ?_)
               intro A2 c3' w3 hm hO2 hp2;have hO3:Only (In a) w2 w3:=(HO.out.mono (fun _ _ h=>h.elim)).trans hO2;have h3:w3.cell? ⟨g,z.o+3,none⟩=some (.slice a n c):=(hO3.cell (p:=⟨g,z.o+3,none⟩) hgw HH.out.d2).trans c3;have hf3:w3.frozen? ⟨g,z.o+3,none⟩=false:=(hO3.frozen (p:=⟨g,z.o+3,none⟩) hgw HH.out.d2).trans f3
               have HZ:=lj (show TGives z F g w2 (fask s id) (.int .i64 0) (.returned (.int .i64 0)) (w3.setCell ⟨g,z.o+3,none⟩ (.slice A2 (n+1) c3')) from by
                 obtain ⟨z1,z2,z3⟩:=HH.out.relay (l2:=s.line.tail ++ [id]) hO3 (by rw [ints_app]; exact hm) (fun b hb=>(hp2 b hb).imp (fun h=>h) (fun h=>by simp at h; omega));rw [← HK.out] at z1
                 exact ⟨_,rfl,⟨om,A2,n+1,c3',z1⟩,z2,z3⟩)
               clear hm hO2 hp2 hO3)
            | fail)
          go_ret;exact HZ.out
  · have HZ:=lj (HNo.out (mayE s.roles id) (by rw [hE,if_neg h0]) h0)
    rw [hE,if_neg h0];clear h hE HNo hW;generalize mayE s.roles id=me at *
    have h0':(me == 0)=false:=by simpa using h0
    go_enter Tryz.func131,Tryz.ntmps131
    go_wp2_with fail
    refine hM.mono ?_;rintro e w2 ⟨rfl,rfl⟩;go_wp2;go_ret;exact HZ.out
theorem tdrop_any (h:TabIs z F g w s) (hk:FOk N s) (hN:N≤100000) (id:Int) (hid:wf64 id) :
  Calls Tryz.prog 132 #[.pointer (some ⟨g,z.o,none⟩),.int .i64 id] w fun e w'=>TGives z F g w (fdrop s id) (.int .i64 (dropE s id)) e w':=by
 obtain ⟨om,a,n,c,h⟩:=h
 have hT:Calls Tryz.prog 95 #[.pointer (some ⟨g,z.o,none⟩),.int .i64 id] w fun e w'=>e = .returned (.bool (rhas s.roles id))∧w'=w:=there_any h id hid
 have hn:=taat_len h hk hN
 have hW:Calls Tryz.prog 156 #[.pointer (some ⟨g,z.o,none⟩),.int .i64 id] w fun e w'=>e = .returned (.bool (decide (id∈s.line.tail)))∧w'=w:=waits_any h hn id
 have c1:=h.bx.cell 1 (.int .i64 (fhold s)) rfl
 have HNo:=lj (show ∀ k:Int,dropE s id=k→k≠0→TGives z F g w (fdrop s id) (.int .i64 k) (.returned (.int .i64 k)) w from fun k e hne=>by
  unfold fdrop;rw [e,if_neg hne]
  exact ⟨F,rfl,⟨om,a,n,c,h⟩,fun _ h=>.inl h,Only.refl _ _⟩)
 rcases hb:rhas s.roles id with _ | _
 all_goals rw [hb] at hT
 ·have hE:dropE s id=2:=by unfold dropE; rw [hb]; rfl
  have HZ:=lj (HNo.out 2 hE (by decide));rw [hE];clear h hE HNo hW hb
  go_enter Tryz.func132,Tryz.ntmps132
  go_wp2_with fail
  refine hT.mono ?_;rintro e w2 ⟨rfl,rfl⟩;go_wp2;go_ret;exact HZ.out
 ·have hpos:=rhas_pos hk hb
  have hne:id≠0:=by omega
  have hlm:=line_mem (s:=s) hne;have hL:=lose_any h hn id
  have HK:=lj (show dropE s id=0→tlose (ofFl s) id=ofFl (fdrop s id) from fun e=>by
   rw [← tout_eq hk id];unfold fdrop
   rw [if_pos e])
  by_cases e1:fhold s=id
  ·have hE:dropE s id=0:=by unfold dropE; rw [hb,if_pos rfl,if_pos (hlm.2 (.inl e1))]
   have HQ:=lj (HK.out hE);rw [hE];rw [e1] at c1;clear h hE hb hlm hpos HNo hW HK e1
   go_enter Tryz.func132,Tryz.ntmps132
   go_wp2_with fail
   refine hT.mono ?_;rintro e w2 ⟨rfl,rfl⟩
   go_wp2_with fail
   refine hL.mono ?_;intro e w5 hg;have HZ:=lj (show TGives z F g w2 (fdrop s id) (.int .i64 0) (.returned (.int .i64 0)) w5 from TGives.ret hg HQ.out);obtain ⟨_,rfl,_⟩:=hg;clear hL;go_wp2;go_ret;exact HZ.out
  ·have e1':(fhold s == id)=false:=by simpa using e1
   by_cases e2:id∈s.line.tail
   ·have hE:dropE s id=0:=by unfold dropE; rw [hb,if_pos rfl,if_pos (hlm.2 (.inr e2))]
    have HQ:=lj (HK.out hE);rw [decide_eq_true e2] at hW;rw [hE];clear h hE hb hlm hpos HNo HK e2;generalize fhold s=hd at *
    go_enter Tryz.func132,Tryz.ntmps132
    go_wp2_with fail
    refine hT.mono ?_;rintro e w2 ⟨rfl,rfl⟩
    go_wp2_with fail
    refine hW.mono ?_;rintro e w2 ⟨rfl,rfl⟩
    go_wp2_with fail
    refine hL.mono ?_;intro e w5 hg;have HZ:=lj (show TGives z F g w2 (fdrop s id) (.int .i64 0) (.returned (.int .i64 0)) w5 from TGives.ret hg HQ.out);obtain ⟨_,rfl,_⟩:=hg;clear hL;go_wp2;go_ret;exact HZ.out
   ·have hE:dropE s id=3:=by unfold dropE; rw [hb,if_pos rfl,if_neg (fun hm=>(hlm.1 hm).elim e1 e2)]
    have HZ:=lj (HNo.out 3 hE (by decide));rw [decide_eq_false e2] at hW;rw [hE];clear h hE hb hlm hpos HNo HK e2 hL;generalize fhold s=hd at *
    go_enter Tryz.func132,Tryz.ntmps132
    go_wp2_with fail
    refine hT.mono ?_;rintro e w2 ⟨rfl,rfl⟩
    go_wp2_with fail
    refine hW.mono ?_;rintro e w2 ⟨rfl,rfl⟩;go_wp2;go_ret;exact HZ.out
theorem tgive_any (h:TabIs z F g w s) (hk:FOk N s) (hN:N≤100000) (id:Int) (hid:wf64 id) :
  Calls Tryz.prog 158 #[.pointer (some ⟨g,z.o,none⟩),.int .i64 id] w fun e w'=>TGives z F g w (fgive s id) (.int .i64 (giveE s id)) e w':=by
 obtain ⟨om,a,n,c,h⟩:=h
 have hM:Calls Tryz.prog 155 #[.pointer (some ⟨g,z.o,none⟩),.int .i64 id] w fun e w'=>e = .returned (.int .i64 (mayE s.roles id))∧w'=w:=may_any h id hid
 have hn:=taat_len h hk hN;have c1:=h.bx.cell 1 (.int .i64 (fhold s)) rfl
 have HNo:=lj (show ∀ k:Int,giveE s id=k→k≠0→TGives z F g w (fgive s id) (.int .i64 k) (.returned (.int .i64 k)) w from fun k e hne=>by
  unfold fgive;rw [e,if_neg hne]
  exact ⟨F,rfl,⟨om,a,n,c,h⟩,fun _ h=>.inl h,Only.refl _ _⟩)
 have hE:=giveE_eq s id
 by_cases h0:mayE s.roles id=0
 ·rw [h0] at hM
  rw [if_pos h0] at hE;have hpos:=rhas_pos hk (may_has h0);have hlh:=line_head (s:=s) (id:=id) (by omega)
  by_cases e1:fhold s=id
  ·rw [if_pos (hlh.2 e1)] at hE
   have HZ:=lj (HNo.out 3 hE (by decide));rw [hE];rw [e1] at c1;clear h hE h0 hlh hpos HNo
   go_enter Tryz.func158,Tryz.ntmps158
   go_wp2_with fail
   refine hM.mono ?_;rintro e w2 ⟨rfl,rfl⟩;go_wp2;go_ret;exact HZ.out
  ·rw [if_neg (fun e=>e1 (hlh.1 e))] at hE
   have e1':(fhold s == id)=false:=by simpa using e1
   have hG:=grant_any h hn id;have HK:=lj (tgive_eq id hE);rw [hE];clear h hE h0 hlh hpos HNo;generalize fhold s=hd at *
   go_enter Tryz.func158,Tryz.ntmps158
   go_wp2_with fail
   refine hM.mono ?_;rintro e w2 ⟨rfl,rfl⟩
   go_wp2_with fail
   refine hG.mono ?_;intro e w5 hg;have HZ:=lj (show TGives z F g w2 (fgive s id) (.int .i64 0) (.returned (.int .i64 0)) w5 from TGives.ret hg HK.out.symm);obtain ⟨_,rfl,_⟩:=hg;clear hG;go_wp2;go_ret;exact HZ.out
 ·have HZ:=lj (HNo.out (mayE s.roles id) (by rw [hE,if_neg h0]) h0)
  rw [hE,if_neg h0];clear h hE HNo;generalize mayE s.roles id=me at *
  have h0':(me == 0)=false:=by simpa using h0
  go_enter Tryz.func158,Tryz.ntmps158
  go_wp2_with fail
  refine hM.mono ?_;rintro e w2 ⟨rfl,rfl⟩;go_wp2;go_ret;exact HZ.out
theorem trev_any (h:TabIs z F g w s) (hk:FOk N s) (hN:N≤100000) :
  Calls Tryz.prog 134 #[.pointer (some ⟨g,z.o,none⟩)] w fun e w'=>TGives z F g w (frev s) (.int .i64 (revE s)) e w':=by
 obtain ⟨om,a,n,c,h⟩:=h;have hn:=taat_len h hk hN;have c1:=h.bx.cell 1 (.int .i64 (fhold s)) rfl
 by_cases e0:s.line=[]
 ·have hz:fhold s=0:=hk.hold0.2 e0
  have hl:s.line.length=0:=by rw [e0]; rfl
  have HZ:=lj (show TGives z F g w (frev s) (.int .i64 (revE s)) (.returned (.int .i64 3)) w from by
   unfold frev revE;rw [if_pos hl,if_pos hl]
   exact ⟨F,rfl,⟨om,a,n,c,h⟩,fun _ h=>.inl h,Only.refl _ _⟩)
  rw [hz] at c1;clear h hl hz
  go_enter Tryz.func134,Tryz.ntmps134
  go_wp2;go_ret;exact HZ.out
 ·have hz:fhold s≠0:=fun e=>e0 (hk.hold0.1 e)
  have hz':(fhold s == 0)=false:=by simpa using hz
  have hl:¬ s.line.length=0:=by rw [List.length_eq_zero_iff]; exact e0
  have hP:=pass_any h hn
  have hE:revE s=0:=by unfold revE; rw [if_neg hl]
  have HK:=lj (show tpass (ofFl s)=ofFl (frev s) from by unfold frev; rw [if_neg hl,tpass_eq hk e0]);rw [hE];clear h hl hE;generalize fhold s=hd at *
  go_enter Tryz.func134,Tryz.ntmps134
  go_wp2_with fail
  refine hP.mono ?_;intro e w5 hg;have HZ:=lj (show TGives z F g w (frev s) (.int .i64 0) (.returned (.int .i64 0)) w5 from TGives.ret hg HK.out);obtain ⟨_,rfl,_⟩:=hg;clear hP;go_wp2;go_ret;exact HZ.out
theorem tpass_left {t:Ta} (v:Nat) (h:t.waits≠[]):tpass { t with left:=v }=tpass t:=by
 unfold tpass tgrant
 rcases e:t.waits with _ | ⟨x,r⟩
 ·exact absurd e h
 ·rfl
theorem ttick_any (h:TabIs z F g w s) (hk:FOk N s) (hN:N≤100000) :
  Calls Tryz.prog 47 #[.pointer (some ⟨g,z.o,none⟩)] w fun e w'=>TGives z F g w (ftick s) (.tuple #[]) e w':=by
 obtain ⟨om,a,n,c,h⟩:=h;have hn:=taat_len h hk hN;have c1:=h.bx.cell 1 (.int .i64 (fhold s)) rfl
 by_cases e0:s.line=[]
 ·have hz:fhold s=0:=hk.hold0.2 e0
  have hl:s.line.length=0:=by rw [e0]; rfl
  have HZ:=lj (show TGives z F g w (ftick s) (.tuple #[]) (.returned (.tuple #[])) w from by
   unfold ftick;rw [if_pos hl]
   exact ⟨F,rfl,⟨om,a,n,c,h⟩,fun _ h=>.inl h,Only.refl _ _⟩)
  rw [hz] at c1;clear h hl hz
  go_enter Tryz.func47,Tryz.ntmps47
  go_wp2;exact bodyPost_ret (v:=.tuple #[]) (by simp [results,Tryz.results47,go_sem]) rfl HZ.out
 ·have hz:fhold s≠0:=fun e=>e0 (hk.hold0.1 e)
  have hz':(fhold s == 0)=false:=by simpa using hz
  have hl:¬ s.line.length=0:=by rw [List.length_eq_zero_iff]; exact e0
  have hlp:1≤s.left:=by
   have:=hk.zero
   rcases Nat.eq_zero_or_pos s.left with h0 | h0
   ·exact absurd (this.1 h0) e0
   ·exact h0
  have hll:=hk.left;have hl2:=hk.l2;have c2:=h.bx.cell 2 (.int .i64 s.left) rfl;have f2:=h.bx.free 2;obtain ⟨z1,z2⟩:=h.setleft (s.left - 1)
  have hcast:(((s.left - 1:Nat)):Int)=(s.left:Int) - 1:=by omega
  rw [hcast] at z1 z2
  by_cases hgt:1<s.left
  ·have HZ:=lj (show TGives z F g w (ftick s) (.tuple #[]) (.returned (.tuple #[])) (w.setCell ⟨g,z.o+2,none⟩ (.int .i64 ((s.left:Int) - 1))) from by
    unfold ftick;rw [if_neg hl,if_pos hgt]
    exact ⟨F,rfl,⟨om,a,n,c,z1⟩,fun _ h=>.inl h,z2⟩)
   obtain ⟨L,hL⟩:∃ L:Int,(s.left:Int)=L:=⟨_,rfl⟩
   have b1:1<L:=by omega
   have b2:L≤1000:=by omega
   rw [hL] at c2 HZ;clear h z1 z2 hcast hlp hll hl2 hgt hL hl e0;generalize fhold s=hd at *
   go_enter Tryz.func47,Tryz.ntmps47
   go_wp2;exact bodyPost_ret (v:=.tuple #[]) (by simp [results,Tryz.results47,go_sem]) rfl HZ.out
  ·have e1:s.left=1:=by omega
   rw [e1] at z1 z2 c2;have c3:=h.bx.cell 3 (.slice a n c) rfl;have hwl:s.line.tail.length=n:=h.len
   rcases Nat.eq_zero_or_pos n with rfl | hp
   ·have hl1:s.line.length=1:=by rw [List.length_tail] at hwl; omega
    obtain ⟨y1,y2⟩:=z1.setleft s.lease;have hLs:=lease_any z1
    have HZ:=lj (show TGives z F g w (ftick s) (.tuple #[]) (.returned (.tuple #[])) ((w.setCell ⟨g,z.o+2,none⟩ (.int .i64 0)).setCell ⟨g,z.o+2,none⟩ (.int .i64 s.lease)) from by
     unfold ftick;rw [if_neg hl,if_neg hgt,if_pos hl1]
     exact ⟨F,rfl,⟨om,a,0,c,y1⟩,fun _ h=>.inl h,z2.trans y2⟩)
    have hLs2:Calls Tryz.prog 75 #[.pointer (some ⟨g,z.o,none⟩)] (w.setCell ⟨g,z.o+2,none⟩ (.int .i64 0)) fun e w'=>e = .returned (.int .i64 s.lease)∧w'=w.setCell ⟨g,z.o+2,none⟩ (.int .i64 0):=hLs
    clear h z1 z2 y1 y2 hcast hlp hll hl2 hgt hl e0 hLs hl1 hwl;generalize fhold s=hd at *
    go_enter Tryz.func47,Tryz.ntmps47
    go_wp2_with fail
    refine hLs2.mono ?_;rintro e w2 ⟨rfl,rfl⟩;go_wp2;exact bodyPost_ret (v:=.tuple #[]) (by simp [results,Tryz.results47,go_sem]) rfl HZ.out
   ·have hl1:¬ s.line.length=1:=by rw [List.length_tail] at hwl; omega
    have hP:=pass_any z1 hn
    have HK:=lj (show tpass { ofFl s with left:=0 }=ofFl (ftick s) from by
     rw [tpass_left 0 (by show s.line.tail≠[]; intro e; rw [e] at hwl; simp at hwl; omega)];unfold ftick
     rw [if_neg hl,if_neg hgt,if_neg hl1,tpass_eq hk e0])
    have hP2:Calls Tryz.prog 74 #[.pointer (some ⟨g,z.o,none⟩)] (w.setCell ⟨g,z.o+2,none⟩ (.int .i64 0)) fun e w'=>e = .returned (.tuple #[])∧TGives z F g w (ftick s) (.tuple #[]) (.returned (.tuple #[])) w':=hP.mono fun e w' hg=>by
     have h1:=hg;obtain ⟨_,rfl,_⟩:=h1;exact ⟨rfl,TGives.mk (hg.then (fun _ h=>.inl h) z2) HK.out⟩
    clear h z1 z2 hcast hlp hll hl2 hgt hl e0 hP hl1 hwl;generalize fhold s=hd at *
    go_enter Tryz.func47,Tryz.ntmps47
    go_wp2_with fail
    refine hP2.mono ?_;rintro e w2 ⟨rfl,hg⟩;have HZ:=lj hg;clear hg hP2;go_wp2;exact bodyPost_ret (v:=.tuple #[]) (by simp [results,Tryz.results47,go_sem]) rfl HZ.out
theorem thold_any (h:TabIs z F g w s) (_hk:FOk N s) :
  Calls Tryz.prog 81 #[.pointer (some ⟨g,z.o,none⟩)] w fun e w'=>e = .returned (.int .i64 (fhold s))∧∃ m,w'=w.drewN m:=by
 obtain ⟨om,a,n,c,h⟩:=h;have c1:=h.bx.cell 1 (.int .i64 (fhold s)) rfl;clear h
 go_enter Tryz.func81,Tryz.ntmps81
 go_wp2;go_ret;exact ⟨rfl,0,rfl⟩
theorem trole_any (h:TabIs z F g w s) (_hk:FOk N s) (id:Int) (hid:wf64 id) :
  Calls Tryz.prog 148 #[.pointer (some ⟨g,z.o,none⟩),.int .i64 id] w fun e w'=>e = .returned (.tuple #[.int .i64 (rrole s.roles id),.bool (rhas s.roles id)])∧∃ m,w'=w.drewN m:=by
 obtain ⟨om,a,n,c,h⟩:=h;have c0:=h.bx.cell0 (.map om) rfl;have hl:(Instr.lookup 68 (.map om) (.int .i64 id) true).run Tryz.prog w = .ok (.tuple #[.int .i64 (rrole s.roles id),.bool (rhas s.roles id)]) w:=h.look hid;clear h;generalize rhas s.roles id=B at *;generalize rrole s.roles id=r at *
 go_enter Tryz.func148,Tryz.ntmps148
 go_wp2;exact bodyPost_ret (v:=.tuple #[.int .i64 r,.bool B]) (by simp [results,Tryz.results148,go_sem]) rfl ⟨rfl,0,rfl⟩
theorem tusers_any (h:TabIs z F g w s) (hk:FOk N s) (hN:N≤100000) :
  Calls Tryz.prog 146 #[.pointer (some ⟨g,z.o,none⟩)] w fun e w'=>LGives z F g w s (s.roles.map (·.1)) e w':=by
 obtain ⟨om,a,n,c,h⟩:=h;exact users_any h hk.rising (Nat.le_trans hk.rn hN)
end
end
end Go.Proofs.YtdpagmcickkbmaaGreatDoor
