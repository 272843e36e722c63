/- PIt -/
import Derived.Test.YtdpagmcickkbmaaGreatDoorZd21
import Derived.Test.YtdpagmcickkbmaaGreatDoorZd24
namespace Go.Proofs.YtdpagmcickkbmaaGreatDoor
set_option maxRecDepth 100000
open Go.Lib renaming hid → lj
section
open Go.RowKit Go.Shelf
attribute [local go_sem] Oper.semAt_some
def SeeAll (bx g:Nat) (_N k:Nat) (W:World) (o:Option Value):Prop:=
 ∃ m q,W.cell? ⟨bx,0,none⟩=some (.pointer (some ⟨g,0,none⟩))∧W.cell? ⟨g,24,none⟩=some (.map m) ∧
  (Instr.lookup 80 (.map m) (.int .i64 ((k:Int)+1)) false).run Tryz.prog W = .ok (.pointer q) W∧o=q.map (fun a=>.pointer (some a))
set_option maxHeartbeats 1000000 in
theorem all1_ok (bx g:Nat) (W:World):IterOK Tryz.prog 76 #[.pointer (some ⟨bx,0,none⟩)] (SeeAll bx g) W:=by
 intro l S J Jx hJ hJx hS hl hY h0;have hst:=h0 W (Only.refl _ _);have HH:=lj (And.intro hJ (And.intro hJx (And.intro hY hst)));clear hJ hJx hY h0 hst hS hl;refine callsIn_of_wp Tryz.func76 rfl trivial ?_ rfl;simp only [Tryz.ntmps76,List.size_toArray,List.length_cons,List.length_nil,Nat.reduceAdd,Nat.reduceSub,Array.replicate_succ,Array.replicate_zero,List.push_toArray,List.append_toArray,List.nil_append,List.cons_append]
 gi_wp2
 gi_loopw [3] (fun p wr=>∃ k:Nat,p = .int .i64 ((k:Int)+1)∧k≤16∧J W.heap.size k wr)
  (fun p _=>match p with | .int _ i=>(17 - i).toNat | _=>0)
 case atStart =>
  exact ⟨0,rfl,by omega,HH.out.2.2.2⟩
 case round =>
  obtain ⟨k,rfl,hk,hj⟩:=hrel
  by_cases h16:k=16
  ·subst h16
   gi_wp2
   go_end0
   exact ⟨⟨_,rfl⟩,_,Nat.le_refl _,.inl hj⟩
  ·have hlt:(k:Int)+1≤16:=by omega
   have hw:wrap64 ((k:Int)+1+1)=((k+1:Nat):Int)+1:=by have:=IntWalk.wrap64_in ((k:Int)+1+1) (by omega); rw [this]; push_cast; rfl
   rcases HH.out.2.2.1 _ k wr (Nat.le_refl _) (by omega) hj with ⟨hsee,hj2⟩ | ⟨v,hsee,hy⟩
   ·obtain ⟨m,q,c0,c1,hl,ho⟩:=hsee
    rcases q with _ | q
    rotate_left
    ·cases ho
    gi_wp2
    refine ⟨fun _ h=>(by cases h),?_⟩
    gi_wp2
    go_roundw
    case rel=>exact ⟨k+1,by push_cast; rfl,by omega,hj2⟩
    case measure=>simp; omega
   ·obtain ⟨m,q,c0,c1,hl,ho⟩:=hsee
    rcases q with _ | q
    ·cases ho
    injection ho with ho
    subst ho;obtain ⟨fn,tmps,assign,body,hy1,hR⟩:=hy wr (Only.refl _ _)
    gi_wp2
    refine ⟨rfl,hR.mono ?_⟩;rintro e W3 (⟨rfl,_,hj3⟩ | ⟨rfl,_,hj3⟩)
    ·gi_wp2
     go_roundw
     case rel=>exact ⟨k+1,by push_cast; rfl,by omega,hj3⟩
     case measure=>simp; omega
    ·gi_wp2
     refine bodyPost_ret (results_none rfl _ _ _) rfl ?_;exact ⟨⟨_,rfl⟩,_,Nat.le_refl _,.inr hj3⟩
theorem ball_any (g:Nat) (w:World):Calls Tryz.prog 48 #[.pointer (some ⟨g,0,none⟩)] w fun e w' =>
  e = .returned (.func (.func 76) #[] #[.pointer (some ⟨w.heap.size,0,none⟩)])∧w'=w.alloc (.cells #[.pointer (some ⟨g,0,none⟩)] 45):=by
 have hmf:∀ (fn:Fn) (first cap:Array Value) (w:World),(Instr.makeFunc fn first cap).run Tryz.prog w = .ok (.func fn first cap) w:=fun _ _ _ _=>rfl
 go_enter Tryz.func48,Tryz.ntmps48
 go_wp2;go_ret;exact ⟨rfl,rfl⟩
theorem busers_any (g:Nat) (w:World):Calls Tryz.prog 55 #[.pointer (some ⟨g,0,none⟩)] w fun e w' =>
  e = .returned (.func (.func 82) #[] #[.pointer (some ⟨w.heap.size,0,none⟩)])∧w'=w.alloc (.cells #[.pointer (some ⟨g,0,none⟩)] 45):=by
 have hmf:∀ (fn:Fn) (first cap:Array Value) (w:World),(Instr.makeFunc fn first cap).run Tryz.prog w = .ok (.func fn first cap) w:=fun _ _ _ _=>rfl
 go_enter Tryz.func55,Tryz.ntmps55
 go_wp2;go_ret;exact ⟨rfl,rfl⟩
def SeeUsers (bx g B:Nat) (N k:Nat) (W:World) (o:Option Value):Prop:=
 ∃ m q,W.cell? ⟨bx,0,none⟩=some (.pointer (some ⟨g,0,none⟩))∧W.cell? ⟨g,24,none⟩=some (.map m) ∧
  (Instr.lookup 80 (.map m) (.int .i64 ((k:Int)+1)) false).run Tryz.prog W = .ok (.pointer q) W ∧
  match q with
  | none=>o=none
  | some a=>∃ gc st,a=⟨gc,0,none⟩∧¬ Mine B N gc∧W.cell? ⟨gc,1,none⟩=some (.int .i64 st)∧(st=1→o=some (.pointer (some a)))∧(st≠1→o=none)
set_option maxHeartbeats 1000000 in
theorem users1_ok (bx g B:Nat) (W:World) (hB:B≤W.heap.size):IterOK Tryz.prog 82 #[.pointer (some ⟨bx,0,none⟩)] (SeeUsers bx g B) W:=by
 intro l S J Jx hJ hJx hS hl hY h0;have hst:=h0 W (Only.refl _ _)
 have hc0:W.cell? ⟨bx,0,none⟩=some (.pointer (some ⟨g,0,none⟩)):=by
  rcases hY _ 0 W (Nat.le_refl _) (by omega) hst with ⟨⟨m,q,h,_⟩,_⟩ | ⟨v,⟨m,q,h,_⟩,_⟩ <;> exact h
 have hc1:∀ o,(W.alloc o).cell? ⟨bx,0,none⟩=some (.pointer (some ⟨g,0,none⟩)):=fun o=>(nay_alloc W o).keepCell (fun h=>h) hc0
 have HH:=lj (And.intro hJ (And.intro hJx (And.intro hY (And.intro h0 hst))));have HS:=lj (And.intro hS hl);clear hJ hJx hY h0 hst hS hl;refine callsIn_of_wp_marks Tryz.func82 rfl trivial ?_ rfl;simp only [Tryz.ntmps82,List.size_toArray,List.length_cons,List.length_nil,Nat.reduceAdd,Nat.reduceSub,Array.replicate_succ,Array.replicate_zero,List.push_toArray,List.append_toArray,List.nil_append,List.cons_append]
 gi_wp2
 refine ⟨trivial,rfl,?_⟩;refine (callsIn_wide.2 (ball_any g _)).mono ?_;rintro e w' ⟨rfl,rfl⟩
 gi_wp2
 have hid:Only Nay W ((W.alloc (.cells #[.func (.yield l) #[] #[]] 138)).alloc (.cells #[.pointer (some ⟨g,0,none⟩)] 45)):=((Only.refl Nay W).alloc _).alloc _
 have hsz:((W.alloc (.cells #[.func (.yield l) #[] #[]] 138)).alloc (.cells #[.pointer (some ⟨g,0,none⟩)] 45)).heap.size=W.heap.size+2:=by simp
 have hcy:((W.alloc (.cells #[.func (.yield l) #[] #[]] 138)).alloc (.cells #[.pointer (some ⟨g,0,none⟩)] 45)).cell? ⟨W.heap.size,0,none⟩=some (.func (.yield l) #[] #[]):=
  (nay_alloc _ _).keepCell (fun h=>h) ((Bx.new W _ rfl _ _).cell 0 _ rfl)
 have hcb:((W.alloc (.cells #[.func (.yield l) #[] #[]] 138)).alloc (.cells #[.pointer (some ⟨g,0,none⟩)] 45)).cell? ⟨W.heap.size+1,0,none⟩=some (.pointer (some ⟨g,0,none⟩)):=
  (Bx.new (W.alloc (.cells #[.func (.yield l) #[] #[]] 138)) (W.heap.size+1) (by simp) _ _).cell 0 _ rfl
 generalize (W.alloc (.cells #[.func (.yield l) #[] #[]] 138)).alloc (.cells #[.pointer (some ⟨g,0,none⟩)] 45)=W2 at *;clear hc0 hc1;obtain ⟨hJ,hJx,hY,h0,hst⟩:=HH.out;obtain ⟨hS,hl⟩:=HS.out;clear HH HS
 have hmm:∀ {N:Nat} {A B:World},Only (Mine W2.heap.size N) A B→Only (Mine W.heap.size N) A B:=fun h=>h.mono fun x _ hx=>⟨by have:=hx.1; omega,hx.2⟩
 have hnm:∀ {N:Nat} {x:Nat},x<W.heap.size+2→¬ Mine W2.heap.size N x:=fun hx h=>by have:=h.1; omega
 refine rf_law (gf:=76) (lb:=#[.pointer (some ⟨W.heap.size+1,0,none⟩)]) (See:=SeeAll (W.heap.size+1) g) rfl (enters_of Tryz.func76 (by kernel_rfl) rfl)
  (fun W3 _ _=>all1_ok _ g W3) rfl (fun b=>S b∨b=l)
  (fun N k Wx=>J N k Wx∧Wx.cell? ⟨W.heap.size,0,none⟩=some (.func (.yield l) #[] #[])∧Wx.cell? ⟨W.heap.size+1,0,none⟩=some (.pointer (some ⟨g,0,none⟩)))
  (fun N c Wx=>c = .ret∧Jx N Wx)
  (fun N k A B h hi=>⟨hJ N k A B h.1 (hmm hi),hi.keepCell (hnm (by simp)) h.2.1,hi.keepCell (hnm (by simp)) h.2.2⟩)
  (fun N c A B h hi=>⟨h.1,hJx N A B h.2 (hmm hi)⟩)
  (fun b hb=>by rcases hb with hb | rfl; exact Nat.lt_of_lt_of_le (hS b hb) (by omega); omega)
  (fun W3 hi=>⟨h0 W3 (hid.trans hi),hi.keepCell (fun h=>h) hcy,hi.keepCell (fun h=>h) hcb⟩)
  (fun v=>{ tmps:=#[.func (.yield l) #[] #[],.pointer (some ⟨bx,0,none⟩),.pointer (some ⟨W.heap.size,0,none⟩),v,.pointer (some ⟨g,0,none⟩),.func (.func 76) #[] #[.pointer (some ⟨W.heap.size+1,0,none⟩)],v,undef,undef,undef,undef,undef,undef,undef,undef,undef,undef,undef],defers:=[] })
  ?assign ?round ?done ?stop
 case assign =>
  intro l2 v W3 K hK
  gi_wp2
  exact hK
 case round =>
  rintro N k W3 hN hk ⟨hj,hcy3,hcb3⟩
  rcases hY N k W3 (by omega) hk hj with ⟨⟨m,q,s1,s2,s3,s4⟩,hj2⟩ | ⟨v,⟨m,q,s1,s2,s3,s4⟩,hy⟩
  ·rcases q with _ | a
   ·exact .inl ⟨⟨m,none,hcb3,s2,s3,rfl⟩,hj2,hcy3,hcb3⟩
   ·obtain ⟨gc,st,rfl,hgm,hst1,hy1,hn1⟩:=s4
    have hne:st≠1:=fun e=>by have:=hy1 e; cases this
    refine .inr ⟨.pointer (some ⟨gc,0,none⟩),⟨m,some ⟨gc,0,none⟩,hcb3,s2,s3,rfl⟩,fun l2 W4 hi=>?_⟩;have hst4:=hi.keepCell (fun h=>hgm ⟨by have h9:W2.heap.size≤gc:=h.1; omega,h.2⟩) hst1
    have hd:(st == 1)=false:=by simpa using hne
    have HR:=lj (show J N (k+1) W4∧_∧_ from ⟨hJ _ _ _ _ hj2 (hmm hi),hi.keepCell (hnm (by simp)) hcy3,hi.keepCell (hnm (by simp)) hcb3⟩);clear hY hJ hJx h0 hst hj hj2 s1 s2 s3 hy1 hn1 hst1 hcy3 hcb3
    gi_wp2
    refine ⟨fun _ h=>(by cases h),?_⟩
    gi_wp2
    exact ⟨Only.refl _ _,HR.out⟩
  ·rcases q with _ | a
   ·cases s4
   obtain ⟨gc,st,rfl,hgm,hst1,hy1,hn1⟩:=s4
   have he:st=1:=Classical.byContradiction fun e=>by have:=hn1 e; cases this
   subst he;have hv:=hy1 rfl
   injection hv with hv
   subst hv;refine .inr ⟨.pointer (some ⟨gc,0,none⟩),⟨m,some ⟨gc,0,none⟩,hcb3,s2,s3,rfl⟩,fun l2 W4 hi=>?_⟩;have hst4:=hi.keepCell (fun h=>hgm ⟨by have h9:W2.heap.size≤gc:=h.1; omega,h.2⟩) hst1;have hcy4:=hi.keepCell (hnm (by simp)) hcy3;have hcb4:=hi.keepCell (hnm (by simp)) hcb3;obtain ⟨fn,tmps,assign,body,hyr,hR⟩:=hy W4 (hmm hi);have HR:=lj hR;clear hY hJ hJx h0 hst hj s1 s2 s3 hy1 hn1 hst1 hcy3 hcb3 hy hR
   gi_wp2
   refine ⟨rfl,RoundIn.mono (F:=Fence.wide.inRound l2) HR.out ?_⟩
   have hlw:∀ b,W.heap.size≤b→b<N→¬ (S b∨N≤b):=fun b h1 h2 h3=>by
    rcases h3 with h3 | h3
    ·have:=hS b h3; omega
    ·omega
   have hW4:W2.heap.size≤W4.heap.size∧W.heap.size+1<W4.heap.size:=by
    have h:=cell_lt hcb4;have h2:W.heap.size+1<W4.heap.size:=h;exact ⟨by omega,h2⟩
   rintro e W5 (⟨rfl,ho,hj5⟩ | ⟨rfl,ho,hj5⟩)
   ·have h5y:=(ho.cell (p:=⟨W.heap.size,0,none⟩) (by simp; omega) (hlw _ (by simp) (by simp; omega))).trans hcy4
    have h5b:=(ho.cell (p:=⟨W.heap.size+1,0,none⟩) hW4.2 (hlw _ (by simp) (by simp; omega))).trans hcb4
    gi_wp2
    exact ⟨ho.mono fun b _ hb=>hb.imp .inl id,hj5,h5y,h5b⟩
   ·gi_wp2
    exact ⟨ho.mono fun b _ hb=>by rcases hb with h1 | h1 | h1; exact .inl (.inl h1); exact .inr h1; exact .inl (.inr h1),rfl,hj5⟩
 case done =>
  rintro D N W3 hD hN ⟨hj,_,_⟩ hK
  gi_wp2
  refine ⟨by simp,.inl ⟨_,_,rfl,run_takeDeferred hK,?_⟩⟩;exact ⟨_,results_none rfl _ _ _,⟨_,rfl⟩,N,by omega,.inl (hJ _ _ _ _ hj (only_putObj _ ⟨by omega,by omega⟩))⟩
 case stop =>
  rintro D N c W3 hD hDN ⟨rfl,hj⟩ hK
  gi_wp2
  refine ⟨by simp,.inl ⟨_,_,rfl,run_takeDeferred hK,?_⟩⟩;exact ⟨_,results_none rfl _ _ _,⟨_,rfl⟩,N,by omega,.inr (hJx _ _ _ hj (only_putObj _ ⟨by omega,by omega⟩))⟩
end
end Go.Proofs.YtdpagmcickkbmaaGreatDoor
