/- PRf -/
import Derived.RangeFuncNested
import Derived.RangeFuncBound
import Derived.Shelf.RegionOpen
import Derived.OwnWalkIn
import Derived.LoopNIn
import Derived.LoopIn
import Derived.Test.YtdpagmcickkbmaaGreatDoorZd05
namespace Go.Proofs.YtdpagmcickkbmaaGreatDoor
set_option maxRecDepth 100000
section
open Go.RowKit
abbrev Mine (B N:Nat) (x:Nat):Prop:=B≤x∧x<N
abbrev Nay (_:Nat):Prop:=False
section
variable {S:Nat→Prop} {A W W':World}
theorem only_putObj {l:Nat} (o':Obj) (hl:S l):Only S W (W.putObj l o'):=
 ⟨rfl,rfl,rfl,by simp,fun _ _ hi=>World.putObj_heap_other (fun e=>hi (e ▸ hl))⟩
theorem Only.keepCell (h:Only S W W') {p:Addr} {v:Value} (hs:¬ S p.block) (hc:W.cell? p=some v):W'.cell? p=some v:=(h.cell (cell_lt hc) hs).trans hc
theorem Only.keepObj (h:Only S W W') {k:Nat} {o:Obj} (hs:¬ S k) (hc:W.heap[k]?=some o):W'.heap[k]?=some o:=
 (h.block k (Array.getElem?_eq_some_iff.1 hc).1 hs).trans hc
theorem nay_alloc (W:World) (o:Obj):Only Nay W (W.alloc o):=(Only.refl Nay W).alloc o
end
def IterOK (P:Program) (gf:Nat) (lb:Array Value) (See:Nat→Nat→World→Option Value→Prop) (W:World):Prop:=
 ∀ (l:Nat) (S:Nat→Prop) (J:Nat→Nat→World→Prop) (Jx:Nat→World→Prop),
  (∀ N k A B,J N k A→Only (Mine W.heap.size N) A B→J N k B)→(∀ N A B,Jx N A→Only (Mine W.heap.size N) A B→Jx N B)→(∀ b,S b→b<W.heap.size)→l<W.heap.size →
  (∀ N k W1,W.heap.size≤N→k<16→J N k W1→(See N k W1 none∧J N (k+1) W1)∨∃ v,See N k W1 (some v) ∧
   ∀ W2,Only (Mine W.heap.size N) W1 W2→YieldAt Fence.wide 0 P l #[v] W2 fun e W'=>(e = .returned (.bool true)∧Only (fun b=>S b∨N≤b) W2 W'∧J N (k+1) W')∨(e = .returned (.bool false)∧Only (fun b=>S b∨N≤b∨b=l) W2 W'∧Jx N W')) →
  (∀ W1,Only Nay W W1→J W1.heap.size 0 W1) →
  CallsIn Fence.wide 0 P gf (#[.func (.yield l) #[] #[]] ++ lb) W fun e W'=>(∃ v,e = .returned v)∧∃ N,W.heap.size≤N∧(J N 16 W'∨Jx N W')
def rfPost (S:Nat→Prop) (N:Nat) (J:World→Prop) (Jx:Code→World→Prop) (W:World):Exit→Act→World→Prop
 | .normal,_,W'=>Only (fun b=>S b∨N≤b) W W'∧J W'
 | .ret,_,W'=>Only (fun b=>S b∨N≤b) W W'∧Jx .ret W'
 | .exit id,_,W'=>Only (fun b=>S b∨N≤b) W W'∧Jx (.exit id) W'
 | .goto t,_,W'=>Only (fun b=>S b∨N≤b) W W'∧Jx (.goto t) W'
 | .panic _,_,_=>False
 | .outgrown,_,_=>False
theorem rf_law {P:Program} {g:Operand} {ps:Array Tmp} {assign body:Code} {Q:Exit→Act→World→Prop} {a:Act} {w:World}
    {gf:Nat} {lb:Array Value} {See:Nat→Nat→World→Option Value→Prop} (hg:a.eval g = .func (.func gf) #[] lb) (eg:∀ args w,(callFunc gf args).run P w = .ok (.enter gf args) w)
    (hit:∀ W,Only Nay w W→w.heap.size≤W.heap.size→IterOK P gf lb See W) (hps:1=ps.size)
    (S:Nat→Prop) (J:Nat→Nat→World→Prop) (Jx:Nat→Code→World→Prop)
    (hJ:∀ N k A B,J N k A→Only (Mine w.heap.size N) A B→J N k B) (hJx:∀ N c A B,Jx N c A→Only (Mine w.heap.size N) A B→Jx N c B) (hS:∀ b,S b→b<w.heap.size)
    (h0:∀ W1,Only Nay w W1→J W1.heap.size 0 W1)
    (a₁:Value→Act)
    (hassign:∀ (l:Nat) (v:Value) (W:World) (K:Act→World→Prop),K (a₁ v) W →
      assign.wpIn (Fence.wide.inRound l) 0 P (Exit.then K (fun _ _ _=>False)) { tmps:=(ps.zip #[v]).foldl (fun t (p,v)=>t.setIfInBounds p v) a.tmps,defers:=[] } W)
    (hround:∀ (N k:Nat) (W:World),w.heap.size+2≤N→k<16→J N k W→(See N k W none∧J N (k+1) W)∨∃ v,See N k W (some v) ∧
      ∀ (l:Nat) (W1:World),Only (Mine w.heap.size N) W W1→body.wpIn (Fence.wide.inRound l) 0 P (rfPost S N (J N (k+1)) (Jx N) W1) (a₁ v) W1)
    (hdone:∀ (D N:Nat) (W:World),w.heap.size≤D→D+2≤N→J N 16 W→W.heap[D]?=some (.deferred (some []))→Q .normal { a with defers:={ target:=.collected D,args:=#[] } :: a.defers } W)
    (hstop:∀ (D N:Nat) (c:Code) (W:World),w.heap.size≤D→D+2≤N→Jx N c W→W.heap[D]?=some (.deferred (some []))→c.wpIn Fence.wide 0 P Q { a with defers:={ target:=.collected D,args:=#[] } :: a.defers } W) :
    (Code.rangeFunc g ps assign body).wpIn Fence.wide 0 P Q a w:=by
  refine wpIn_rangeFunc ?_;intro fn hfn
  obtain ⟨rec,hrec⟩:∃ rec:LoopState→Option Code→Loop,rec=fun st pe=>{ state:=st,pending:=pe,fn,tmps:=a.tmps,params:=ps,assign,body,defers:=w.heap.size }:=⟨_,rfl⟩
  obtain ⟨W1,hW1⟩:∃ W1,(w.alloc (.deferred (some []))).alloc (.loop (rec .ready none))=W1:=⟨_,rfl⟩
  have hsz1:W1.heap.size=w.heap.size+2:=by rw [← hW1]; simp
  have hid1:Only Nay w W1:=by rw [← hW1]; exact ((Only.refl Nay w).alloc _).alloc _
  have hL1:W1.heap[w.heap.size+1]?=some (.loop (rec .ready none)):=by
    rw [← hW1]; have:=World.alloc_heap_new (w.alloc (.deferred (some []))) (.loop (rec .ready none)); rwa [World.size_alloc] at this
  have hK1:W1.heap[w.heap.size]?=some (.deferred (some [])):=by
    rw [← hW1]; exact (Below.heap_alloc _ _ _ (by simp)).trans (World.alloc_heap_new w _)
  refine ⟨w.heap.size+1,[{ target:=.collected w.heap.size,args:=#[] }],W1,{ target:=.fn (.func gf) lb,args:=#[.func (.yield (w.heap.size+1)) #[] #[]] },W1,gf,
    #[.func (.yield (w.heap.size+1)) #[] #[]] ++ lb,W1,?_,?_,?_,?_,(fun h=>by cases h),?_⟩
  · rw [← hW1,hrec]; exact run_enterLoop_outer _ _ _ _ _
  · simp only [resolve,hg]
    simp [go_sem]
  · intro f' hf'; trivial
  · simp [invoke,go_sem,eg]
  · have hidl:∀ {N:Nat} {A B:World},Only (Mine W1.heap.size N) A B→Only (Mine w.heap.size N) A B:=fun h=>h.mono fun x _ hx=>⟨by have:=hx.1; omega,hx.2⟩
    have hnm:∀ {N:Nat} {x:Nat},x<w.heap.size+2→¬ Mine W1.heap.size N x:=fun hx h=>by have:=h.1; omega
    refine (hit W1 hid1 (by omega) (w.heap.size+1) S
      (fun N k W=>J N k W∧W.heap[w.heap.size+1]?=some (.loop (rec .ready none))∧W.heap[w.heap.size]?=some (.deferred (some [])))
      (fun N W=>∃ c,Jx N c W∧W.heap[w.heap.size+1]?=some (.loop (rec .done (some c)))∧W.heap[w.heap.size]?=some (.deferred (some [])))
      (fun N k A B hs hi=>⟨hJ N k A B hs.1 (hidl hi),hi.keepObj (hnm (by omega)) hs.2.1,hi.keepObj (hnm (by omega)) hs.2.2⟩)
      (fun N A B hs hi=>by
        obtain ⟨c,hc,hl,hk⟩:=hs
        exact ⟨c,hJx N c A B hc (hidl hi),hi.keepObj (hnm (by omega)) hl,hi.keepObj (hnm (by omega)) hk⟩)
      (fun b hb=>by have:=hS b hb; omega) (by omega)
      ?_ (fun W2 hi=>⟨h0 W2 (hid1.trans hi),hi.keepObj (fun h=>h) hL1,hi.keepObj (fun h=>h) hK1⟩)).mono ?_
    · rintro N k W0 hN hk16 ⟨hj,hl0,hk0⟩
      rcases hround N k W0 (by omega) hk16 hj with ⟨h1,h2⟩ | ⟨v,h1,hbody⟩
      · exact .inl ⟨h1,h2,hl0,hk0⟩
      refine .inr ⟨v,h1,fun W hi0=>?_⟩;have hl:=hi0.keepObj (hnm (by omega)) hl0;have hk:=hi0.keepObj (hnm (by omega)) hk0;have hlt:w.heap.size+1<W.heap.size:=(Array.getElem?_eq_some_iff.1 hl).1;have hy:=run_yield (P:=P) (args:=#[v]) hl (by rw [hrec]; exact hps);rw [hrec] at hy;refine ⟨fn,_,assign,body,hy,roundIn_of_wpIn hfn (hassign _ v W _ ⟨_,run_beginRound hl (by rw [hrec]),?_⟩)⟩;have hp2:Only (Mine w.heap.size N) W (W.putObj (w.heap.size+1) (.loop { rec .ready none with state:=.busy })):=only_putObj _ ⟨by omega,by omega⟩;have hl2:(W.putObj (w.heap.size+1) (.loop { rec .ready none with state:=.busy })).heap[w.heap.size+1]?=some (.loop { rec .ready none with state:=.busy }):=World.putObj_heap_same hlt;have hk2:(W.putObj (w.heap.size+1) (.loop { rec .ready none with state:=.busy })).heap[w.heap.size]?=some (.deferred (some [])):=(World.putObj_heap_other (by omega)).trans hk;refine wpIn_mono (hbody _ _ ((hidl hi0).trans hp2)) ?_
      have fin:∀ (jump:Option Code) (W3:World),Only (fun b=>S b∨N≤b) (W.putObj (w.heap.size+1) (.loop { rec .ready none with state:=.busy })) W3 →
          (Instr.endRound (w.heap.size+1) jump).run P W3 = .ok (.bool jump.isNone) (W3.putObj (w.heap.size+1) (.loop (rec (if jump.isNone then .ready else .done) jump))) ∧
          W3.heap[w.heap.size+1]?=some (.loop { rec .ready none with state:=.busy }) ∧
          (W3.putObj (w.heap.size+1) (.loop (rec (if jump.isNone then .ready else .done) jump))).heap[w.heap.size+1]?=some (.loop (rec (if jump.isNone then .ready else .done) jump)) ∧
          (W3.putObj (w.heap.size+1) (.loop (rec (if jump.isNone then .ready else .done) jump))).heap[w.heap.size]?=some (.deferred (some [])) ∧
          (jump=none→Only (fun b=>S b∨N≤b) W (W3.putObj (w.heap.size+1) (.loop (rec .ready none)))) ∧
          Only (fun b=>S b∨N≤b∨b=w.heap.size+1) W (W3.putObj (w.heap.size+1) (.loop (rec (if jump.isNone then .ready else .done) jump))):=fun jump W3 hk3=>by
        have hns:∀ b,b<w.heap.size+2→w.heap.size≤b→¬ (S b∨N≤b):=fun b h1 h2 h3=>by
          rcases h3 with h3 | h3
          · have:=hS b h3; omega
          · omega
        have hl3:=(hk3.block (w.heap.size+1) (by simp; omega) (hns _ (by omega) (by omega))).trans hl2;have hk4:=(hk3.block w.heap.size (by simp; omega) (hns _ (by omega) (by omega))).trans hk2;have:=run_endRound (P:=P) jump hl3;rw [hrec] at this;refine ⟨by rw [hrec]; exact this,hl3,World.putObj_heap_same (Array.getElem?_eq_some_iff.1 hl3).1,(World.putObj_heap_other (by omega)).trans hk4,fun _=>?_,?_⟩
        rotate_left
        · refine ⟨hk3.os,hk3.tape,hk3.output,Nat.le_trans (by simp) (Nat.le_trans hk3.size (by simp)),fun i hi hs=>?_⟩
          have e:i≠w.heap.size+1:=fun e=>hs (.inr (.inr e))
          rw [World.putObj_heap_other e,hk3.block i (by simpa using hi) (fun h=>hs (h.imp id .inl)),World.putObj_heap_other e]
        refine ⟨hk3.os,hk3.tape,hk3.output,Nat.le_trans (by simp) (Nat.le_trans hk3.size (by simp)),fun i hi hs=>?_⟩
        by_cases e:i=w.heap.size+1
        · subst e
          rw [World.putObj_heap_same (Array.getElem?_eq_some_iff.1 hl3).1,hl]
        · rw [World.putObj_heap_other e,hk3.block i (by simpa using hi) hs,World.putObj_heap_other e]
      rintro e a3 W3 hp
      cases e with
      | normal =>
        obtain ⟨hk3,hi3⟩:=hp;obtain ⟨hr,hl3,hl4,hk4,ho,_⟩:=fin none W3 hk3;exact ⟨_,_,hr,.inl ⟨rfl,ho rfl,hJ _ _ _ _ hi3 (only_putObj _ ⟨by omega,by omega⟩),hl4,hk4⟩⟩
      | ret =>
        obtain ⟨hk3,hi3⟩:=hp;obtain ⟨hr,hl3,hl4,hk4,_,ho⟩:=fin (some .ret) W3 hk3;exact ⟨_,_,hr,.inr ⟨rfl,ho,.ret,hJx _ _ _ _ hi3 (only_putObj _ ⟨by omega,by omega⟩),hl4,hk4⟩⟩
      | exit id =>
        obtain ⟨hk3,hi3⟩:=hp;obtain ⟨hr,hl3,hl4,hk4,_,ho⟩:=fin (some (.exit id)) W3 hk3;exact ⟨_,_,hr,.inr ⟨rfl,ho,(.exit id),hJx _ _ _ _ hi3 (only_putObj _ ⟨by omega,by omega⟩),hl4,hk4⟩⟩
      | goto t =>
        obtain ⟨hk3,hi3⟩:=hp;obtain ⟨hr,hl3,hl4,hk4,_,ho⟩:=fin (some (.goto t)) W3 hk3;exact ⟨_,_,hr,.inr ⟨rfl,ho,(.goto t),hJx _ _ _ _ hi3 (only_putObj _ ⟨by omega,by omega⟩),hl4,hk4⟩⟩
      | panic ch=>exact hp.elim
      | outgrown=>exact hp.elim
    · rintro e W2 ⟨⟨v,rfl⟩,N,hN,(⟨hi,hl,hk⟩ | ⟨c,hi,hl,hk⟩)⟩
      · exact ⟨none,_,by have:=run_endLoop (P:=P) hl (by rw [hrec]; simp); rw [hrec] at this; exact this,hdone _ N _ (Nat.le_refl _) (by omega) (hJ _ _ _ _ hi (only_putObj _ ⟨by omega,by omega⟩)) ((World.putObj_heap_other (by omega)).trans hk)⟩
      · exact ⟨some c,_,by have:=run_endLoop (P:=P) hl (by rw [hrec]; simp); rw [hrec] at this; exact this,hstop _ N c _ (Nat.le_refl _) (by omega) (hJx _ _ _ _ hi (only_putObj _ ⟨by omega,by omega⟩)) ((World.putObj_heap_other (by omega)).trans hk)⟩
end
end Go.Proofs.YtdpagmcickkbmaaGreatDoor
