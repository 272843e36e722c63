/- PRq -/
import Derived.OrdersHeld
import Derived.Test.YtdpagmcickkbmaaGreatDoorZd24
namespace Go.Proofs.YtdpagmcickkbmaaGreatDoor
set_option maxRecDepth 100000
section
open Go.RowKit
section
variable {F:Fence} {n:Nat} {P:Program} {ops:Array Oper} {Q:Exit→Act→World→Prop} {l:Nat}
theorem wpAny_round (hro:F.round=none) (hs:∀ (i:Nat) (o:Oper),ops[i]?=some o→∀ ρ,Oper.semAt (some l) ρ o=Oper.semAt none ρ o) {md:Region.Mode} :
    ∀ (fuel:Nat) (listed:Array Bool) (a:Act) (w:World),wpAnyIn F n P md ops Q fuel listed a w→wpAnyIn (F.inRound l) n P md ops Q fuel listed a w
  | 0,_,_,_,h=>h
  | fuel+1,listed,a,w,h=>by
    refine ⟨h.1,fun i hi=>?_⟩;have h2:=h.2 i hi;unfold wpOpIn at h2 ⊢
    rcases ho:ops[i]? with _ | o
    · rw [ho] at h2
      exact wpAny_round hro hs fuel _ a w h2
    · rw [ho] at h2
      dsimp only at h2 ⊢
      split
      · next hw =>
        rw [if_pos hw] at h2;unfold Oper.wpIn at h2 ⊢;refine ⟨h2.1,?_⟩;have h3:=h2.2;rw [hro] at h3;rw [show (F.inRound l).round=some l from rfl,hs i o ho];generalize (Oper.semAt none a.eval o).run P w=r at h3 ⊢
        rcases r with ⟨x,w'⟩ | ⟨x,w'⟩
        · cases x <;> simp only [Oper.uponIn] at h3 ⊢ <;> first
            | exact wpAny_round hro hs fuel _ _ _ h3
            | exact ⟨h3.1,CallsIn.mono (CallsIn.inRound l h3.2) fun e w'' he=>by cases e <;> first | exact wpAny_round hro hs fuel _ _ _ he | exact he⟩
            | exact ⟨h3.1,RowsIn.mono h3.2 fun _ _ he=>wpAny_round hro hs fuel _ _ _ he⟩
            | exact ⟨h3.1,RoundIn.mono (F:=F.inRound l) h3.2 fun e w'' he=>by cases e <;> first | exact wpAny_round hro hs fuel _ _ _ he | exact he⟩
        · cases x <;> simp only [Oper.uponIn] at h3 ⊢ <;> exact h3
      · next hw =>
        rw [if_neg hw] at h2;exact ⟨h2.1,wpAny_round hro hs fuel _ _ _ h2.2⟩
def noDefer (o:Oper):Bool:=match o.op with | .defer _=>false | _=>true
theorem noDefer_sem {o:Oper} (h:noDefer o=true) (l:Nat) (ρ:Operand→Value):Oper.semAt (some l) ρ o=Oper.semAt none ρ o:=by
 rw [Oper.semAt_none]
 refine Oper.semAt_eq _ _ _ fun c hc=>?_
 unfold noDefer at h;rw [hc] at h;cases h
theorem wp_quiet_round {id:Nat} {a:Act} {w:World} {ol:List Oper} (hro:F.round=none) (hm:P.follows .mixedOrders=true) (hB:Region.lexB .any ol.toArray=true)
  (hs:ol.all noDefer=true)
  (h:wpQuietIn F n P ol.toArray (fun w'=>∃ n,w'=w.drewN n) (fun a'=>∀ w',(∃ n,w'=w.drewN n)→Q .normal a' w') ol a):(Code.region id ol.toArray true).wpIn (F.inRound l) n P Q a w:=by
 simp only [Region.lexB,Bool.and_eq_true] at hB;refine wpIn_region_any hm (wpAny_round hro (fun i o ho ρ=>noDefer_sem (List.all_eq_true.1 hs o (List.mem_of_getElem? (by simpa using ho))) l ρ) _ _ _ _ ?_);refine wpAnyIn_of_quiet (C:=fun w'=>∃ n,w'=w.drewN n) (Q:=fun a'=>∀ w',(∃ n,w'=w.drewN n)→Q .normal a' w') hro (fun _ w' hw' h=>h w' hw') _ _ _ _ ⟨1,rfl⟩ ?_;have:=wpAnyQIn_lex (F:=F) (n:=n) (C:=fun w'=>∃ n,w'=w.drewN n) (md:=.any) hB.1 ol 0 (Array.replicate ol.length false) a (by simp) (by simpa using hB.2) h
 simpa using this
theorem exec_append {o:Oper} {ρ:Operand→Value} {w w':World} {s x:Operand} {st:TypeId} {v1 v2 v:Value} (ho:o.op = .call { callee:=.builtin .append,args:=#[s,x],argTypes:=#[st,st] })
  (hs:ρ s=v1) (hx:ρ x=v2) (hrun:(Builtin.append_ #[st,st] o.type #[v1,v2]).run P w = .ok v w'):(execOp ρ o).run P w = .ok (.value v) w':=by
 unfold execOp;simp only [ho,resolve,invoke,builtin,Sem.run_bind,Sem.run_pure,Result.andThen_ok,List.map_toArray,List.map_cons,List.map_nil,hs,hx,hrun]
end
theorem rowsIn_of_rows {P:Program} {n:Nat} {row:String} {args:Array Value} {w:World} {R:Value→World→Prop} (h:Rows P row args w R):RowsIn Fence.wide n P row args w R:=
 fun c cs _=>let ⟨v,w',r,s⟩:=h c cs; ⟨v,w',r,stepsIn_wide.2 s⟩
theorem wpAny_wide {P:Program} {ops:Array Oper} {Q:Exit→Act→World→Prop} {md:Region.Mode} (hno:¬ LetsOut Q) :
    ∀ (fuel:Nat) (listed:Array Bool) (a:Act) (w:World),wpAny P md ops Q fuel listed a w→wpAnyIn Fence.wide 0 P md ops Q fuel listed a w
  | 0,_,_,_,h=>h
  | fuel+1,listed,a,w,h=>by
    refine ⟨h.1,fun i hi=>?_⟩;have h2:=h.2 i hi;unfold wpOp at h2;unfold wpOpIn
    rcases ho:ops[i]? with _ | o
    · rw [ho] at h2
      exact wpAny_wide hno fuel _ a w h2
    · rw [ho] at h2
      dsimp only at h2 ⊢
      split
      · next hw =>
        rw [if_pos hw] at h2
        rcases h2 with h2 | h2
        · unfold Oper.wp at h2
          unfold Oper.wpIn;refine ⟨fun _ _=>trivial,?_⟩;rw [show Fence.wide.round=none from rfl,Oper.semAt_none];generalize (execOp a.eval o).run P w=r at h2
          rcases r with ⟨x,w'⟩ | ⟨x,w'⟩
          · cases x <;> simp only [Oper.upon] at h2 <;> simp only [Oper.uponIn] <;> first
              | exact wpAny_wide hno fuel _ _ _ h2
              | exact ⟨fun h=>(by cases h),CallsIn.mono (callsIn_wide.2 h2) fun e w'' he=>by cases e <;> first | exact wpAny_wide hno fuel _ _ _ he | exact he⟩
              | exact ⟨fun h=>(by cases h),RowsIn.mono (rowsIn_of_rows h2) fun _ _ he=>wpAny_wide hno fuel _ _ _ he⟩
          · cases x <;> simp only [Oper.upon] at h2 <;> simp only [Oper.uponIn] <;> exact h2
        · exact absurd h2.2 hno
      · next hw =>
        rw [if_neg hw] at h2;exact ⟨fun _ _=>trivial,wpAny_wide hno fuel _ _ _ h2⟩
theorem wp_any_round {P:Program} {Q:Exit→Act→World→Prop} {l id:Nat} {a:Act} {w:World} {ol:List Oper} (hno:¬ LetsOut Q) (hm:P.follows .mixedOrders=true) (hs:ol.all noDefer=true)
  (h:wpAny P .any ol.toArray Q ol.toArray.size (Array.replicate ol.toArray.size false) a w.drew):(Code.region id ol.toArray true).wpIn (Fence.wide.inRound l) 0 P Q a w:=
 wpIn_region_any hm (wpAny_round rfl (fun i o ho ρ=>noDefer_sem (List.all_eq_true.1 hs o (List.mem_of_getElem? (by simpa using ho))) l ρ) _ _ _ _ (wpAny_wide hno _ _ _ _ h))
theorem wp_calls_round {P:Program} {Q:Exit→Act→World→Prop} {l id:Nat} {a:Act} {w:World} {ol:List Oper} (hno:¬ LetsOut Q) (hm:P.follows .mixedOrders=true) (hB:Region.lexB .any ol.toArray=true) (hs:ol.all noDefer=true)
  (h:wpQuiet P ol.toArray (fun w'=>∃ n,w'=w.drewN n) (fun a'=>∀ w',(∃ n,w'=w.drewN n)→Q .normal a' w') ol a):(Code.region id ol.toArray true).wpIn (Fence.wide.inRound l) 0 P Q a w:=by
 simp only [Region.lexB,Bool.and_eq_true] at hB;refine wp_any_round hno hm hs (wpAny_of_quiet (C:=fun w'=>∃ n,w'=w.drewN n) (Q:=fun a'=>∀ w',(∃ n,w'=w.drewN n)→Q .normal a' w') (fun _ w' hw' h=>h w' hw') _ _ _ _ ⟨1,rfl⟩ ?_);have:=wpAnyQ_lex (C:=fun w'=>∃ n,w'=w.drewN n) (md:=.any) hB.1 ol 0 (Array.replicate ol.length false) a (by simp) (by simpa using hB.2) h
 simpa using this
theorem wp_held_round {P:Program} {Q:Exit→Act→World→Prop} {l id:Nat} {a:Act} {w:World} {ol:List Oper} (S:World→Prop) (hno:¬ LetsOut Q) (hm:P.follows .mixedOrders=true) (hs:ol.all noDefer=true)
  (h:wpAnyH P .any ol.toArray Q S ol.toArray.size (Array.replicate ol.toArray.size false) a w.drew):(Code.region id ol.toArray true).wpIn (Fence.wide.inRound l) 0 P Q a w:=
 wp_any_round hno hm hs (wpAny_of_held _ _ _ _ h)
end
end Go.Proofs.YtdpagmcickkbmaaGreatDoor
