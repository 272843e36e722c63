/- PMm POu -/
import Derived.Maps.AppendAt
import Derived.ArgAppend
import Derived.Test.YtdiolacpngbalaaGreatDoorZd05
import Derived.Test.YtdiolacpngbalaaGreatDoorZd06
import Derived.Test.YtdiolacpngbalaaGreatDoorZd09
import Derived.Test.YtdiolacpngbalaaGreatDoorZd15

section
namespace Go.Proofs.YtdiolacpngbalaaGreatDoor
open Go.RowKit
open Bk (M)
def msc (e : M) : List Value:=[.int .i64 e.k,.int .i64 e.a,.int .i64 e.b,.string (str e.t)]
def mscells (L : List M) : List Value:=L.flatMap msc
structure MsgIn (w : World) (B : Nat) (a : Option Addr) (L : List M) : Prop where
  outer : 0 < L.length→∃ b off,a = some ⟨b,off,none⟩∧b < B∧∀ r e,L[r]? = some e→w.cell? ⟨b,off + r * 4,none⟩ = some (.int .i64 e.k)∧w.cell? ⟨b,off + r * 4 + 1,none⟩ = some (.int .i64 e.a)∧w.cell? ⟨b,off + r * 4 + 2,none⟩ = some (.int .i64 e.b)∧w.cell? ⟨b,off + r * 4 + 3,none⟩ = some (.string (str e.t))
  inner : ∀ e∈L,e.t.length≤maxLen
section
variable {w w' : World} {B : Nat} {a : Option Addr} {L : List M}
end
structure MsgRow (base : Nat) (w : World) (a : Option Addr) (n c : Nat) (L : List M) : Prop where
  row : w.ownsRow base 103 4 (.slice a n c) n (mscells L)
  cap : n≤c
  inner : ∀ e∈L,e.t.length≤maxLen
theorem own_belowk {base e k n : Nat} {v : Value} {xs : List Value} {w w' : World} (h : w.ownsRow base e k v n xs) (hb : Below w.heap.size w w') : w'.ownsRow base e k v n xs:=by
  refine ⟨h.1,?_⟩
  rcases h.2 with h1 | ⟨g,cap,cur,h1,h2,h3,h4⟩
  · exact .inl h1
  · refine .inr ⟨g,cap,cur,h1,h2,?_,h4⟩
    have hlt : g < w.heap.size:=by
      rcases Nat.lt_or_ge g w.heap.size with h' | h'
      · exact h'
      · rw [Array.getElem?_eq_none h'] at h3; cases h3
    exact (hb.block g hlt).trans h3
section
variable {base n c : Nat} {w w' : World} {a : Option Addr} {L : List M}
end
def mvalo : Option Bk.M→Value
  | some m=>.agg #[.int .i64 m.k,.int .i64 m.a,.int .i64 m.b,.string (str m.t)]
  | none=>.agg #[.int .i64 0,.int .i64 0,.int .i64 0,.string ByteArray.empty]
theorem of_mof {f : BitVec 8×Fr.Bs} {e : Ending} (h : OfPost f.1.toNat f.2 e) : e = .returned (.tuple #[mvalo (Bk.mof f),.bool (Bk.mof f).isSome]):=by
  unfold Bk.mof
  rcases ho : Ms.ofOk f.1.toNat f.2 with _ | _
  · exact h.2 ho
  · exact h.1 ho
end Go.Proofs.YtdiolacpngbalaaGreatDoor
end

section
namespace Go.Proofs.YtdiolacpngbalaaGreatDoor
open Go.RowKit
structure Ot where
  e : Nat
  t : Bs
deriving DecidableEq
def otc (x : Ot) : List Value:=[.int .i64 (x.e : Nat),.string (str x.t)]
def ocells (L : List Ot) : List Value:=L.flatMap otc
theorem ocells_len (L : List Ot) : (ocells L).length = L.length * 2:=by
  induction L with
  | nil=>rfl
  | cons e L ih=>simp [ocells,otc] at ih ⊢; omega
theorem ocells_app (L M : List Ot) : ocells (L ++ M) = ocells L ++ ocells M:=by simp [ocells]
theorem ocells_get : ∀ (L : List Ot) (r : Nat) (x : Ot),L[r]? = some x→(ocells L)[r * 2]? = some (.int .i64 (x.e : Nat))∧(ocells L)[r * 2 + 1]? = some (.string (str x.t))
  | [],r,x,h=>by simp at h
  | y :: L,0,x,h=>by
    simp at h
    subst h
    exact ⟨rfl,rfl⟩
  | y :: L,r + 1,x,h=>by
    have:=ocells_get L r x (by simpa using h)
    rw [show (r + 1) * 2 = r * 2 + 2 by omega]
    exact this
theorem ocells_one (L : List Ot) : ∀ u∈ocells L,u.oneCell' = true:=by
  intro u hu
  unfold ocells at hu
  rw [List.mem_flatMap] at hu
  obtain ⟨e,_,he⟩:=hu
  simp [otc] at he
  rcases he with rfl | rfl <;> rfl
def OtIn (w : World) (B : Nat) (a : Option Addr) (L : List Ot) : Prop:=
  0 < L.length→∃ b off,a = some ⟨b,off,none⟩∧b < B∧∀ r x,L[r]? = some x→w.cell? ⟨b,off + r * 2,none⟩ = some (.int .i64 (x.e : Nat))∧w.cell? ⟨b,off + r * 2 + 1,none⟩ = some (.string (str x.t))
theorem OtIn.below {w w' : World} {B : Nat} {a : Option Addr} {L : List Ot} (h : OtIn w B a L) (hb : Below B w w') : OtIn w' B a L:=fun hn=>by
  obtain ⟨b,off,e,hlt,hc⟩:=h hn
  exact ⟨b,off,e,hlt,fun r m hr=>⟨(hb.cell (p:=⟨b,off + r * 2,none⟩) hlt).trans (hc r m hr).1,(hb.cell (p:=⟨b,off + r * 2 + 1,none⟩) hlt).trans (hc r m hr).2⟩⟩
theorem OtIn.src {w : World} {B : Nat} {a : Option Addr} {L : List Ot} (h : OtIn w B a L) (hn : 0 < L.length) : ∃ ad,a = some ad∧ad.block < B∧∀ j u,(ocells L)[j]? = some u→w.cell? (ad.add j) = some u:=by
  obtain ⟨b,off,rfl,hlt,hc⟩:=h hn
  refine ⟨_,rfl,hlt,fun j u hu=>?_⟩
  have hj : j < L.length * 2:=by
    rcases Nat.lt_or_ge j (ocells L).length with h' | h'
    · rw [ocells_len] at h'; exact h'
    · rw [List.getElem?_eq_none h'] at hu; cases hu
  have hr : j / 2 < L.length:=by omega
  obtain ⟨g0,g1⟩:=ocells_get L (j / 2) _ (List.getElem?_eq_getElem hr)
  obtain ⟨c0,c1⟩:=hc (j / 2) _ (List.getElem?_eq_getElem hr)
  rw [add_none]
  rcases (show j = j / 2 * 2∨j = j / 2 * 2 + 1 by omega) with hq | hq
  · rw [hq] at hu ⊢; rw [g0] at hu; rw [← hu]; exact c0
  · rw [hq] at hu ⊢; rw [g1] at hu; rw [← hu,← Nat.add_assoc]; exact c1
structure OtRow (base : Nat) (w : World) (a : Option Addr) (n c : Nat) (L : List Ot) : Prop where
  row : w.ownsRow base 35 2 (.slice a n c) n (ocells L)
  cap : n≤c
section
variable {base n c : Nat} {w w' : World} {a : Option Addr} {L : List Ot}
theorem OtRow.len (h : OtRow base w a n c L) : L.length = n:=by
  have:=h.row.1
  rw [ocells_len] at this
  omega
theorem OtRow.below (h : OtRow base w a n c L) (hb : Below w.heap.size w w') : OtRow base w' a n c L:=⟨own_belowk h.row hb,h.cap⟩
theorem OtRow.only {S : Nat→Prop} (h : OtRow base w a n c L) (hO : Only S w w') (ha : ∀ p,a = some p→¬ S p.block) : OtRow base w' a n c L:=by
  refine ⟨⟨h.row.1,?_⟩,h.cap⟩
  rcases h.row.2 with h0 | ⟨g,cap,cur,e,h1,h2,h3⟩
  · exact .inl h0
  · refine .inr ⟨g,cap,cur,e,h1,?_,h3⟩
    have hlt : g < w.heap.size:=by
      rcases Nat.lt_or_ge g w.heap.size with h' | h'
      · exact h'
      · rw [Array.getElem?_eq_none h'] at h2; cases h2
    have e2 : a = some ⟨g,0,none⟩:=by injection e
    exact (hO.block g hlt (ha _ e2)).trans h2
theorem OtRow.lt (h : OtRow base w a n c L) {p : Addr} (hp : a = some p) : base≤p.block∧p.block < w.heap.size:=h.row.lt p.block (by subst hp; rfl)
theorem OtRow.nil (base : Nat) (w : World) : OtRow base w none 0 0 []:=⟨⟨rfl,.inl ⟨rfl,rfl⟩⟩,Nat.le_refl _⟩
theorem OtRow.otin (h : OtRow base w a n c L) : OtIn w w.heap.size a L:=fun hn=>by
  obtain ⟨g,cap,hv,h1,h2⟩:=h.row.form (by have:=h.len; omega)
  injection hv with hv
  subst hv
  refine ⟨g,0,rfl,h2,fun r e hr=>?_⟩
  obtain ⟨h3,h4⟩:=ocells_get L r e hr
  have c3:=h.row.cells (g:=g) rfl _ _ h3
  have c4:=h.row.cells (g:=g) rfl _ _ h4
  rw [add_none] at c3 c4
  exact ⟨c3,by rw [Nat.add_assoc]; exact c4⟩
end
theorem ot_info : ∃ i,Tryz.prog.info? 35 = some i∧i.zero = some (.agg #[.int .i64 0,.string ⟨#[]⟩])∧i.size = 2∧i.bytes = 24:=info_parts (by kernel_rfl)
set_option maxRecDepth 100000 in
theorem run_oapp (ty : TypeId) {base n c : Nat} {w : World} {a : Option Addr} {L : List Ot} (h : OtRow base w a n c L) {B : Nat} {A : Option Addr} {m c2 : Nat} {M : List Ot} (hs : OtIn w B A M) (hm : M.length = m)
    (hroom : n + m≤3000000000000) (hbase : base≤w.heap.size) :
    ∃ A2 c3 w',(Builtin.append_ #[30,30] ty #[.slice a n c,.slice A m c2]).run Tryz.prog w = .ok (.slice A2 (n + m) c3) w'∧OtRow base w' A2 (n + m) c3 (L ++ M)∧Only (In a) w w'∧∀ p,A2 = some p→In a p.block∨w.heap.size≤p.block:=by
  obtain ⟨i0,hi0,hi1,hi2,hi3⟩:=ot_info
  by_cases h0 : m = 0
  · subst h0
    have hM : M = []:=List.eq_nil_of_length_eq_zero hm
    subst hM
    refine ⟨a,c,w,?_,by simpa using h,Only.refl _ w,fun p hp=>.inl ⟨p,hp,rfl⟩⟩
    have hcap:=h.cap
    refine run_append_nothing w 30 30 ty 35 i0 Tryz.underlying30 hi0 a n c hcap _ ?_
    rcases A with _ | ad
    · exact Src.ofNil w Tryz.underlying30 c2
    · exact Src.ofSlice w Tryz.underlying30 ad 0 c2 [] (by simp) (by intro j u hu; simp at hu) (by intro u hu; cases hu)
  · obtain ⟨ad,rfl,_,hc⟩:=hs.src (by omega)
    obtain ⟨v',w',hrun,h1,h2,_,h9⟩:=run_append_own_at (P:=Tryz.prog) (w:=w) base 30 ty 35 i0 _ 2 24 Tryz.underlying30 hi0 hi1 hi2 hi3 rfl (by omega) (.slice a n c) n (ocells L) h.row ad m c2 (ocells M)
      (by rw [ocells_len,hm]) hc (ocells_one M) (by unfold maxLen; omega) (by omega) hbase
    have hform : ∃ A2 c3,v' = .slice A2 (n + m) c3∧n + m≤c3:=by
      rcases h1.2 with ⟨rfl,h0⟩ | ⟨g,cap,cur,rfl,_,_,h5,_⟩
      · omega
      · exact ⟨_,cap,rfl,h5⟩
    obtain ⟨A2,c3,rfl,hc3⟩:=hform
    refine ⟨A2,c3,w',hrun,⟨by rw [ocells_app]; exact h1,hc3⟩,Only.grown h2 fun k hk _=>?_,fun p hp=>?_⟩
    · rcases a with _ | p
      · cases hk
      · exact ⟨p,rfl,by injection hk⟩
    · subst hp
      rcases h9 with h9 | h9
      · rcases a with _ | q
        · cases h9
        · exact .inl ⟨q,rfl,by injection h9 with h9; exact h9.symm⟩
      · exact .inr (by injection h9 with h9; exact Nat.le_of_eq h9.symm)
theorem wpList_oapp {w : World} {ops : Array Oper} {rest : List Oper} {o : Oper} {act : Act} {Q : Exit→Act→World→Prop} (hgd : o.guard = none) (s x : Operand)
    (hop : o.op = .call { callee:=.builtin .append,args:=#[s,x],argTypes:=#[30,30] })
    {base n c : Nat} {a : Option Addr} {L : List Ot} (hv : act.eval s = .slice a n c) (h : OtRow base w a n c L) {B : Nat} {A : Option Addr} {m c2 : Nat} {M : List Ot} (hx : act.eval x = .slice A m c2) (hs : OtIn w B A M) (hm : M.length = m)
    (hroom : n + m≤3000000000000) (hbase : base≤w.heap.size)
    (hk : ∀ A2 c3 w',OtRow base w' A2 (n + m) c3 (L ++ M)→Only (In a) w w'→(∀ p,A2 = some p→In a p.block∨w.heap.size≤p.block)→wpList Tryz.prog ops Q rest (act.put o.dst (.slice A2 (n + m) c3)) w') :
    wpList Tryz.prog ops Q (o :: rest) act w:=by
  obtain ⟨A2,c3,w',hrun,h1,h2,h3⟩:=run_oapp o.type h (c2:=c2) hs hm hroom hbase
  refine wpList_plain hgd fun K hK=>?_
  unfold Oper.wp execOp
  simp only [hop,resolve,invoke,builtin,Sem.run_bind,Sem.run_pure,Result.andThen_ok,List.map_toArray,List.map_cons,List.map_nil,hv,hx,hrun]
  exact hK _ _ (hk A2 c3 w' h1 h2 h3)
theorem ot_one (w : World) (x : Ot) (t : TypeId) : OtIn (w.alloc (.cells #[.int .i64 (x.e : Nat),.string (str x.t)] t)) (w.heap.size + 1) (some ⟨w.heap.size,0,none⟩) [x]:=fun _=>by
  refine ⟨w.heap.size,0,rfl,by omega,fun r y hr=>?_⟩
  have h:=Bx.new w _ rfl #[.int .i64 (x.e : Nat),.string (str x.t)] t
  rcases r with _ | r
  · simp at hr
    subst hr
    exact ⟨h.cell 0 _ rfl,h.cell 1 _ rfl⟩
  · simp at hr
end Go.Proofs.YtdiolacpngbalaaGreatDoor
end
