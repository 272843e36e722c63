/- POrd PYl PDr -/
import Derived.LaidMore
import Derived.Stop.LaidErr
import Derived.Test.YtecjpkjbgknnnaaGreatDoorCards
import Derived.Test.YtecjpkjbgknnnaaGreatDoorTie
import Derived.Test.YtecjpkjbgknnnaaGreatDoorZd36
import Derived.Test.YtecjpkjbgknnnaaGreatDoorZd38
namespace Go.Proofs.YtecjpkjbgknnnaaGreatDoor
set_option maxRecDepth 100000
section
open Go.ChangeShapes Go.WideShapes Go.ChangeAt Go.RowKit Go.Deep
open Dgs Orm
def laidL:List (String×DataW Unit):=Rows.tellMessagesRow.laid
theorem door_met (os:Os) (args:Array Value):laidMetH Tryz.prog laidL ((World.doorLaid Tryz.prog 400 os).forCall (fun _ _=>0) ⟨#[],args,[]⟩).memory:=
 laidMetH_of_parts3 (fuel:=8) (laidMet_of_run' 8 (by kernel_rfl) (by kernel_rfl)) (by kernel_rfl) (by kernel_rfl)
theorem tab_same:(Rows.laid_internal_strconv_uint64pow10:DataW Unit)=Lib.tabData .u64 Lib.pow10Tab:=by kernel_rfl
theorem cells_of_strs {H:Type} {enc:TypeId×Value→H} {P:Program} {w:World} {base:Nat} {sp:Nat→Bool} {held:Bool} {fuel:Nat} {t e:TypeId} {n:Nat} {cs:List Value} {ts:List (List UInt8)} {p:List MemPlace}
    (ht:P.underlying t=some (.array n e)) (he:P.underlying e=some .string) (hce:P.cellsOf e=1) (hct:P.cellsOf t=n)
    (h:DataW.trod enc P w base sp held fuel t cs=some (.agg (ts.map fun t=>.lit (.string t)),p)) (i:Nat) (x:List UInt8) (hi:ts[i]?=some x):∃ s:ByteArray,cs[i]?=some (.string s)∧s.data.toList=x:=by
  cases fuel with
  | zero=>simp [DataW.trod] at h
  | succ fuel =>
    simp only [DataW.trod,ht,hce,hct,Nat.mul_one] at h
    split at h
    · obtain ⟨xs,hm,hx⟩:=Option.map_eq_some_iff.1 h
      have hxs:xs.map (·.1)=ts.map fun t=>(DataW.lit (.string t):DataW H):=by
        have:=congrArg Prod.fst hx
        simpa using this
      have hl:ts.length=n:=by
        have h1:=congrArg List.length hxs;have h2:=Lib.mapM_length hm;simp at h1 h2;omega
      have hin:i<n:=by
        rcases Nat.lt_or_ge i ts.length with h' | h'
        · omega
        · rw [List.getElem?_eq_none h'] at hi; cases hi
      obtain ⟨b,hb,hf⟩:=Lib.mapM_at hm i i (by simp [hin]);obtain ⟨s,hc,rfl,_⟩:=DataW.trod_string he hf;refine ⟨s,?_,?_⟩
      · have:=congrArg (·[0]?) hc
        simpa [List.getElem?_take,List.getElem?_drop] using this
      · have h2:(xs.map (·.1))[i]?=some (DataW.lit (.string s.data.toList):DataW H):=by simp [hb]
        rw [hxs] at h2
        simpa [hi] using h2.symm
    · cases h
def wordsL:List (List UInt8):=[bl (wd 0),bl (wd 1),bl (wd 2),bl (wd 3),bl (wd 4),bl (wd 5),bl (wd 6),bl (wd 7),bl (wd 8),bl (wd 9),bl (wd 10),bl (wd 11)]
theorem words_same:(Rows.laid_kibitzer_order_words:DataW Unit) = .agg (wordsL.map fun t=>.lit (.string t)):=by kernel_rfl
theorem str_eq_of {s:ByteArray} {l:Bs} (h:s.data.toList=bl l):s=str l:=by
 have e:s.data.toList=(str l).data.toList:=by rw [h,bl_str]
 exact ByteArray.ext (Array.toList_inj.1 e)
theorem words_of {W:World} {rest:List (String×DataW Unit)} (h:laidMet Tryz.prog (("kibitzer/order.words",.agg (wordsL.map fun t=>.lit (.string t))) :: rest) W) (k:Nat) (hk:k<12) :
  W.cell? ⟨5,k,none⟩=some (.string (str (wd k))):=by
 obtain ⟨ps,⟨g',t',cs,fuel,p,q,hg',ht',hvar,hd,_,_⟩,_⟩:=h
 have hg:Tryz.prog.globalNamed "kibitzer/order.words" = some 5:=by kernel_rfl
 have hty:(Tryz.prog.globals[5]?).map (·.type)=some 250:=by kernel_rfl
 obtain rfl:=Option.some.inj (hg.symm.trans hg');obtain rfl:=Option.some.inj (hty.symm.trans ht')
 have hw:wordsL[k]?=some (bl (wd k)):=by
  rcases (show k=0∨k=1∨k=2∨k=3∨k=4∨k=5∨k=6∨k=7∨k=8∨k=9∨k=10∨k=11 by omega) with rfl | rfl | rfl | rfl | rfl | rfl | rfl | rfl | rfl | rfl | rfl | rfl <;> rfl
 obtain ⟨s,hs,e⟩:=cells_of_strs (n:=12) (e:=9) Tryz.underlying250 Tryz.underlying9 (by kernel_rfl) (by kernel_rfl) hd k _ hw;have hc:=World.var?_cell hg hvar k;rw [hc,← str_eq_of e]
 simpa using hs
theorem star : "*" ++ "errors.errorString" = "*errors.errorString" := by decide
theorem sent_row (u:TypeId) (h:Tryz.prog.typeName? 3 u=some "*errors.errorString"):u=283:=
 typeName_ptr_named (nm := "errors.errorString") (by rw [star]; kernel_rfl) (by kernel_rfl) (by decide) u (by rw [star]; exact h)
theorem ti_of {W:World} (h:laidMetH Tryz.prog laidL W):TI W:=by
 rw [MakeChecks.laidMetH_plain _ _ _ (by kernel_rfl)] at h
 have h3:laidMet Tryz.prog [("internal/strconv.uint64pow10",Lib.tabData .u64 Lib.pow10Tab),("strconv.ErrRange",Rows.laid_strconv_ErrRange),("strconv.ErrSyntax",Rows.laid_strconv_ErrSyntax),("kibitzer/order.words",Rows.laid_kibitzer_order_words),("kibitzer/tell.words",Rows.laid_kibitzer_tell_words)] W:=by
  have h4:=h.tail.tail
  rwa [← tab_same]
 refine ⟨Lib.tabIs_of_head (g:=1) (t:=145) (e:=83) (n:=20) (by kernel_rfl) (by kernel_rfl) Tryz.underlying145 Tryz.underlying83 (by kernel_rfl) (by kernel_rfl) h3,?_,?_,?_⟩
 ·have h4:=h3.tail.tail.tail
  rw [words_same] at h4;exact words_of h4
 ·obtain ⟨a,s,hv,_⟩:=laid_sentinel (g:=6) h3.tail.tail (by kernel_rfl) (by kernel_rfl) Tryz.underlying93 sent_row Tryz.underlying283 Tryz.underlying285 rfl rfl Tryz.underlying9 (by kernel_rfl) (by kernel_rfl)
  exact ⟨_,_,hv⟩
 ·obtain ⟨a,s,hv,_⟩:=laid_sentinel (g:=7) h3.tail (by kernel_rfl) (by kernel_rfl) Tryz.underlying93 sent_row Tryz.underlying283 Tryz.underlying285 rfl rfl Tryz.underlying9 (by kernel_rfl) (by kernel_rfl)
  exact ⟨_,_,hv⟩
end
section
open Go.ChangeShapes Go.WideShapes Go.ChangeAt Go.RowKit Go.Deep
open Tl
def twordsL:List (List UInt8):=[bl (wk 0),bl (wk 1),bl (wk 2),bl (wk 3),bl (wk 4),bl (wk 5),bl (wk 6),bl (wk 7),bl (wk 8),bl (wk 9),bl (wk 10),bl (wk 11),bl (wk 12),bl (wk 13),bl (wk 14),bl (wk 15)]
theorem twords_same:(Rows.laid_kibitzer_tell_words:DataW Unit) = .agg (twordsL.map fun t=>.lit (.string t)):=by kernel_rfl
theorem twords_of {W:World} {rest:List (String×DataW Unit)} (h:laidMet Tryz.prog (("kibitzer/tell.words",.agg (twordsL.map fun t=>.lit (.string t))) :: rest) W) (k:Nat) (hk:k<16) :
  W.cell? ⟨0,k,none⟩=some (.string (str (wk k))):=by
 obtain ⟨ps,⟨g',t',cs,fuel,p,q,hg',ht',hvar,hd,_,_⟩,_⟩:=h
 have hg:Tryz.prog.globalNamed "kibitzer/tell.words" = some 0:=by kernel_rfl
 have hty:(Tryz.prog.globals[0]?).map (·.type)=some 44:=by kernel_rfl
 obtain rfl:=Option.some.inj (hg.symm.trans hg');obtain rfl:=Option.some.inj (hty.symm.trans ht')
 have hw:twordsL[k]?=some (bl (wk k)):=by
  rcases (show k=0∨k=1∨k=2∨k=3∨k=4∨k=5∨k=6∨k=7∨k=8∨k=9∨k=10∨k=11∨k=12∨k=13∨k=14∨k=15 by omega) with rfl | rfl | rfl | rfl | rfl | rfl | rfl | rfl | rfl | rfl | rfl | rfl | rfl | rfl | rfl | rfl <;> rfl
 obtain ⟨s,hs,e⟩:=cells_of_strs (n:=16) (e:=9) Tryz.underlying44 Tryz.underlying9 (by kernel_rfl) (by kernel_rfl) hd k _ hw;have hc:=World.var?_cell hg hvar k;rw [hc,← str_eq_of e]
 simpa using hs
theorem tw_of {W:World} (h:laidMetH Tryz.prog laidL W):TW W:=by
 have ht:=ti_of h;rw [MakeChecks.laidMetH_plain _ _ _ (by kernel_rfl)] at h;refine ⟨ht,fun k hk=>twords_of (rest:=[]) ?_ k hk⟩;have h4:laidMet Tryz.prog [("kibitzer/tell.words",Rows.laid_kibitzer_tell_words)] W:=h.tail.tail.tail.tail.tail.tail
 rwa [twords_same] at h4
end
section
open Go.ChangeShapes Go.WideShapes Go.ChangeAt Go.RowKit
def kindsAre (P:Program) (c:OpenClaim) (fn:Func):Bool:=
 c.kinds == (if c.domain.isEmpty then [] else fn.params.toList.map fun t=>match P.underlying t with | some (.int k)=>some k | _=>none)
theorem and_t {a b:Bool} (h:a=true) (h2:b=true):(a && b)=true:=by rw [h,h2]; rfl
theorem joined_of {P:Program} {f:FuncId} {fn:Func} {s:ChangeSpec} {c:OpenClaim}
  (h0:(c.wf (OpenSpec.ofChange s))=true)
  (h1:(laidOutB P)=true)
  (h2:(mapsRowed P)=true)
  (h3:(fn.params.all (P.readableRec ·))=true)
  (h4:(namedTie P c.named s.vars)=true)
  (h5:((c.stops == []))=true)
  (h6:((P.stops == []))=true)
  (h7:((c.knobs == []))=true)
  (h8:((P.stopKnobs == []))=true)
  (h9:((c.inPlace == P.inPlace f))=true)
  (h10:((c.unfollowed == P.unfollowed f))=true)
  (h11:((c.recurses == P.recurses f))=true)
  (h12:((c.named == P.varsNamed f))=true)
  (h13:((c.maps == (fn.params.toList ++ s.plain.varTypes P).any (P.mapsRec ·)))=true)
  (h14:((c.ifaces == (fn.params.toList ++ s.plain.varTypes P).any (P.ifacesRec ·)))=true)
  (h15:((c.mapsOut == P.mapsAmong fn.resultTypes.toList))=true)
  (h16:((c.loops == (fn.params.toList ++ s.plain.varTypes P).any (P.loopsFrom ·)))=true)
  (h17:((c.wideKeys == (fn.params.toList ++ s.plain.varTypes P ++ fn.resultTypes.toList).any (P.wideKeysFrom ·)))=true)
  (h18:(s.vars.all (P.varReadable ·))=true)
  (h19:(fn.resultTypes.all (fun t=>P.readableRec t && decide (t<P.types.size)))=true)
  (h20:((c.ifacesOut == fn.resultTypes.toList.any (P.ifacesRec ·)))=true)
  (h21:((c.loopsOut == fn.resultTypes.toList.any (P.loopsFrom ·)))=true)
  (h22:((c.plainKeys == P.plainKeys))=true)
  (h23:(c.shortTexts.isNone)=true)
  (h24:(P.stopsHeard)=true)
  (h25:(P.mayEnter)=true)
  (h26:((c.lifted == P.liftsFinal))=true)
  (h27:((P.make == some c.make))=true)
  (h28:kindsAre P c fn=true)
  (h29:((c.pinned == c.pinnedBy))=true)
  (h30:((c.veiled == (fn.params.toList ++ s.plain.varTypes P ++ fn.resultTypes.toList).any (P.veiledRec ·)))=true)
  (h31:(c.veiledFits P fn.params.toList (fn.params.toList ++ s.plain.varTypes P ++ fn.resultTypes.toList))=true)
  : joinedFacts P f fn s c=true:=by
 unfold joinedFacts;exact and_t (and_t (and_t (and_t (and_t (and_t (and_t (and_t (and_t (and_t (and_t (and_t (and_t (and_t (and_t (and_t (and_t (and_t (and_t (and_t (and_t (and_t (and_t (and_t (and_t (and_t (and_t (and_t (and_t (and_t (and_t (h0) h1) h2) h3) h4) h5) h6) h7) h8) h9) h10) h11) h12) h13) h14) h15) h16) h17) h18) h19) h20) h21) h22) h23) h24) h25) h26) h27) h28) h29) h30) h31
theorem pq1:(laidOutB Tryz.prog)=true:=by kernel_rfl
theorem pq2:(mapsRowed Tryz.prog)=true:=by kernel_rfl
theorem pq6:((Tryz.prog.stops == []))=true:=by kernel_rfl
theorem pq8:((Tryz.prog.stopKnobs == []))=true:=by kernel_rfl
theorem pq22:((Rows.tellMessagesRow.plainKeys == Tryz.prog.plainKeys))=true:=by kernel_rfl
theorem pq24:(Tryz.prog.stopsHeard)=true:=by kernel_rfl
theorem pq25:(Tryz.prog.mayEnter)=true:=by kernel_rfl
theorem pq26:((Rows.tellMessagesRow.lifted == Tryz.prog.liftsFinal))=true:=by kernel_rfl
theorem pq27:((Tryz.prog.make == some Rows.tellMessagesRow.make))=true:=by kernel_rfl
theorem door_vars (os:Os) (args:Array Value):((World.doorLaid Tryz.prog 400 os).forCall (fun _ _=>0) ⟨#[],args,[]⟩).variablesRefB Tryz.prog=true:=by kernel_rfl
theorem door_rest (os:Os) (args:Array Value):(((World.doorLaid Tryz.prog 400 os).forCall (fun _ _=>0) ⟨#[],args,[]⟩).heap.toList.drop Tryz.prog.globals.size).take ((begin Tryz.prog (fun _ _=>0) default).world.heap.size - Tryz.prog.globals.size) =
   (begin Tryz.prog (fun _ _=>0) default).world.heap.toList.drop Tryz.prog.globals.size:=by kernel_rfl
theorem door_shaped (os:Os) (args:Array Value):((World.doorLaid Tryz.prog 400 os).forCall (fun _ _=>0) ⟨#[],args,[]⟩).Shaped Tryz.prog:=World.shaped_of_RefB (door_vars os args) (door_rest os args)
theorem main_is:Tryz.prog.mainIs=some (true, "a7439786251b14c09543386bd06be0f4e8167e463cd614c7d0d9c4c5ac3871a5".toList):=by kernel_rfl
end
end Go.Proofs.YtecjpkjbgknnnaaGreatDoor
