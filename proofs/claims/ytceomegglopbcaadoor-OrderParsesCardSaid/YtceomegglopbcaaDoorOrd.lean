/- The library's table, out of what the row lists; a command that comes in by value. -/
import Derived.Test.YtceomegglopbcaaDoorOrh
import Derived.Test.YtceomegglopbcaaDoorInb
import Derived.LaidMore
import Derived.OpenShut
import Derived.Stop.Joined
import Derived.Stop.LaidErr
import Derived.Lib.LaidTab
import Derived.Lib.SmallJoins
import Derived.SevenTiedAt
import Derived.Test.YtceomegglopbcaaDoorCards
import Derived.Test.YtceomegglopbcaaDoorTie
namespace Go.Proofs.YtceomegglopbcaaDoor
open Go.ChangeShapes Go.WideShapes Go.ChangeAt Go.RowKit Go.Deep
open Dgs Orm

/-- the listed variables -/
def laidL : List (String × DataW Unit) := Rows.orderTextsRow.laid

theorem door_met (os : Os) (args : Array Value) : laidMetH Tryd.prog laidL ((World.doorLaid Tryd.prog 400 os).forCall (fun _ _ => 0) ⟨#[], args, []⟩).memory :=
  laidMetH_of_parts3 (fuel := 8) (laidMet_of_run' 8 (by kernel_rfl) (by kernel_rfl)) (by kernel_rfl) (by kernel_rfl)

theorem tab_same : (Rows.laid_internal_strconv_uint64pow10 : DataW Unit) = Lib.tabData .u64 Lib.pow10Tab := by kernel_rfl

/-- an array of strings that reads as these texts holds them, cell for cell -/
theorem cells_of_strs {H : Type} {enc : TypeId × Value → H} {P : Program} {w : World} {base : Nat} {sp : Nat → Bool} {held : Bool} {fuel : Nat} {t e : TypeId} {n : Nat} {cs : List Value} {ts : List (List UInt8)} {p : List MemPlace}
    (ht : P.underlying t = some (.array n e)) (he : P.underlying e = some .string) (hce : P.cellsOf e = 1) (hct : P.cellsOf t = n)
    (h : DataW.trod enc P w base sp held fuel t cs = some (.agg (ts.map fun t => .lit (.string t)), p)) (i : Nat) (x : List UInt8) (hi : ts[i]? = some x) : ∃ s : ByteArray, cs[i]? = some (.string s) ∧ s.data.toList = x := by
  cases fuel with
  | zero => simp [DataW.trod] at h
  | succ fuel =>
    simp only [DataW.trod, ht, hce, hct, Nat.mul_one] at h
    split at h
    · obtain ⟨xs, hm, hx⟩ := Option.map_eq_some_iff.1 h
      have hxs : xs.map (·.1) = ts.map fun t => (DataW.lit (.string t) : DataW H) := by
        have := congrArg Prod.fst hx
        simpa using this
      have hl : ts.length = n := by
        have h1 := congrArg List.length hxs
        have h2 := Lib.mapM_length hm
        simp at h1 h2
        omega
      have hin : i < n := by
        rcases Nat.lt_or_ge i ts.length with h' | h'
        · omega
        · rw [List.getElem?_eq_none h'] at hi; cases hi
      obtain ⟨b, hb, hf⟩ := Lib.mapM_at hm i i (by simp [hin])
      obtain ⟨s, hc, rfl, _⟩ := DataW.trod_string he hf
      refine ⟨s, ?_, ?_⟩
      · have := congrArg (·[0]?) hc
        simpa [List.getElem?_take, List.getElem?_drop] using this
      · have h2 : (xs.map (·.1))[i]? = some (DataW.lit (.string s.data.toList) : DataW H) := by simp [hb]
        rw [hxs] at h2
        simpa [hi] using h2.symm
    · cases h

/-- the words as the row lists them -/
def wordsL : List (List UInt8) := [bl (wd 0), bl (wd 1), bl (wd 2), bl (wd 3), bl (wd 4), bl (wd 5), bl (wd 6), bl (wd 7), bl (wd 8), bl (wd 9), bl (wd 10), bl (wd 11)]

theorem words_same : (Rows.laid_kibitzer_order_words : DataW Unit) = .agg (wordsL.map fun t => .lit (.string t)) := by kernel_rfl

theorem str_eq_of {s : ByteArray} {l : Bs} (h : s.data.toList = bl l) : s = str l := by
  have e : s.data.toList = (str l).data.toList := by rw [h, bl_str]
  exact ByteArray.ext (Array.toList_inj.1 e)

theorem words_of {W : World} {rest : List (String × DataW Unit)} (h : laidMet Tryd.prog (("kibitzer/order.words", .agg (wordsL.map fun t => .lit (.string t))) :: rest) W) (k : Nat) (hk : k < 12) :
    W.cell? ⟨0, k, none⟩ = some (.string (str (wd k))) := by
  obtain ⟨ps, ⟨g', t', cs, fuel, p, q, hg', ht', hvar, hd, _, _⟩, _⟩ := h
  have hg : Tryd.prog.globalNamed "kibitzer/order.words" = some 0 := by kernel_rfl
  have hty : (Tryd.prog.globals[0]?).map (·.type) = some 38 := by kernel_rfl
  obtain rfl := Option.some.inj (hg.symm.trans hg')
  obtain rfl := Option.some.inj (hty.symm.trans ht')
  have hw : wordsL[k]? = some (bl (wd k)) := by
    rcases (show k = 0 ∨ k = 1 ∨ k = 2 ∨ k = 3 ∨ k = 4 ∨ k = 5 ∨ k = 6 ∨ k = 7 ∨ k = 8 ∨ k = 9 ∨ k = 10 ∨ k = 11 by omega) with rfl | rfl | rfl | rfl | rfl | rfl | rfl | rfl | rfl | rfl | rfl | rfl <;> rfl
  obtain ⟨s, hs, e⟩ := cells_of_strs (n := 12) (e := 9) Tryd.underlying38 Tryd.underlying9 (by kernel_rfl) (by kernel_rfl) hd k _ hw
  have hc := World.var?_cell hg hvar k
  rw [hc, ← str_eq_of e]
  simpa using hs

theorem star : "*" ++ "errors.errorString" = "*errors.errorString" := by decide

/-- the one type of that name -/
theorem sent_row (u : TypeId) (h : Tryd.prog.typeName? 3 u = some "*errors.errorString") : u = 80 :=
  typeName_ptr_named (nm := "errors.errorString") (by rw [star]; kernel_rfl) (by kernel_rfl) (by decide) u (by rw [star]; exact h)

theorem ti_of {W : World} (h : laidMetH Tryd.prog laidL W) : TI W := by
  rw [MakeChecks.laidMetH_plain _ _ _ (by kernel_rfl)] at h
  have h3 : laidMet Tryd.prog [("internal/strconv.uint64pow10", Lib.tabData .u64 Lib.pow10Tab), ("strconv.ErrRange", Rows.laid_strconv_ErrRange), ("strconv.ErrSyntax", Rows.laid_strconv_ErrSyntax), ("kibitzer/order.words", Rows.laid_kibitzer_order_words)] W := by
    have h4 := h.tail.tail
    rwa [← tab_same]
  refine ⟨Lib.tabIs_of_head (g := 1) (t := 65) (e := 49) (n := 20) (by kernel_rfl) (by kernel_rfl) Tryd.underlying65 Tryd.underlying49 (by kernel_rfl) (by kernel_rfl) h3, ?_, ?_, ?_⟩
  · have h4 := h3.tail.tail.tail
    rw [words_same] at h4
    exact words_of h4
  · obtain ⟨a, s, hv, _⟩ := laid_sentinel (g := 3) h3.tail.tail (by kernel_rfl) (by kernel_rfl) Tryd.underlying43 sent_row Tryd.underlying80 Tryd.underlying82 rfl rfl Tryd.underlying9 (by kernel_rfl) (by kernel_rfl)
    exact ⟨_, _, hv⟩
  · obtain ⟨a, s, hv, _⟩ := laid_sentinel (g := 4) h3.tail (by kernel_rfl) (by kernel_rfl) Tryd.underlying43 sent_row Tryd.underlying80 Tryd.underlying82 rfl rfl Tryd.underlying9 (by kernel_rfl) (by kernel_rfl)
    exact ⟨_, _, hv⟩

section
variable {H : Type} {enc : TypeId × Value → H} {W : World} {held : Bool}

theorem open_order {b0 : Nat} {v : Value} {d : DataW H} {p : List MemPlace} (hval : Value.okWide Tryd.prog W .any b0 24 v) (h : DataW.Trod enc Tryd.prog W 0 (fun _ => true) held 24 v d p) :
    ∃ (k n : Int), v = .agg #[.int .i64 k, .int .i64 n] ∧ ((Lit.int .i64 k).wf = true ∧ (Lit.int .i64 n).wf = true) := by
  obtain ⟨v0, v1, y0, y1, m, rfl, rfl, _, h0, h1⟩ := Joins.open_agg2 Tryd.underlying24 (by kernel_rfl) (by kernel_rfl) hval h
  obtain ⟨k, e0, _, wk⟩ := DataW.trod_int Tryd.underlying22 h0
  obtain ⟨n, e1, _, wn⟩ := DataW.trod_int Tryd.underlying2 h1
  simp only [List.cons.injEq, and_true] at e0 e1
  subst e0 e1
  exact ⟨k, n, rfl, wk, wn⟩
end

end Go.Proofs.YtceomegglopbcaaDoor
