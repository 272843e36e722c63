/- A message that comes in by value; a frame that comes in by value. -/
import Derived.Test.YtbnpamhmippdbaaInb
import Derived.Lib.SmallJoins
namespace Go.Proofs.Ytbnpamhmippdbaa
open Go.ChangeShapes Go.WideShapes Go.ChangeAt Go.RowKit Go.Deep

/-- any string is bytes -/
def bsOf (s : ByteArray) : Bs := s.data.toList.map fun c => c.toBitVec

theorem str_bsOf (s : ByteArray) : str (bsOf s) = s := by
  unfold str bsOf
  rw [List.map_map]
  show (⟨(List.map id s.data.toList).toArray⟩ : ByteArray) = s
  simp

section
variable {H : Type} {enc : TypeId × Value → H} {W : World} {held : Bool}

theorem open_msg {b0 : Nat} {v : Value} {d : DataW H} {p : List MemPlace} (hval : Value.okWide Try.prog W .any b0 24 v) (h : DataW.Trod enc Try.prog W 0 (fun _ => true) held 24 v d p) :
    ∃ (k a b : Int) (t : Bs), v = .agg #[.int .i64 k, .int .i64 a, .int .i64 b, .string (str t)] ∧ ((Lit.int .i64 k).wf = true ∧ (Lit.int .i64 a).wf = true ∧ (Lit.int .i64 b).wf = true ∧ t.length ≤ maxLen) := by
  obtain ⟨v0, v1, v2, v3, y0, y1, y2, y3, n, rfl, _, _, h0, h1, h2, h3⟩ := Joins.open_agg4 Try.underlying24 (by kernel_rfl) (by kernel_rfl) hval h
  obtain ⟨k, e0, _, wk⟩ := DataW.trod_int Try.underlying22 h0
  obtain ⟨a, e1, _, wa⟩ := DataW.trod_int Try.underlying2 h1
  obtain ⟨b, e2, _, wb⟩ := DataW.trod_int Try.underlying2 h2
  obtain ⟨s, e3, _, hs⟩ := DataW.trod_string Try.underlying9 h3
  simp only [List.cons.injEq, and_true] at e0 e1 e2 e3
  subst e0 e1 e2 e3
  refine ⟨k, a, b, bsOf s, by rw [str_bsOf], wk, wa, wb, ?_⟩
  have := str_size (bsOf s)
  rw [str_bsOf] at this
  omega

theorem open_frame {b0 : Nat} {v : Value} {d : DataW H} {p : List MemPlace} (hval : Value.okWide Try.prog W .any b0 31 v) (h : DataW.Trod enc Try.prog W 0 (fun _ => true) held 31 v d p) (hf : Fits 31 d) :
    ∃ (K : BitVec 8) (a : Option Addr) (n c : Nat) (l : Bs), v = .agg #[.int .u8 K.toNat, .slice a n c] ∧ Bytes W W.heap.size a n l ∧ (n ≤ c ∧ c ≤ most) := by
  obtain ⟨v0, v1, y0, y1, n, rfl, rfl, _, h0, h1⟩ := Joins.open_agg2 Try.underlying31 (by kernel_rfl) (by kernel_rfl) hval h
  obtain ⟨k, e0, _, wk⟩ := DataW.trod_int Try.underlying5 h0
  simp only [List.cons.injEq, and_true] at e0
  obtain ⟨K, rfl⟩ := u8_wf wk
  subst e0
  obtain ⟨y, rfl, hb, hl, hm⟩ := open_bytes h1 (fits_agg Try.underlying31 hf 1 _ rfl y1.1 rfl)
  exact ⟨K, y.1, y.2.1, y.2.2.1, y.2.2.2, rfl, hb, hl, hm⟩

end

end Go.Proofs.Ytbnpamhmippdbaa
