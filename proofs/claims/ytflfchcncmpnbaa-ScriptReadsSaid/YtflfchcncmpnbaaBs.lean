/- Any string is bytes. -/
import Derived.Test.YtflfchcncmpnbaaBase
namespace Go.Proofs.Ytflfchcncmpnbaa
open Go.RowKit

/-- any string is bytes -/
def bsOf (s : ByteArray) : Bs := s.data.toList.map fun c => c.toBitVec

theorem str_bsOf (s : ByteArray) : str (bsOf s) = s := by
  unfold str bsOf
  rw [List.map_map]
  show (⟨(List.map id s.data.toList).toArray⟩ : ByteArray) = s
  simp

theorem bsOf_len (s : ByteArray) : (bsOf s).length = s.size := by
  have := str_size (bsOf s)
  rw [str_bsOf] at this
  omega

theorem as_str (s : ByteArray) (h : s.size ≤ maxLen) : ∃ t : Bs, s = str t ∧ t.length ≤ maxLen := ⟨bsOf s, (str_bsOf s).symm, by rw [bsOf_len]; exact h⟩

theorem s_at (l : Bs) (j : Nat) (h : j < (str l).size) : ((str l)[j]'h).toNat = (l[j]?.getD 0#8).toNat := by
  have hl : j < l.length := by rw [str_size] at h; exact h
  rw [List.getElem?_eq_getElem hl]
  show ((str l).data[j]'h).toNat = _
  simp [str]

theorem s_cut (l : Bs) (i j : Nat) : (str l).extract i j = str ((l.take j).drop i) := by
  unfold str
  apply ByteArray.ext
  rw [ByteArray.data_extract]
  apply Array.toList_inj.1
  simp [List.map_take, List.map_drop, List.drop_take]

theorem s_nil : (⟨#[]⟩ : ByteArray).toList = [] := by
  rw [show (⟨#[]⟩ : ByteArray) = ByteArray.empty from rfl]
  simp

end Go.Proofs.Ytflfchcncmpnbaa
