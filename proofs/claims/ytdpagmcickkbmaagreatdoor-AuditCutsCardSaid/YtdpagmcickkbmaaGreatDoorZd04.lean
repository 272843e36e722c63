/- PRg -/
import Derived.Laws.CopyOwn
namespace Go.Proofs.YtdpagmcickkbmaaGreatDoor
set_option maxRecDepth 100000
section
namespace Rg
abbrev Bs:=List (BitVec 8)
def Inv (room:Nat) (c:Bs) (L:Bs):Prop:=
 c.length=room∧∀ i,i<L.length→L.length≤i+room→c[i % room]?=L[i]?
def at2 (room p:Nat) (b:Bs):Nat:=min (room - p) b.length
def put (room p:Nat) (c b:Bs):Bs:=splice (splice c p (b.take (at2 room p b))) 0 (b.drop (at2 room p b))
theorem splice_get (L:Bs) (off:Nat) (cs:Bs) (h:off+cs.length≤L.length) (q:Nat) :
  (splice L off cs)[q]?=if off≤q∧q<off+cs.length then cs[q - off]? else L[q]?:=by
 unfold splice
 by_cases h1:q<off
 ·rw [List.getElem?_append_left (by simp; omega),List.getElem?_take,if_pos h1,if_neg (by omega)]
 ·rw [List.getElem?_append_right (by simp; omega),List.length_take,Nat.min_eq_left (by omega)]
  by_cases h2:q - off<cs.length
  ·rw [List.getElem?_append_left h2,if_pos ⟨by omega,by omega⟩]
  ·rw [List.getElem?_append_right (by omega),List.getElem?_drop,if_neg (by omega)]
   congr 1
   omega
theorem splice_len (L:Bs) (off:Nat) (cs:Bs) (h:off+cs.length≤L.length):(splice L off cs).length=L.length:=length_splice L off cs h
theorem put_len (room p:Nat) (c b:Bs) (hc:c.length=room) (hp:p<room) (hb:b.length≤room):(put room p c b).length=room:=by
 unfold put at2
 have h1:p+(b.take (min (room - p) b.length)).length≤c.length:=by simp; omega
 rw [splice_len _ _ _ (by rw [splice_len _ _ _ h1]; simp; omega),splice_len _ _ _ h1,hc]
theorem put_get (room p:Nat) (c b:Bs) (hc:c.length=room) (hp:p<room) (hb:b.length≤room) (q:Nat) (hq:q<room) :
  (put room p c b)[q]?=if q<p then (if q+room<p+b.length then b[q+room - p]? else c[q]?) else (if q<p+b.length then b[q - p]? else c[q]?):=by
 unfold put at2
 have h1:p+(b.take (min (room - p) b.length)).length≤c.length:=by simp; omega
 rw [splice_get _ _ _ (by rw [splice_len _ _ _ h1]; simp; omega),splice_get _ _ _ h1];simp only [List.length_drop,List.length_take]
 by_cases h2:q<p
 ·rw [if_pos h2]
  by_cases h3:q+room<p+b.length
  ·rw [if_pos h3,if_pos (by omega),List.getElem?_drop]
   congr 1
   omega
  ·rw [if_neg h3,if_neg (by omega),if_neg (by omega)]
 ·rw [if_neg h2]
  by_cases h3:q<p+b.length
  ·rw [if_pos h3,if_neg (by omega),if_pos (by omega),List.getElem?_take,if_pos (by omega)]
  ·rw [if_neg h3,if_neg (by omega),if_neg (by omega)]
theorem inv_put (room:Nat) (hr:0<room) (c L b:Bs) (g:Nat) (hI:Inv room c L) (hg:g+b.length≤room∨b.length=room) (G:Bs) (hG:G.length=g) (h0:g=0∨b.length=room) :
  Inv room (put room ((L.length+g) % room) c b) (L ++ (G ++ b)):=by
 have hb:b.length≤room:=by omega
 have hp:=Nat.mod_lt (L.length+g) hr;refine ⟨put_len _ _ _ _ hI.1 hp hb,?_⟩;intro i hi hl;simp only [List.length_append] at hi hl;have hq:=Nat.mod_lt i hr;rw [put_get _ _ _ _ hI.1 hp hb _ hq];have d1:=Nat.div_add_mod (L.length+g) room;have d2:=Nat.div_add_mod i room;generalize hP:(L.length+g) % room=P at *;generalize hQ:i % room=Q at *;generalize (L.length+g) / room=k at *;generalize i / room=j at *
 by_cases hold:i<L.length+g
 ·
  have hg0:g=0:=by omega
  subst hg0;have hnil:G=[]:=List.eq_nil_of_length_eq_zero hG;subst hnil
  have hkj:j=k∨j+1=k:=by
   rcases Nat.lt_trichotomy j k with h | h | h
   ·right
    rcases Nat.lt_or_ge (j+1) k with h' | h'
    ·have:(j+2) * room≤k * room:=Nat.mul_le_mul_right _ h'
     rw [Nat.mul_comm room k,Nat.mul_comm room j] at *
     have e:(j+2) * room=j * room+room+room:=by rw [Nat.add_mul]; omega
     omega
    ·omega
   ·exact .inl h
   ·have:(k+1) * room≤j * room:=Nat.mul_le_mul_right _ h
    rw [Nat.mul_comm room k,Nat.mul_comm room j] at *;rw [Nat.add_mul] at this;omega
  have hcv:c[Q]?=L[i]?:=by
   have:=hI.2 i (by omega) (by omega);rw [hQ] at this;exact this
  rw [List.getElem?_append_left (by omega),← hcv]
  rcases hkj with h | h
  ·subst h
   rw [if_pos (by omega),if_neg (by omega)]
  ·subst h
   rw [Nat.mul_add] at d1;rw [if_neg (by omega),if_neg (by omega)]
 ·
  have hkj:j=k∨j=k+1:=by
   rcases Nat.lt_trichotomy j k with h | h | h
   ·have:(j+1) * room≤k * room:=Nat.mul_le_mul_right _ h
    rw [Nat.mul_comm room k,Nat.mul_comm room j] at *;rw [Nat.add_mul] at this;omega
   ·exact .inl h
   ·right
    rcases Nat.lt_or_ge (k+1) j with h' | h'
    ·have:(k+2) * room≤j * room:=Nat.mul_le_mul_right _ h'
     rw [Nat.mul_comm room k,Nat.mul_comm room j] at *
     have e:(k+2) * room=k * room+room+room:=by rw [Nat.add_mul]; omega
     omega
    ·omega
  rw [List.getElem?_append_right (by omega),List.getElem?_append_right (by omega)]
  rcases hkj with h | h
  ·subst h
   rw [if_neg (by omega),if_pos (by omega)]
   congr 1
   omega
  ·subst h
   rw [Nat.mul_add] at d2;rw [if_pos (by omega),if_pos (by omega)]
   congr 1
   omega
theorem inv_init (room:Nat) (c:Bs) (hc:c.length=room):Inv room c []:=⟨hc,fun i hi=>absurd hi (by simp)⟩
theorem inv_append (room:Nat) (hr:0<room) (c L b:Bs) (hI:Inv room c L) :
  Inv room (put room ((L.length+(b.length - room)) % room) c (b.drop (b.length - room))) (L ++ b):=by
 have h:=inv_put room hr c L (b.drop (b.length - room)) (b.length - room) hI (by simp; omega) (b.take (b.length - room)) (by simp) (by simp; omega)
 rwa [List.take_append_drop] at h
def readOf (room off count:Nat) (c z:Bs):Bs:=
 splice (splice z 0 ((c.drop (off % room)).take (min count (room - off % room)))) (min count (room - off % room)) (c.take (count - min count (room - off % room)))
theorem read_eq (room:Nat) (hr:0<room) (c L:Bs) (hI:Inv room c L) (off count:Nat) (hb:L.length≤off+room) (hc:off+count≤L.length) (z:Bs) (hz:z.length=count) :
  readOf room off count c z=(L.drop off).take count:=by
 have hp:=Nat.mod_lt off hr;have hcl:=hI.1;unfold readOf
 have h1:0+((c.drop (off % room)).take (min count (room - off % room))).length≤z.length:=by simp; omega
 apply List.ext_getElem?
 intro q;rw [splice_get _ _ _ (by rw [splice_len _ _ _ h1]; simp; omega),splice_get _ _ _ h1];simp only [List.length_take,List.length_drop]
 by_cases hq:q<count
 ·have hR:(List.take count (List.drop off L))[q]?=L[off+q]?:=by rw [List.getElem?_take,if_pos hq,List.getElem?_drop]
  rw [hR];have hv:=hI.2 (off+q) (by omega) (by omega);rw [← hv]
  by_cases h3:q<room - off % room
  ·rw [if_neg (by omega),if_pos (by omega),List.getElem?_take,if_pos (by omega),List.getElem?_drop]
   congr 1
   have:(off+q) % room=off % room+q:=by
    rw [Nat.add_mod,Nat.mod_eq_of_lt (show q<room by omega),Nat.mod_eq_of_lt (by omega)]
   omega
  ·rw [if_pos (by omega),List.getElem?_take,if_pos (by omega)]
   congr 1
   have:(off+q) % room=off % room+q - room:=by
    rw [Nat.add_mod]
    have hq2:q % room=q∨q=room:=by
     rcases Nat.lt_or_ge q room with h | h
     ·exact .inl (Nat.mod_eq_of_lt h)
     ·exact .inr (by omega)
    rcases hq2 with h | h
    ·rw [h,Nat.mod_eq_sub_mod (by omega),Nat.mod_eq_of_lt (by omega)]
    ·subst h
     rw [Nat.mod_self,Nat.add_zero,Nat.mod_mod];omega
   omega
 ·have hR:(List.take count (List.drop off L))[q]?=none:=by rw [List.getElem?_take,if_neg hq]
  rw [hR,if_neg (by omega),if_neg (by omega),List.getElem?_eq_none (by omega)]
end Rg
end
end Go.Proofs.YtdpagmcickkbmaaGreatDoor
