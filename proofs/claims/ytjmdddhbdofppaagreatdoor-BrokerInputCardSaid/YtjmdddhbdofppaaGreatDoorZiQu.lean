/- The broker's mathematics: who is closing is nobody's business but its own. No program is named here. -/
import Derived.Test.YtjmdddhbdofppaaGreatDoorZiQb
namespace Go.Proofs.YtjmdddhbdofppaaGreatDoor.Bk
open Fr Lx
theorem holder_told : ∀ (n : Nat) (b : Br),mu b≤n→fhold (holder b).fl = (holder b).told
  | n,b,hn=>by
    by_cases h : fhold b.fl = b.told
    · rw [holder_same h]; exact h
    · rw [holder_step h]
      have:=mu_step (mfloor (fhold b.fl)) h
      match n,hn with
      | 0,hn=>omega
      | n + 1,hn=>exact holder_told n _ (by omega)
def Str (k : Nat) (b b' : Br) : Prop:=∃ c c',b.cs k = some c∧c.st = 2∧c'.st = 2∧c.out.length = c'.out.length∧b' = setc b k (some c')
section
variable {k : Nat} {b b' : Br}
def Sim (k : Nat) (b b' : Br) : Prop:=opn b k = false∧(b' = b∨Str k b b')
theorem shut_core (k : Nat) : KCore (fun b=>opn b k = false) where
  gone:=fun b j c h hc _ _=>by
    have : opn (setc b j (some { c with st:=2 })) k = false:=by
      rw [opn_setc]
      split
      · rfl
      · exact h
    unfold gone
    split
    · exact this
    · exact this
  plus:=fun b j c m h hc _ _=>by
    show opn (setc b j (some (plus m c))) k = false
    rw [opn_setc]
    split
    · next e =>
      subst e
      unfold opn at h
      rw [hc] at h
      exact h
    · exact h
  told:=fun b h=>h
  served:=fun b j c m p s h hc _ _=>by
    show opn (setc b j (some _)) k = false
    rw [opn_setc]
    split
    · next e =>
      subst e
      unfold opn at h
      rw [hc] at h
      show decide ((putc b.cf.queue { c with p:=p,s:=s } (enc m)).st = 1) = false
      rw [(putc_same _ _ _).1]
      exact h
    · exact h
  reap:=fun b h=>by
    unfold opn at h ⊢
    show (match (if 1≤k∧k≤16∧done b k = true then none else b.cs k) with | some c=>decide (c.st = 1) | none=>false) = false
    split
    · next hx =>
      split at hx
      · cases hx
      · rw [hx] at h; exact h
    · rfl
end
end Go.Proofs.YtjmdddhbdofppaaGreatDoor.Bk
