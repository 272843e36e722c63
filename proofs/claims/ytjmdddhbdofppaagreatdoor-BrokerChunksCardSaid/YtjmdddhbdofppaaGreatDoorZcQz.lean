/- The broker's mathematics: bytes that are no frames (BrokerApart); bytes that come one by one (BrokerChunks). No program is named here. -/
import Derived.Test.YtjmdddhbdofppaaGreatDoorZc06
import Derived.Test.YtjmdddhbdofppaaGreatDoorZcQu

namespace Go.Proofs.YtjmdddhbdofppaaGreatDoor.Bk
open Fr Lx
theorem leave_str {b : Br} {k : Nat} {c c' : Cn} (h1 : c.st = 1) (h2 : c'.st = 1) (ho : c.out.length = c'.out.length) : Str k (leave (setc b k (some c)) k) (leave (setc b k (some c')) k):=by
  have hl : ∀ d : Cn,d.st = 1→leave (setc b k (some d)) k = tellN 16 (left k) (setFl (setc b k (some { d with st:=2 })) (fleave b.fl k)):=fun d hd=>by
    show leaveW (tellN 16) (setc b k (some d)) k = _
    unfold leaveW
    rw [setc_cs]
    show (if d.st = 1 then tellN 16 (left k) (setFl (setc (setc b k (some d)) k (some { d with st:=2 })) (fleave b.fl k)) else _) = _
    rw [if_pos hd,setc_two]
  rw [hl c h1,hl c' h2]
  refine Str.tellN 16 _ ⟨{ c with st:=2 },{ c' with st:=2 },setc_cs b k _,rfl,rfl,ho,?_⟩
  show setFl (setc b k _) _ = setFl (setc (setc b k _) k _) _
  rw [setc_two]
  rfl
theorem shut_str {b : Br} {k : Nat} {c c' : Cn} (h1 : c.st = 1) (h2 : c'.st = 1) (ho : c.out.length = c'.out.length) (w w' : Nat) : Str k (shut (setc b k (some c)) k w) (shut (setc b k (some c')) k w'):=by
  unfold shut
  by_cases hf : c.out.length + 11≤b.cf.queue
  · rw [send_fits (setc_cs b k _) (by omega) (by rw [closed_len]; exact hf),send_fits (setc_cs b k _) (by omega) (by rw [closed_len]; show c'.out.length + 11≤b.cf.queue; omega),setc_two,setc_two]
    refine leave_str h1 h2 ?_
    show (c.out ++ _).length = (c'.out ++ _).length
    rw [List.length_append,List.length_append,closed_len,closed_len,ho]
  · have hs : ∀ (d : Cn) (x : Nat),d.st = 1→¬ d.out.length + 11≤b.cf.queue→send (closed x) (setc b k (some d)) k = leave (setc b k (some d)) k:=fun d x hd hn=>by
      show sendW (leaveN 16) (closed x) (setc b k (some d)) k = _
      unfold sendW
      rw [setc_cs]
      show (if d.st = 2 then _ else if d.out.length + (enc (closed x)).length≤b.cf.queue then _ else leaveN 16 (setc b k (some d)) k) = _
      rw [if_neg (by omega),if_neg (by rw [closed_len]; exact hn)]
      rfl
    rw [hs c w h1 hf,hs c' w' h2 (by omega)]
    exact (leave_str h1 h2 ho).leave k
def bye : M:=⟨4,0,0,[]⟩
theorem bye_ok : bye.ok = true:=by decide
theorem err_zeros (junk : Bs) : err (0#8 :: 0#8 :: junk)≠5∧err (0#8 :: 0#8 :: junk)≠0:=by
  have h : num2 (0#8 :: 0#8 :: junk) = 0:=rfl
  have:=err_long (l:=0#8 :: 0#8 :: junk) (by simp) (.inl h)
  rw [this]
  exact ⟨by decide,by decide⟩
theorem fgot_app {s : Fs} (h : s.e = 0) (u v : Bs) : ((fpush s u).e = 0→fgot s (u ++ v) = fgot s u ++ fgot (fpush s u) v∧fpush s (u ++ v) = fpush (fpush s u) v)∧((fpush s u).e≠0→fgot s (u ++ v) = fgot s u∧fpush s (u ++ v) = fpush s u):=by
  have ht:=tells_tfs (s.l ++ u)
  have e1 : fpush s u = ⟨keep (trest (s.l ++ u)),broke (trest (s.l ++ u))⟩:=by unfold fpush; rw [if_pos h]
  have e2 : ∀ t,fpush s t = ⟨keep (trest (s.l ++ t)),broke (trest (s.l ++ t))⟩:=fun t=>by unfold fpush; rw [if_pos h]
  have e3 : ∀ t,fgot s t = tfs (s.l ++ t):=fun t=>by unfold fgot; rw [if_pos h]
  have hl:=ht.left
  have hm:=fun {fs2 : List (BitVec 8×Bs)} {r2 : Bs} (h2 : Tells (trest (s.l ++ u) ++ v) fs2 r2)=>tells_eq (Tells.more v h2 ht)
  rw [List.append_assoc] at hm
  by_cases h5 : err (trest (s.l ++ u)) = 5
  · have hk:=keep_short h5
    have hz : (fpush s u).e = 0:=by rw [e1]; exact hk.2
    have hfl : (fpush s u).l = trest (s.l ++ u):=by rw [e1]; exact hk.1
    refine ⟨fun _=>?_,fun hne=>absurd hz hne⟩
    have h2:=hm (tells_tfs (trest (s.l ++ u) ++ v))
    have e4 : ∀ f : Fs,f.e = 0→fpush f v = ⟨keep (trest (f.l ++ v)),broke (trest (f.l ++ v))⟩∧fgot f v = tfs (f.l ++ v):=fun f hf=>by
      unfold fpush fgot
      rw [if_pos hf,if_pos hf]
      exact ⟨rfl,rfl⟩
    obtain ⟨e5,e6⟩:=e4 _ hz
    rw [e5,e6,hfl]
    refine ⟨?_,?_⟩
    · rw [e3,e3,← h2.1]
    · rw [e2 (u ++ v),← h2.2]
  · have hk:=keep_else h5
    have hz : (fpush s u).e≠0:=by rw [e1]; show broke _≠0; rw [hk.2]; exact hl
    refine ⟨fun h0=>absurd h0 hz,fun _=>?_⟩
    have ha:=err_app_else hl h5 v
    have h2:=hm (Tells.stop (trest (s.l ++ u) ++ v) (by rw [ha]; exact hl))
    rw [List.append_nil] at h2
    refine ⟨by rw [e3,e3,← h2.1],?_⟩
    rw [e2,e2,← h2.2]
    have hk2:=keep_else (r:=trest (s.l ++ u) ++ v) (by rw [ha]; exact h5)
    rw [hk.1,hk.2,hk2.1,hk2.2,ha]
end Go.Proofs.YtjmdddhbdofppaaGreatDoor.Bk
