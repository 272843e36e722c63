/- BrokerApart, with Lf Qv -/
import Derived.Test.YtjmdddhbdofppaaGreatDoorZcLe
import Derived.Test.YtjmdddhbdofppaaGreatDoorZc06
import Derived.Test.YtjmdddhbdofppaaGreatDoorZcQu
import Derived.Test.YtjmdddhbdofppaaGreatDoorZc10
import Derived.Test.YtjmdddhbdofppaaGreatDoorZc19
import Derived.Test.YtjmdddhbdofppaaGreatDoorZc42
import Derived.Test.YtjmdddhbdofppaaGreatDoorZcInse
import Derived.Test.YtjmdddhbdofppaaGreatDoorZcLc
import Derived.Test.YtjmdddhbdofppaaGreatDoorZcQb

section
namespace Go.Proofs.YtjmdddhbdofppaaGreatDoor
open Go.RowKit
open Fr Bk
theorem sumL_le {Ln : Nat→Nat} {n : Nat} : ∀ {k : Nat},k≤n→(∀ r,r < n→Ln r≤most)→sumL Ln k≤k * most
  | 0,_,_=>Nat.zero_le _
  | k + 1,hk,h=>by
    have h1:=sumL_le (k:=k) (by omega) h
    have h2:=h k (by omega)
    show sumL Ln k + Ln k≤(k + 1) * most
    rw [Nat.add_mul]
    omega
def FewEv (n : Nat) (Ln : Nat→Nat) (w : World) (e : Ending) (w' : World) : Prop:=∃ f : Bool,e = .returned (.bool f)∧(f = true→n≤120∧sumL Ln n≤6000)∧Below w.heap.size w w'
set_option maxRecDepth 100000 in
theorem lfew_any {a : Option Addr} {n cap : Nat} {K I R : Nat→Int} {A : Nat→Option Addr} {Ln Cp : Nat→Nat} {T : Nat→Bs} (w : World) (hl : Ievs w w.heap.size a n K I R A Ln Cp T) (hm : n≤9223372036854775807) :
    Calls Tryz.prog 20 #[.slice a n cap] w (FewEv n Ln w):=by
  have HL:=Lib.hid hl
  have HLe:=Lib.hid (show ∀ r,r < n→Ln r≤most from fun r hr=>Nat.le_trans (hl.inner r hr).2.2.1 (hl.inner r hr).2.2.2)
  have HB:=Lib.hid (Below.refl w.heap.size w)
  clear hl
  obtain ⟨g,hg⟩ : ∃ g,w.heap.size = g:=⟨_,rfl⟩
  rw [hg] at HL HB
  have HG:=Lib.hid hg
  clear hg
  go_enter Tryz.func20,Tryz.ntmps20
  go_wp2_with fail
  go_loopw [3,8] (fun s i wr=>∃ (k : Nat) (v : Int),k≤n∧i = .int .i64 (k : Nat)∧s = .int .i64 v∧Hid (k≤120→v = (sumL Ln k : Nat))∧Below g w wr) (fun _ i _=>n - (intOf i).toNat)
  case atStart=>exact ⟨0,0,by omega,rfl,rfl,Lib.hid fun _=>rfl,HB.out⟩
  case round =>
    obtain ⟨k,v,hk,rfl,rfl,HV,hb⟩:=hrel
    have HBk:=Lib.hid hb
    have hgw:=hb.size
    rw [HG.out] at hgw
    clear hb HB
    by_cases hlt : k < n
    · have dk : decide ((k : Int) < (n : Int)) = true:=by simp; omega
      obtain ⟨bb,off,rfl,hbB,hc⟩:=(HL.out.below HBk.out).outer (by omega)
      obtain ⟨hc0,hc1,hc2,hc3⟩:=hc k hlt
      have HV2 : Hid (k + 1≤120→wrap64 (v + (Ln k : Nat)) = (sumL Ln (k + 1) : Nat)):=Lib.hid fun h=>by
        have h1:=HV.out (by omega)
        have h2:=sumL_le (k:=k + 1) hlt HLe.out
        have h3 : (k + 1) * most≤120 * most:=Nat.mul_le_mul_right _ h
        have h4 : 120 * most≤9223372036854775807:=by decide
        show _ = ((sumL Ln k + Ln k : Nat) : Int)
        replace h2 : sumL Ln k + Ln k≤(k + 1) * most:=h2
        rw [h1,IntWalk.wrap64_in _ (by omega)]
        omega
      clear hc
      have HE:=Lib.hid (Bx.new wr wr.heap.size rfl #[.int .i64 (K k),.int .i64 (I k),.int .i64 (R k),.slice (A k) (Ln k) (Cp k)] 34)
      have HBe:=Lib.hid (HBk.out.alloc (by omega) (.cells #[.int .i64 (K k),.int .i64 (I k),.int .i64 (R k),.slice (A k) (Ln k) (Cp k)] 34))
      go_upto_region 5 with fail
      generalize wr.alloc _ = w5 at *
      have e3:=HE.out.cell 3 (.slice (A k) (Ln k) (Cp k)) rfl
      clear hc0 hc1 hc2 hc3 HBk
      go_wp2
      exact ⟨⟨k + 1,_,by omega,by go_num,rfl,HV2,HBe.out⟩,by simp [intOf]; omega⟩
    · obtain rfl : k = n:=by omega
      have dk : decide ((k : Int) < (k : Int)) = false:=by simp
      by_cases h120 : k≤120
      · have d1 : decide ((k : Int)≤120) = true:=by simp; omega
        have hv:=HV.out h120
        subst hv
        by_cases h6 : sumL Ln k≤6000
        · have d2 : decide (((sumL Ln k : Nat) : Int)≤6000) = true:=by simp; omega
          have HR:=Lib.hid (And.intro h120 h6)
          go_wp2
          go_ret
          exact ⟨true,rfl,fun _=>HR.out,by rw [HG.out]; exact HBk.out⟩
        · have d2 : decide (((sumL Ln k : Nat) : Int)≤6000) = false:=by simp; omega
          go_wp2
          go_ret
          exact ⟨false,rfl,fun h=>(by cases h),by rw [HG.out]; exact HBk.out⟩
      · have d1 : decide ((k : Int)≤120) = false:=by simp; omega
        go_wp2
        go_ret
        exact ⟨false,rfl,fun h=>(by cases h),by rw [HG.out]; exact HBk.out⟩
end Go.Proofs.YtjmdddhbdofppaaGreatDoor
end
section
namespace Go.Proofs.YtjmdddhbdofppaaGreatDoor.Bk
open Fr Lx
theorem leave_str {b : Br} {k : Nat} {c c' : Cn} (h1 : c.st = 1) (h2 : c'.st = 1) (ho : c.out.length = c'.out.length) : Str k (leave (setc b k (some c)) k) (leave (setc b k (some c')) k):=by
  have hl : ∀ d : Cn,d.st = 1→leave (setc b k (some d)) k = tellN 16 (left k) (setFl (setc b k (some { d with st:=2 })) (fleave b.fl k)):=fun d hd=>by
    show leaveW (tellN 16) (setc b k (some d)) k = _
    unfold leaveW
    rw [setc_cs]
    show (if d.st = 1 then tellN 16 (left k) (setFl (setc (setc b k (some d)) k (some { d with st:=2 })) (fleave b.fl k)) else _) = _
    rw [if_pos hd,setc_two]
  rw [hl c h1,hl c' h2]
  refine Str.tellN 16 _ ⟨{ c with st:=2 },{ c' with st:=2 },setc_cs b k _,rfl,rfl,ho,?_⟩
  show setFl (setc b k _) _ = setFl (setc (setc b k _) k _) _
  rw [setc_two]
  rfl
theorem shut_str {b : Br} {k : Nat} {c c' : Cn} (h1 : c.st = 1) (h2 : c'.st = 1) (ho : c.out.length = c'.out.length) (w w' : Nat) : Str k (shut (setc b k (some c)) k w) (shut (setc b k (some c')) k w'):=by
  unfold shut
  by_cases hf : c.out.length + 11≤b.cf.queue
  · rw [send_fits (setc_cs b k _) (by omega) (by rw [closed_len]; exact hf),send_fits (setc_cs b k _) (by omega) (by rw [closed_len]; show c'.out.length + 11≤b.cf.queue; omega),setc_two,setc_two]
    refine leave_str h1 h2 ?_
    show (c.out ++ _).length = (c'.out ++ _).length
    rw [List.length_append,List.length_append,closed_len,closed_len,ho]
  · have hs : ∀ (d : Cn) (x : Nat),d.st = 1→¬ d.out.length + 11≤b.cf.queue→send (closed x) (setc b k (some d)) k = leave (setc b k (some d)) k:=fun d x hd hn=>by
      show sendW (leaveN 16) (closed x) (setc b k (some d)) k = _
      unfold sendW
      rw [setc_cs]
      show (if d.st = 2 then _ else if d.out.length + (enc (closed x)).length≤b.cf.queue then _ else leaveN 16 (setc b k (some d)) k) = _
      rw [if_neg (by omega),if_neg (by rw [closed_len]; exact hn)]
      rfl
    rw [hs c w h1 hf,hs c' w' h2 (by omega)]
    exact (leave_str h1 h2 ho).leave k
def bye : M:=⟨4,0,0,[]⟩
theorem bye_ok : bye.ok = true:=by decide
theorem err_zeros (junk : Bs) : err (0#8 :: 0#8 :: junk)≠5∧err (0#8 :: 0#8 :: junk)≠0:=by
  have h : num2 (0#8 :: 0#8 :: junk) = 0:=rfl
  have:=err_long (l:=0#8 :: 0#8 :: junk) (by simp) (.inl h)
  rw [this]
  exact ⟨by decide,by decide⟩
theorem apart_sim {b : Br} {k : Nat} {c : Cn} (h1 : 1≤k) (h2 : k≤16) (hc : b.cs k = some c) (hst : c.st = 1) (hfd : c.fd = fd0) (junk : Bs) :
    bytesE b (k : Nat) = 0∧Sim k (bytesB b (k : Nat) (0#8 :: 0#8 :: junk)) (bytesB b (k : Nat) (enc bye)):=by
  obtain ⟨e1,e2⟩:=bytes_one h1 h2 hc hfd (by omega) bye_ok
  refine ⟨e2,?_⟩
  rw [e1]
  have hk : ((k : Nat) : Int).toNat = k:=by omega
  have hz : bytesB b (k : Nat) (0#8 :: 0#8 :: junk) = settle (recvB (setc b k (some { c with idle:=0 })) k (0#8 :: 0#8 :: junk)):=by
    unfold bytesB
    rw [if_pos e2,hk]
    show settle (recvB (match b.cs k with | some c=>(if (0#8 :: 0#8 :: junk : Bs) = [] then b else setc b k (some { c with idle:=0 })) | none=>b) k _) = _
    rw [hc]
    show settle (recvB (if (0#8 :: 0#8 :: junk : Bs) = [] then b else setc b k (some { c with idle:=0 })) k _) = _
    rw [if_neg (by simp)]
  obtain ⟨n5,n0⟩:=err_zeros junk
  have htf : tfs (0#8 :: 0#8 :: junk) = []∧trest (0#8 :: 0#8 :: junk) = 0#8 :: 0#8 :: junk:=by
    have:=tells_eq (Tells.stop (0#8 :: 0#8 :: junk) n0)
    exact ⟨this.1.symm,this.2.symm⟩
  have hp : (fpush c.fd (0#8 :: 0#8 :: junk)).e≠0∧fgot c.fd (0#8 :: 0#8 :: junk) = []:=by
    rw [hfd]
    unfold fpush fgot
    show (if (0 : Nat) = 0 then (⟨keep (trest (0#8 :: 0#8 :: junk)),broke (trest (0#8 :: 0#8 :: junk))⟩ : Fs) else _).e≠0∧(if (0 : Nat) = 0 then tfs (0#8 :: 0#8 :: junk) else []) = []
    rw [if_pos rfl,if_pos rfl,htf.1,htf.2]
    exact ⟨by show broke (0#8 :: 0#8 :: junk)≠0; rw [(keep_else n5).2]; exact n0,rfl⟩
  have hr : recvB (setc b k (some { c with idle:=0 })) k (0#8 :: 0#8 :: junk) = shut (setc b k (some { c with idle:=0,fd:=fpush c.fd (0#8 :: 0#8 :: junk) })) k 1:=by
    rw [recvB_eq (setc_cs _ _ _)]
    show recvX (fpush c.fd (0#8 :: 0#8 :: junk)).e (takes (setc (setc b k _) k (some { c with idle:=0,fd:=fpush c.fd (0#8 :: 0#8 :: junk) })) k (fgot c.fd (0#8 :: 0#8 :: junk))) k = _
    rw [hp.2,setc_two]
    show recvX _ (setc b k (some { c with idle:=0,fd:=fpush c.fd (0#8 :: 0#8 :: junk) })) k = _
    rw [recvX_shut hp.1 (by unfold closing; rw [setc_cs]; simp [hst])]
  have ht : takeB (setc b k (some { c with idle:=0 })) k (some bye) = shut (setc b k (some { c with idle:=0 })) k 0:=by
    unfold takeB
    rw [setc_cs]
    show (if decide (c.st = 0) = true then _ else if (4 : Int) = 2 then _ else if (4 : Int) = 3 then _ else if (4 : Int) = 4 then shut _ k 0 else _) = _
    rw [if_neg (by simp; omega),if_neg (by decide),if_neg (by decide),if_pos rfl]
  rw [hz,hr,ht]
  have hs:=shut_str (b:=b) (k:=k) (c:={ c with idle:=0,fd:=fpush c.fd (0#8 :: 0#8 :: junk) }) (c':={ c with idle:=0 }) hst hst rfl 1 0
  have e : settle (holder (shut (setc b k (some { c with idle:=0 })) k 0)) = settle (shut (setc b k (some { c with idle:=0 })) k 0):=by
    unfold settle
    rw [holder_two]
  rw [e]
  exact hs.settle
def AtRest (k : Nat) (b : Br) : Prop:=∀ c,b.cs k = some c→c.fd = fd0
theorem AtRest.bytes {k : Nat} {b : Br} (h : AtRest k b) {id : Int} (hid : id≠(k : Nat)) (t : Bs) : AtRest k (bytesB b id t):=by
  unfold bytesB
  by_cases he : bytesE b id = 0
  · rw [if_pos he]
    have ht : isThere b id = true:=by
      unfold bytesE at he
      split at he
      · next hi=>exact hi
      · cases he
    have h0 : 1≤id∧id≤16:=by unfold isThere at ht; simp at ht; exact ht.1
    obtain ⟨j,hj⟩ : ∃ j,id.toNat = j:=⟨_,rfl⟩
    rw [hj]
    have hjk : k≠j:=by omega
    have set : ∀ {x : Br} (d : Cn),AtRest k x→AtRest k (setc x j (some d)):=fun d hx c hc=>by
      rw [setc_ne _ _ _ hjk] at hc
      exact hx c hc
    obtain ⟨c,hc⟩ : ∃ c,b.cs j = some c:=by
      unfold isThere at ht
      rw [hj] at ht
      simp at ht
      exact Option.isSome_iff_exists.1 ht.2
    show AtRest k (settle (recvB (match b.cs j with | some c=>(if t = [] then b else setc b j (some { c with idle:=0 })) | none=>b) j t))
    rw [hc]
    show AtRest k (settle (recvB (if t = [] then b else setc b j (some { c with idle:=0 })) j t))
    obtain ⟨b1,hb1⟩ : ∃ b1,(if t = [] then b else setc b j (some { c with idle:=0 })) = b1:=⟨_,rfl⟩
    have h1 : AtRest k b1∧∃ c1,b1.cs j = some c1:=by
      rw [← hb1]
      split
      · exact ⟨h,c,hc⟩
      · exact ⟨set _ h,_,setc_cs _ _ _⟩
    rw [hb1]
    refine (pcf_take k fd0).settle ?_
    obtain ⟨h1,c1,hc1⟩:=h1
    rw [recvB_eq hc1]
    have h2:=(pcf_take k fd0).takes (k:=j) (by omega) (by omega) (fgot c1.fd t) (set { c1 with fd:=fpush c1.fd t } h1)
    unfold recvX
    split
    · exact h2
    · exact (pcf_take k fd0).shut h2 (by omega) (by omega) 1
  · rw [if_neg he]; exact h
theorem AtRest.connect {k : Nat} {b : Br} (h : AtRest k b) (id : Int) : AtRest k (connectB b id):=by
  refine keep_connect h id fun j _ _ _ c hc=>?_
  by_cases e : k = j
  · subst e; rw [setc_cs] at hc; injection hc with hc; subst hc; rfl
  · rw [setc_ne _ _ _ e] at hc; exact h c hc
theorem AtRest.same {k j : Nat} {b : Br} (h : AtRest k b) {c d : Cn} (hc : b.cs j = some c) (e : d.fd = c.fd) : AtRest k (setc b j (some d)):=fun x hx=>by
  by_cases ej : k = j
  · subst ej; rw [setc_cs] at hx; injection hx with hx; subst hx; rw [e]; exact h c hc
  · rw [setc_ne _ _ _ ej] at hx; exact h x hx
theorem AtRest.write {k : Nat} {b : Br} (h : AtRest k b) (id n : Int) : AtRest k (writeB b id n):=(pcf_take k fd0).write h id n fun _ _ _ _ _ hc=>h.same hc rfl
theorem AtRest.cut {k : Nat} {b : Br} (h : AtRest k b) (id : Int) : AtRest k (cutB b id):=(pcf_take k fd0).cut h id fun b j c hb hc _ x hx=>by
  by_cases ej : k = j
  · subst ej; rw [setc_cs] at hx; cases hx
  · rw [setc_ne _ _ _ ej] at hx; exact hb x hx
theorem AtRest.output {k : Nat} {b : Br} (h : AtRest k b) (t : Bs) : AtRest k (outputB b t):=(pcf_take k fd0).output h t fun _=>h
theorem AtRest.ends {k : Nat} {b : Br} (h : AtRest k b) (code : Int) : AtRest k (endB b code):=(pcf_take k fd0).ends h code fun _ _ _=>h
theorem AtRest.tick {k : Nat} {b : Br} (h : AtRest k b) : AtRest k (tickB b):=(pcf_take k fd0).tick h fun _ _ _ hb hc=>AtRest.same hb hc rfl
theorem AtRest.drain {k : Nat} {b : Br} (h : AtRest k b) (n : Int) : AtRest k (drainB b n):=h
theorem fgot_app {s : Fs} (h : s.e = 0) (u v : Bs) : ((fpush s u).e = 0→fgot s (u ++ v) = fgot s u ++ fgot (fpush s u) v∧fpush s (u ++ v) = fpush (fpush s u) v)∧((fpush s u).e≠0→fgot s (u ++ v) = fgot s u∧fpush s (u ++ v) = fpush s u):=by
  have ht:=tells_tfs (s.l ++ u)
  have e1 : fpush s u = ⟨keep (trest (s.l ++ u)),broke (trest (s.l ++ u))⟩:=by unfold fpush; rw [if_pos h]
  have e2 : ∀ t,fpush s t = ⟨keep (trest (s.l ++ t)),broke (trest (s.l ++ t))⟩:=fun t=>by unfold fpush; rw [if_pos h]
  have e3 : ∀ t,fgot s t = tfs (s.l ++ t):=fun t=>by unfold fgot; rw [if_pos h]
  have hl:=ht.left
  have hm:=fun {fs2 : List (BitVec 8×Bs)} {r2 : Bs} (h2 : Tells (trest (s.l ++ u) ++ v) fs2 r2)=>tells_eq (Tells.more v h2 ht)
  rw [List.append_assoc] at hm
  by_cases h5 : err (trest (s.l ++ u)) = 5
  · have hk:=keep_short h5
    have hz : (fpush s u).e = 0:=by rw [e1]; exact hk.2
    have hfl : (fpush s u).l = trest (s.l ++ u):=by rw [e1]; exact hk.1
    refine ⟨fun _=>?_,fun hne=>absurd hz hne⟩
    have h2:=hm (tells_tfs (trest (s.l ++ u) ++ v))
    have e4 : ∀ f : Fs,f.e = 0→fpush f v = ⟨keep (trest (f.l ++ v)),broke (trest (f.l ++ v))⟩∧fgot f v = tfs (f.l ++ v):=fun f hf=>by
      unfold fpush fgot
      rw [if_pos hf,if_pos hf]
      exact ⟨rfl,rfl⟩
    obtain ⟨e5,e6⟩:=e4 _ hz
    rw [e5,e6,hfl]
    refine ⟨?_,?_⟩
    · rw [e3,e3,← h2.1]
    · rw [e2 (u ++ v),← h2.2]
  · have hk:=keep_else h5
    have hz : (fpush s u).e≠0:=by rw [e1]; show broke _≠0; rw [hk.2]; exact hl
    refine ⟨fun h0=>absurd h0 hz,fun _=>?_⟩
    have ha:=err_app_else hl h5 v
    have h2:=hm (Tells.stop (trest (s.l ++ u) ++ v) (by rw [ha]; exact hl))
    rw [List.append_nil] at h2
    refine ⟨by rw [e3,e3,← h2.1],?_⟩
    rw [e2,e2,← h2.2]
    have hk2:=keep_else (r:=trest (s.l ++ u) ++ v) (by rw [ha]; exact h5)
    rw [hk.1,hk.2,hk2.1,hk2.2,ha]
end Go.Proofs.YtjmdddhbdofppaaGreatDoor.Bk
end
namespace Go.Proofs.YtjmdddhbdofppaaGreatDoor.brokerApart
open Go.ChangeShapes Go.WideShapes Go.ChangeAt Go.RowKit
open Fr Bk
theorem r3_doEv {b : Br} (h : R3 b) (q : Nat) (id n : Int) (t : Bs) : R3 (doEv q b id n t):=by
  unfold Go.Proofs.YtjmdddhbdofppaaGreatDoor.doEv
  split
  · exact r3_all.connectB h id
  · exact r3_all.bytesB h id t
  · exact r3_all.writeB h id n
  · exact r3_all.outputB h t
  · exact r3_all.drainB h n
  · exact r3_all.tickB h
  · exact r3_all.cutB h id
  · exact r3_all.endB h n
theorem r3_new2 (cf : Cf) : R3 (bnew cf):=⟨List.Pairwise.nil,fun k hk=>(by cases hk),fun k c hc=>(by cases hc)⟩
theorem ievs_more {w : World} {B B' n : Nat} {a : Option Addr} {K I R : Nat→Int} {A : Nat→Option Addr} {Ln Cp : Nat→Nat} {T : Nat→Bs} (h : Ievs w B a n K I R A Ln Cp T) (hB : B≤B') : Ievs w B' a n K I R A Ln Cp T:=
  ⟨fun hn=>by
    obtain ⟨b,off,e,hlt,hc⟩:=h.outer hn
    exact ⟨b,off,e,Nat.lt_of_lt_of_le hlt hB,hc⟩,fun r hr=>⟨(h.inner r hr).1,(h.inner r hr).2.1.more hB,(h.inner r hr).2.2⟩⟩
def wOdd : Bs:=[111#8,100#8,100#8]
noncomputable def apB : Br:=bytesB (connectB (bnew cfd) 16) 16 (enc (helloM wOdd))
structure ApAt (Ln : Nat→Nat) (k : Nat) (x : Br) : Prop where
  ev : EvOk x k (2200 + k * 2052 + sumL Ln k) (sumL Ln k)
  r3 : R3 x
  rest : AtRest 16 x
theorem ap_begin (Ln : Nat→Nat) : connectE (bnew cfd) 16 = 0∧bytesE (connectB (bnew cfd) 16) 16 = 0∧ApAt Ln 0 apB:=by
  obtain ⟨a1,a2⟩:=connect_new (b:=bnew cfd) (k:=16) (by decide) (by decide) rfl
  have e : connectB (bnew cfd) 16 = Bk.lone (bnew cfd) 16 cnew:=a2
  have a3:=lone_hello (b:=bnew cfd) (k:=16) (t:=wOdd) (by decide) (by decide) (by show 220≤2048; decide) rfl rfl rfl rfl (by decide) (by decide)
  rw [show ((16 : Nat) : Int) = 16 from rfl] at a3
  have hev:=(cfd_ok.connect 16).bytes 16 (enc (helloM wOdd))
  refine ⟨a1,by rw [e]; exact a3.2,⟨⟨hev.ok,hev.cn,Nat.le_trans hev.tot (by rw [enc_len5]; show 0 + 2052 + (6 * Ms.nu 1 + 3 + 5)≤2200 + 0 * 2052 + 0; decide),hev.len,hev.sp⟩,r3_all.bytesB (r3_all.connectB (r3_new2 cfd) 16) 16 _,?_⟩⟩
  intro c hc
  unfold apB at hc
  rw [e,a3.1] at hc
  obtain ⟨_,rfl⟩:=lone_one hc
  rfl
theorem ApAt.skip {Ln : Nat→Nat} {k : Nat} {x : Br} (h : ApAt Ln k x) : ApAt Ln (k + 1) x:=by
  have hs1 : sumL Ln (k + 1) = sumL Ln k + Ln k:=rfl
  exact ⟨⟨h.ev.ok,fun j c hc=>⟨Nat.le_succ_of_le (h.ev.cn j c hc).1,(h.ev.cn j c hc).2⟩,Nat.le_trans h.ev.tot (by omega),Nat.le_trans h.ev.len (by omega),h.ev.sp⟩,h.r3,h.rest⟩
theorem ApAt.next {Ln : Nat→Nat} {k : Nat} {x : Br} (h : ApAt Ln k x) (q : Nat) (id n : Int) (hid : id≠16) {t : Bs} (ht : t.length = Ln k) (hs : sumL Ln (k + 1)≤6000) : ApAt Ln (k + 1) (doEv q x id n t):=by
  have hs1 : sumL Ln (k + 1) = sumL Ln k + Ln k:=rfl
  have he:=EvOk.doEv h.ev q id n t (by omega)
  rw [ht] at he
  refine ⟨⟨he.ok,he.cn,Nat.le_trans he.tot (by omega),Nat.le_trans he.len (by omega),he.sp⟩,r3_doEv h.r3 q id n t,?_⟩
  have hr:=h.rest
  unfold doEv
  split
  · exact hr.connect id
  · exact hr.bytes hid t
  · exact hr.write id n
  · exact hr.output t
  · exact hr.drain n
  · exact hr.tick
  · exact hr.cut id
  · exact hr.ends n
theorem ApAt.there {Ln : Nat→Nat} {k : Nat} {x : Br} (h : ApAt Ln k x) (hr : rhas x.fl.roles 16 = true) (junk : Bs) : bytesE x 16 = 0∧Sim 16 (bytesB x 16 (0#8 :: 0#8 :: junk)) (bytesB x 16 (enc bye)):=by
  have ho:=h.r3.ro 16 hr
  unfold opn at ho
  rcases e : x.cs 16 with _ | c
  · rw [e] at ho; cases ho
  · rw [e] at ho
    exact apart_sim (k:=16) (by decide) (by decide) e (by simpa using ho) (h.rest c e) junk
structure ApEnd (xa xb : Br) : Prop where
  eva : EvOk xa 130 300000 7000
  evb : EvOk xb 130 300000 7000
  r3 : R3 xa
  sim : Sim 16 xa xb
theorem ev_wide {x : Br} {i T m i2 T2 m2 : Nat} (h : EvOk x i T m) (hi : i≤i2) (hT : T≤T2) (hm : m≤m2) : EvOk x i2 T2 m2:=⟨h.ok,fun j c hc=>⟨Nat.le_trans (h.cn j c hc).1 hi,(h.cn j c hc).2⟩,Nat.le_trans h.tot hT,Nat.le_trans h.len hm,h.sp⟩
theorem ApAt.ends {Ln : Nat→Nat} {k : Nat} {x : Br} (h : ApAt Ln k x) (hk : k≤120) (hs : sumL Ln k≤6000) (hr : rhas x.fl.roles 16 = true) {junk : Bs} (hj : junk.length≤60) : ApEnd (bytesB x 16 (0#8 :: 0#8 :: junk)) (bytesB x 16 (enc bye)):=by
  have h1:=h.ev.bytes 16 (0#8 :: 0#8 :: junk)
  have h2:=h.ev.bytes 16 (enc bye)
  have h3 : (enc bye).length≤100:=by rw [enc_len5]; decide
  rw [List.length_cons,List.length_cons] at h1
  exact ⟨ev_wide h1 (by omega) (by omega) (by omega),ev_wide h2 (by omega) (by omega) (by omega),r3_all.bytesB h.r3 16 _,(h.there hr junk).2⟩
theorem ApEnd.write {xa xb : Br} (h : ApEnd xa xb) {j : Nat} (hj : j≠16) : writeT xb (j : Nat) 70000 = writeT xa (j : Nat) 70000∧writeE xb (j : Nat) = writeE xa (j : Nat)∧ApEnd (writeB xa (j : Nat) 70000) (writeB xb (j : Nat) 70000):=by
  obtain ⟨e1,e2,e3⟩:=h.sim.write hj 70000
  exact ⟨e1,e2,⟨h.eva.write _ _,h.evb.write _ _,r3_all.writeB h.r3 _ _,e3⟩⟩
theorem ApEnd.out {xa xb : Br} (h : ApEnd xa xb) : rhas xa.fl.roles 16 = false∧fhold xb.fl = fhold xa.fl:=by
  refine ⟨?_,by rw [h.sim.fl.1]⟩
  rcases e : rhas xa.fl.roles 16 with _ | _
  · rfl
  · have:=h.r3.ro 16 e
    rw [h.sim.1] at this
    cases this
theorem lb2_add {w0 w w' : World} {S T : Nat→Prop} {ga gb : Nat} {a b : Br} (h : LB2 w0 S ga gb w a b) (hb : Below w.heap.size w w') (hT : ∀ x,T x→w.heap.size≤x∧x < w'.heap.size) : LB2 w0 T ga gb w' a b:=by
  obtain ⟨Fa,ra,Fb,rb,h1,h2,h3,h4,h5,h6,_⟩:=h
  obtain ⟨ya,_,hya⟩:=_root_.id h1
  obtain ⟨yb,_,hyb⟩:=_root_.id h2
  exact ⟨Fa,ra,Fb,rb,h1.quiet (only_of_below hb),h2.quiet (only_of_below hb),h3,h4.trans (hb.mono h4.size),h5,h6,fun x hx=>⟨(hT x hx).2,fun hf=>by have:=hya.lt hf; have:=(hT x hx).1; omega,fun hf=>by have:=hyb.lt hf; have:=(hT x hx).1; omega⟩⟩
theorem two_own (w : World) : Own w.heap.size (w.alloc (.cells #[.int .u8 0,.int .u8 0] 5)) (some ⟨w.heap.size,0,none⟩) 2 2 [0#8,0#8]:=
  ⟨⟨rfl,.inr ⟨w.heap.size,2,_,rfl,Nat.le_refl _,heap_alloc_new w _,Nat.le_refl _,by unfold maxLen; omega,rfl,rfl⟩⟩,Nat.le_refl _⟩
set_option maxRecDepth 100000 in
set_option maxHeartbeats 8000000 in
theorem walk (a0 : Option Addr) (len0 cap0 : Nat) (K0 I0 R0 : Nat→Int) (A0 : Nat→Option Addr) (L0 C0 : Nat→Nat) (T0 : Nat→Bs) (a1 : Option Addr) (len1 cap1 : Nat) (z1 : List Int) (w : World) (w0 : Ievs w w.heap.size a0 len0 K0 I0 R0 A0 L0 C0 T0) (g0 : len0≤cap0∧cap0≤maxLen) (w1 : IsRow .u8 w a1 len1 cap1 z1) (ht : TI w) :
    Calls Tryz.prog 7 #[.slice a0 len0 cap0,.slice a1 len1 cap1] w fun e w'=>e = .returned (.bool true)∧Below w.heap.size w w':=by
  have HTI:=Lib.hid ht
  have HE0:=Lib.hid w0
  have hln : len0≤9223372036854775807:=by have:=g0; unfold maxLen at this; omega
  obtain ⟨jk,hjl,_⟩:=w1.bytes
  obtain ⟨hjc,hjm⟩:=w1.cap
  have hjlen : jk.length = len1:=hjl.1
  have HJ:=Lib.hid hjl
  have HJC:=Lib.hid hjc
  have hid16 : wf64 16:=by decide
  clear ht w0 w1 g0 hjl hjm hjc
  go_enter Tryz.func7,Tryz.ntmps7
  go_wp2_with fail
  refine (bhead_any w HTI.out).mono ?_
  rintro e w1 ⟨rfl,hb1⟩
  have HB1:=Lib.hid hb1
  have HF:=Lib.hid (lfew_any (cap:=cap0) w1 (show Ievs w1 w1.heap.size a0 len0 K0 I0 R0 A0 L0 C0 T0 from ievs_more (HE0.out.below hb1) hb1.size) hln)
  clear hb1
  go_wp2_with fail
  refine HF.out.mono ?_
  rintro e w2 ⟨f,rfl,hfew,hb2⟩
  have HB2:=Lib.hid (Below.trans HB1.out (hb2.mono HB1.out.size))
  clear hb2 HB1 HF
  rcases f with _ | _
  · go_wp2
    go_ret
    exact ⟨rfl,HB2.out⟩
  have hfew:=hfew rfl
  have hf1:=hfew.1
  have HFW:=Lib.hid hfew.2
  clear hfew
  by_cases h60 : 60 < len1
  · have d6 : decide ((len1 : Int) > 60) = true:=decide_eq_true (by omega)
    have d7 : decide (60 < (len1 : Int)) = true:=decide_eq_true (by omega)
    have HJ0:=HJ
    clear HJ0
    go_wp2
    go_ret
    exact ⟨rfl,HB2.out⟩
  have d6 : decide ((len1 : Int) > 60) = false:=decide_eq_false (by omega)
  have d7 : decide (60 < (len1 : Int)) = false:=decide_eq_false (by omega)
  have hj60 : len1≤60:=by omega
  clear h60
  go_wp2_with fail
  refine (default_any _).mono ?_
  rintro e w3 ⟨rfl,hb3⟩
  have HB3:=Lib.hid (Below.trans HB2.out (hb3.mono HB2.out.size))
  have HT3:=Lib.hid (HTI.out.below HB3.out)
  clear hb3 HB2
  go_wp2_with fail
  refine (lb_new cfd_right w3 HT3.out).mono ?_
  rintro e w4 ⟨ga,rfl,hl4,hb4⟩
  have HL4:=Lib.hid hl4
  have HB4:=Lib.hid hb4
  clear hl4 hb4
  go_wp2_with fail
  refine (default_any _).mono ?_
  rintro e w5 ⟨rfl,hb5⟩
  have HL5:=Lib.hid (HL4.out.below hb5)
  have HB5:=Lib.hid (Below.trans HB4.out (hb5.mono HB4.out.size))
  clear hb5 HL4 HB4
  go_wp2_with fail
  refine (lb2_new cfd_right HL5.out HT3.out HB5.out).mono ?_
  rintro e w6 ⟨gb,rfl,hl6,hb6⟩
  have HL6:=Lib.hid hl6
  have hw3 : w.heap.size≤w3.heap.size:=HB3.out.size
  clear hl6 hb6 HL5 HB5 HT3
  obtain ⟨k1,k2,k3⟩:=ap_begin L0
  have HK1:=Lib.hid k1
  have HK2:=Lib.hid k2
  have HK3:=Lib.hid k3
  clear k1 k2 k3
  go_upto_region 9 with fail
  have HX7:=Lib.hid (Bx.new w6 _ rfl #[.pointer (some (at0 ga)),.pointer (some (at0 gb))] 27)
  have hb7 : Below w6.heap.size w6 (w6.alloc (.cells #[.pointer (some (at0 ga)),.pointer (some (at0 gb))] 27)):=(Below.refl _ _).alloc (Nat.le_refl _) _
  have HL7:=Lib.hid (lb2_add (T:=fun x=>x = w6.heap.size) HL6.out hb7 (fun x hx=>by subst hx; exact ⟨Nat.le_refl _,HX7.out.room⟩))
  clear hb7 HL6
  go_upto_region 10 with fail
  generalize w6.alloc (.cells #[.pointer (some (at0 ga)),.pointer (some (at0 gb))] 27) = w7 at *
  generalize w6.heap.size = gr at *
  go_loopw [48] (fun s wr=>∃ j : Nat,s = .int .i64 (j : Nat)∧((j = 0∧LB2 w3 (fun x=>x = gr) ga gb wr (bnew cfd) (bnew cfd))∨(j = 1∧LB2 w3 (fun x=>x = gr) ga gb wr apB (bnew cfd))∨(j = 2∧LB2 w3 (fun x=>x = gr) ga gb wr apB apB))∧Bx gr wr #[.pointer (some (at0 ga)),.pointer (some (at0 gb))]) (fun s _=>2 - (intOf s).toNat)
  case atStart=>exact ⟨0,rfl,.inl ⟨rfl,HL7.out⟩,HX7.out⟩
  case round =>
    obtain ⟨j,rfl,hj,hxr⟩:=hrel
    have HXr:=Lib.hid hxr
    have hc0:=hxr.cell 0 (.pointer (some (at0 ga))) rfl
    have hc1:=hxr.cell 1 (.pointer (some (at0 gb))) rfl
    clear hxr HL7 HX7
    rcases hj with ⟨rfl,hl⟩ | ⟨rfl,hl⟩ | ⟨rfl,hl⟩
    · have HH:=Lib.hid hl
      clear hl
      have HL0:=HH
      go_wp2_with fail
      refine (lb2_connect HL0.out cfd_ok.ok 16 hid16).mono ?_
      rintro e wa ⟨rfl,hla,hoa⟩
      rw [HK1.out]
      have HLa:=Lib.hid hla
      have HXa:=Lib.hid (HXr.out.keep hoa (fun h=>h.2 rfl))
      clear hla hoa HL0 HH HXr hc0 hc1
      go_wp2_with fail
      refine (lhello_any wOdd (by decide) wa).mono ?_
      rintro e wb ⟨A7,c7,rfl,hy7,hn7,_,hb7⟩
      have HWb:=Lib.hid (LW2.made (n:=(enc (helloM wOdd)).length) HLa.out hb7 hn7)
      have HYb:=Lib.hid hy7
      have HXb:=Lib.hid (HXa.out.go hb7 HXa.out.room)
      clear hy7 hn7 hb7 HLa HXa
      go_wp2_with fail
      refine (lb2_bytes HWb.out (cfd_ok.connect 16) (by decide) 16 hid16 c7 HYb.out (by rw [enc_len5]; decide)).mono ?_
      rintro e wc ⟨rfl,hlc,hoc⟩
      rw [HK2.out]
      have HLc:=Lib.hid (show LB2 w3 (fun x=>x = gr) ga gb wc apB (bnew cfd) from hlc)
      have HXc:=Lib.hid (HXb.out.keep hoc (fun h=>h.2 rfl))
      clear hlc hoc HWb HYb HXb
      go_wp2
      go_roundw
      case rel=>exact ⟨1,by go_num,.inr (.inl ⟨rfl,HLc.out⟩),HXc.out⟩
      case measure=>simp [intOf]
    · have HH:=Lib.hid hl.symm
      clear hl
      have HL0:=HH
      go_wp2_with fail
      refine (lb2_connect HL0.out cfd_ok.ok 16 hid16).mono ?_
      rintro e wa ⟨rfl,hla,hoa⟩
      rw [HK1.out]
      have HLa:=Lib.hid hla
      have HXa:=Lib.hid (HXr.out.keep hoa (fun h=>h.2 rfl))
      clear hla hoa HL0 HH HXr hc0 hc1
      go_wp2_with fail
      refine (lhello_any wOdd (by decide) wa).mono ?_
      rintro e wb ⟨A7,c7,rfl,hy7,hn7,_,hb7⟩
      have HWb:=Lib.hid (LW2.made (n:=(enc (helloM wOdd)).length) HLa.out hb7 hn7)
      have HYb:=Lib.hid hy7
      have HXb:=Lib.hid (HXa.out.go hb7 HXa.out.room)
      clear hy7 hn7 hb7 HLa HXa
      go_wp2_with fail
      refine (lb2_bytes HWb.out (cfd_ok.connect 16) (by decide) 16 hid16 c7 HYb.out (by rw [enc_len5]; decide)).mono ?_
      rintro e wc ⟨rfl,hlc,hoc⟩
      rw [HK2.out]
      have HLc:=Lib.hid (show LB2 w3 (fun x=>x = gr) ga gb wc apB apB from hlc.symm)
      have HXc:=Lib.hid (HXb.out.keep hoc (fun h=>h.2 rfl))
      clear hlc hoc HWb HYb HXb
      go_wp2
      go_roundw
      case rel=>exact ⟨2,by go_num,.inr (.inr ⟨rfl,HLc.out⟩),HXc.out⟩
      case measure=>simp [intOf]
    · have HL8:=Lib.hid (LB2.none (T:=fun _=>False) hl (fun x hx=>hx.elim))
      clear hl hc0 hc1 HXr HK1 HK2
      go_wp2
      rw [show ((2 : Nat) : Int) = 2 from rfl]
      go_loopw [60] (fun s wr=>∃ (k : Nat) (x : Br),s = .int .i64 (k : Nat)∧k≤len0∧Hid (ApAt L0 k x)∧LB2 w3 (fun _=>False) ga gb wr x x) (fun s _=>len0 - (intOf s).toNat)
      case atStart=>exact ⟨0,apB,rfl,Nat.zero_le _,HK3,HL8.out⟩
      case round =>
        obtain ⟨k,x,rfl,hk,HA,hl⟩:=hrel
        have HLR:=Lib.hid hl
        have HBR:=Lib.hid (HB3.out.trans (hl.below0.mono hw3))
        have hw3r : w3.heap.size≤wr.heap.size:=hl.below0.size
        clear hl HL8 HK3
        by_cases hlt : k < len0
        · have dk : decide ((k : Int) < (len0 : Int)) = true:=decide_eq_true (by omega)
          have HSum:=Lib.hid (show sumL L0 (k + 1)≤6000 from Nat.le_trans (sumL_mono (show k + 1≤len0 from hlt)) HFW.out)
          obtain ⟨bb,off,rfl,hbB,hc⟩:=(HE0.out.below HBR.out).outer (by omega)
          obtain ⟨hc0,hc1,hc2,hc3⟩:=hc k hlt
          obtain ⟨⟨hw0,hw1,hw2⟩,hby,hcap,_⟩:=HE0.out.inner k hlt
          have HY:=Lib.hid (And.intro hby hcap)
          obtain ⟨q,hq7,hq⟩:=bits_any (K0 k) 7 (by decide)
          have HQ:=Lib.hid (And.intro hq7 hq)
          clear hc hby hcap hq7 hq hw0 hw2
          have HE:=Lib.hid (Bx.new wr wr.heap.size rfl #[.int .i64 (K0 k),.int .i64 (I0 k),.int .i64 (R0 k),.slice (A0 k) (L0 k) (C0 k)] 34)
          have hbe : Below wr.heap.size wr (wr.alloc (.cells #[.int .i64 (K0 k),.int .i64 (I0 k),.int .i64 (R0 k),.slice (A0 k) (L0 k) (C0 k)] 34)):=(Below.refl _ _).alloc (Nat.le_refl _) _
          have HL5:=Lib.hid (lb2_add (T:=fun y=>y = wr.heap.size) HLR.out hbe (fun x hx=>by subst hx; exact ⟨Nat.le_refl _,HE.out.room⟩))
          have HB5:=Lib.hid (Below.trans HBR.out (hbe.mono HBR.out.size))
          go_upto_region 18 with fail
          generalize wr.alloc (.cells #[.int .i64 (K0 k),.int .i64 (I0 k),.int .i64 (R0 k),.slice (A0 k) (L0 k) (C0 k)] 34) = w5 at *
          generalize wr.heap.size = ge at *
          have e0:=HE.out.cell 0 (.int .i64 (K0 k)) rfl
          have e1:=HE.out.cell 1 (.int .i64 (I0 k)) rfl
          have e2:=HE.out.cell 2 (.int .i64 (R0 k)) rfl
          have e3:=HE.out.cell 3 (.slice (A0 k) (L0 k) (C0 k)) rfl
          clear hc0 hc1 hc2 hc3 hbe HLR HBR
          by_cases h16 : I0 k = 16
          · have d16 : decide (I0 k = 16) = true:=decide_eq_true h16
            have d17 : (I0 k == 16) = true:=by simp [h16]
            have HLn:=Lib.hid (LB2.none (T:=fun _=>False) HL5.out (fun x hx=>hx.elim))
            clear h16 HL5 HY HQ HSum hw1 HE
            go_wp2
            go_roundw
            case rel=>exact ⟨k + 1,x,by go_num,by omega,Lib.hid HA.out.skip,HLn.out⟩
            case measure=>simp [intOf]; omega
          have d16 : decide (I0 k = 16) = false:=decide_eq_false h16
          have d17 : (I0 k == 16) = false:=by simp [h16]
          have hA : 0 < L0 k→∀ p,A0 k = some p→p.block < w3.heap.size:=fun hp p e=>by
            obtain ⟨b9,off9,e9,h9,_⟩:=HY.out.1.2 hp
            rw [e] at e9
            injection e9 with e9
            subst e9
            show b9 < w3.heap.size
            omega
          have HAw:=Lib.hid hA
          have HN:=Lib.hid (show 2200 + k * 2052 + sumL L0 k≤100000000∧sumL L0 k + L0 k≤1000000 by have:=HSum.out; have : sumL L0 (k + 1) = sumL L0 k + L0 k:=rfl; omega)
          have HDo:=Lib.hid (lb2_do (LW2.old (n:=L0 k) HL5.out HAw.out) HA.out.ev (by omega) HN.out.1 (K0 k) (I0 k) (R0 k) hw1 (HY.out.1.below HB5.out) HB5.out.size HY.out.2 HN.out.2 HQ.out.2 HQ.out.1)
          clear hA
          go_wp2_with fail
          refine HDo.out.mono ?_
          rintro e w6 ⟨rfl,hl6,ho6⟩
          have HE6:=Lib.hid (HE.out.keep ho6 (fun h=>h.2 rfl))
          have HL6:=Lib.hid hl6.symm
          have HB6:=Lib.hid (HB3.out.trans (hl6.below0.mono hw3))
          have e0:=HE6.out.cell 0 (.int .i64 (K0 k)) rfl
          have e1:=HE6.out.cell 1 (.int .i64 (I0 k)) rfl
          have e2:=HE6.out.cell 2 (.int .i64 (R0 k)) rfl
          have e3:=HE6.out.cell 3 (.slice (A0 k) (L0 k) (C0 k)) rfl
          have HDo2:=Lib.hid (lb2_do (LW2.old (n:=L0 k) HL6.out HAw.out) HA.out.ev (by omega) HN.out.1 (K0 k) (I0 k) (R0 k) hw1 (HY.out.1.below HB6.out) HB6.out.size HY.out.2 HN.out.2 HQ.out.2 HQ.out.1)
          clear hl6 ho6 HE HL5 HB5 HDo
          go_wp2_with fail
          refine HDo2.out.mono ?_
          rintro e w7 ⟨rfl,hl7,ho7⟩
          have HA7:=Lib.hid (HA.out.next q (I0 k) (R0 k) h16 (t:=T0 k) HY.out.1.1 HSum.out)
          have HL7:=Lib.hid (LB2.none (T:=fun _=>False) hl7.symm (fun x hx=>hx.elim))
          have hsr : ((str (doTx q x (I0 k) (R0 k))).toList == (str (doTx q x (I0 k) (R0 k))).toList) = true:=by simp
          clear hl7 ho7 HE6 HL6 HB6 HDo2 e0 e1 e2 e3 HY HQ hw1 HAw HN
          go_wp2
          go_roundw
          case rel=>exact ⟨k + 1,_,by go_num,by omega,HA7,HL7.out⟩
          case measure=>simp [intOf]; omega
        obtain rfl : k = len0:=by omega
        have dk : decide ((k : Int) < (k : Int)) = false:=decide_eq_false (by omega)
        have HRo:=Lib.hid (lb_role HLR.out.x HA.out.ev.ok 16 hid16)
        go_wp2_with fail
        refine HRo.out.mono ?_
        rintro e wx ⟨rfl,_,hbx⟩
        have HLx:=Lib.hid (HLR.out.below hbx)
        have HBx:=Lib.hid (Below.trans HBR.out (hbx.mono HBR.out.size))
        have hwx : w.heap.size≤wx.heap.size:=HBx.out.size
        clear hbx HLR HBR HRo
        obtain ⟨rh,hrh⟩ : ∃ rh,rhas x.fl.roles 16 = rh:=⟨_,rfl⟩
        rw [hrh]
        have HRH:=Lib.hid hrh
        clear hrh
        cases rh
        · clear HE0 HJ HJC HFW
          go_wp2
          go_ret
          exact ⟨rfl,HBx.out⟩
        have HTh:=Lib.hid (HA.out.there HRH.out jk).1
        have HEnd:=Lib.hid (HA.out.ends hf1 HFW.out HRH.out (junk:=jk) (by omega))
        go_wp2_with (first
          | (at_builtin
             refine wpList_put rfl (.tmp 96) (.tmp 97) rfl wx.heap.size (some ⟨wx.heap.size,0,none⟩) 2 2 [0#8,0#8] rfl (two_own wx) w.heap.size a1 len1 cap1 jk rfl (HJ.out.below (Below.trans HBx.out ((Below.refl _ _).alloc hwx _))) (by omega) (by simp) ?_
             intro A2 c2 w2 hown hbel
             have HO2:=Lib.hid hown
             have HB2:=Lib.hid (show Below wx.heap.size wx w2 from Below.trans ((Below.refl _ _).alloc (Nat.le_refl _) _) hbel)
             clear hown hbel))
        refine (lb2_bytes (LW2.made (n:=2 + len1) HLx.out HB2.out (fun p hp=>by subst hp; exact (HO2.out.row.lt p.block rfl).1)) HA.out.ev (by have:=HFW.out; omega) 16 hid16 c2 HO2.out.bytes (by omega)).mono ?_
        rintro e w3b ⟨rfl,hl3,ho3⟩
        rw [HTh.out]
        have HL3b:=Lib.hid hl3.symm
        clear hl3 ho3 HO2 HB2 HLx HBx
        go_wp2_with fail
        refine (show Calls Tryz.prog 44 #[.slice none 0 0,.agg #[.int .i64 4,.int .i64 0,.int .i64 0,.string ⟨#[]⟩]] w3b (NewBytes w3b (enc bye)) from put_new bye bye_ok w3b).mono ?_
        rintro e w4b ⟨A4,c4,rfl,hy4,hn4,_,hb4⟩
        have HW4:=Lib.hid (LW2.made (n:=(enc bye).length) HL3b.out hb4 hn4)
        have HY4:=Lib.hid hy4
        clear hy4 hn4 hb4 HL3b
        go_wp2_with fail
        refine (lb2_bytes HW4.out HA.out.ev (by have:=HFW.out; omega) 16 hid16 c4 HY4.out (by rw [enc_len5]; decide)).mono ?_
        rintro e w5b ⟨rfl,hl5,ho5⟩
        rw [HTh.out]
        obtain ⟨xa0,hxa⟩ : ∃ y,bytesB x 16 (0#8 :: 0#8 :: jk) = y:=⟨_,rfl⟩
        obtain ⟨xb0,hxb⟩ : ∃ y,bytesB x 16 (enc bye) = y:=⟨_,rfl⟩
        have HL5b:=Lib.hid (show LB2 w3 (fun _=>False) ga gb w5b xa0 xb0 by rw [← hxa,← hxb]; exact hl5.symm)
        have HE5:=Lib.hid (show ApEnd xa0 xb0 by rw [← hxa,← hxb]; exact HEnd.out)
        clear hl5 ho5 hxa hxb HW4 HY4 HTh HEnd HA HRH HJ HJC HE0 HFW
        go_wp2
        go_loopw [17] (fun s wr=>∃ (j : Nat) (xa xb : Br),s = .int .i64 (j : Nat)∧1≤j∧j≤16∧Hid (ApEnd xa xb)∧LB2 w3 (fun _=>False) ga gb wr xa xb) (fun s _=>16 - (intOf s).toNat)
        case atStart=>exact ⟨1,xa0,xb0,rfl,Nat.le_refl _,by decide,HE5,HL5b.out⟩
        case round =>
          obtain ⟨j,xa,xb,rfl,hj1,hj2,HE,hl⟩:=hrel
          have HL:=Lib.hid hl
          clear hl HE5 HL5b
          by_cases hj : j < 16
          · have dj : decide ((j : Int) < 16) = true:=decide_eq_true (by omega)
            have hwj : wf64 (j : Nat):=wf_id (by omega)
            obtain ⟨e1,e2,e3⟩:=HE.out.write (j:=j) (by omega)
            obtain ⟨tw,htw⟩ : ∃ y,writeT xa (j : Nat) 70000 = y:=⟨_,rfl⟩
            obtain ⟨we,hwe⟩ : ∃ y,writeE xa (j : Nat) = y:=⟨_,rfl⟩
            have HWa:=lb2_write HL.out HE.out.eva.ok (j : Nat) 70000 hwj
            rw [htw,hwe] at HWa
            rw [htw] at e1
            rw [hwe] at e2
            have HWa:=Lib.hid HWa
            have HE1:=Lib.hid e1
            have HE2:=Lib.hid e2
            have HE3:=Lib.hid e3
            clear e1 e2 e3 htw hwe
            go_wp2_with fail
            refine HWa.out.mono ?_
            rintro e wp ⟨Ap,mp,cp,rfl,hlp,hop,hyp,hcp⟩
            have HLp:=Lib.hid hlp.symm
            have HYp:=Lib.hid hyp
            have HWb:=lb2_write HLp.out HE.out.evb.ok (j : Nat) 70000 hwj
            rw [HE1.out,HE2.out] at HWb
            have HWb:=Lib.hid HWb
            clear hlp hop hyp HWa HL
            go_wp2_with fail
            refine HWb.out.mono ?_
            rintro e wq ⟨Aq,mq,cq,rfl,hlq,hoq,hyq,hcq⟩
            have HLq:=Lib.hid (LB2.none (T:=fun _=>False) hlq.symm (fun x hx=>hx.elim))
            have hcv1:=conv_str (cap:=cp) (HYp.out.only hoq (Nat.le_refl _) fun _ p hp hn=>hn.2 (.inr ⟨p,hp,rfl⟩))
            have hcv2:=conv_str (cap:=cq) hyq
            have hsr : ((str tw).toList == (str tw).toList) = true:=by simp
            clear hlq hoq hyq HWb HLp HYp HE HE1 HE2
            go_wp2
            go_roundw
            case rel=>exact ⟨j + 1,_,_,by go_num,by omega,by omega,HE3,HLq.out⟩
            case measure=>simp [intOf]; omega
          · obtain rfl : j = 16:=by omega
            have HRo:=Lib.hid (lb_role HL.out.x HE.out.eva.ok 16 hid16)
            have HO:=Lib.hid HE.out.out
            go_wp2_with fail
            refine HRo.out.mono ?_
            rintro e wz ⟨rfl,_,hbz⟩
            rw [HO.out.1]
            have HLz:=Lib.hid (HL.out.below hbz)
            have HH1:=Lib.hid (lb_holder HLz.out.x HE.out.eva.ok)
            clear hbz HL HRo
            go_wp2_with fail
            refine HH1.out.mono ?_
            rintro e wy ⟨rfl,_,hby⟩
            have HLy:=Lib.hid (HLz.out.below hby)
            have HH2:=Lib.hid (lb_holder HLy.out.symm.x HE.out.evb.ok)
            clear hby HLz HH1
            go_wp2_with fail
            refine HH2.out.mono ?_
            rintro e wv ⟨rfl,_,hbv⟩
            rw [HO.out.2]
            have HLv:=Lib.hid (HLy.out.below hbv)
            clear hbv HLy HH2
            go_wp2
            exact bodyPost_ret (v:=.bool true) (by simp [results,Tryz.results7,go_sem]) rfl ⟨rfl,HB3.out.trans (HLv.out.below0.mono hw3)⟩
theorem w_in : Tryz.checked.prog.inits.idxOf? 7 = none:=by kernel_rfl
theorem w_ok (os : Os) : Input.okWideB Tryz.prog ((World.doorLaid Tryz.prog 400 os).forCall (fun _ _=>0) ⟨#[],#[.slice none 0 0,.slice none 0 0],[]⟩) 7 ⟨#[],#[.slice none 0 0,.slice none 0 0],[]⟩ = true:=by kernel_rfl
theorem w_pre (os : Os) (H : Type) (enc : TypeId×Value→H) : Rows.brokerApartSpec.preB enc Tryz.prog Tryz.f7 [] false ((World.doorLaid Tryz.prog 400 os).forCall (fun _ _=>0) ⟨#[],#[.slice none 0 0,.slice none 0 0],[]⟩).memory #[.slice none 0 0,.slice none 0 0] 8 = true:=by kernel_rfl
theorem w_sz (os : Os) (H : Type) (enc : TypeId×Value→H) : Rows.brokerApartSpec.sizedB enc Tryz.prog Tryz.f7 false ((World.doorLaid Tryz.prog 400 os).forCall (fun _ _=>0) ⟨#[],#[.slice none 0 0,.slice none 0 0],[]⟩).memory #[.slice none 0 0,.slice none 0 0] 8 = true:=by kernel_rfl
set_option maxRecDepth 100000 in
theorem lifted (os : Os) (started : os.Started) (H : Type) (enc : TypeId×Value→H) :
    ReturnsInHanded {} Tryz.checked os 7 .any (fun w args=>(Rows.brokerApartSpec.pre enc Tryz.prog Tryz.f7 [] false w args∧laidMetH Tryz.prog laidL w)∧sizedMet enc Tryz.prog Tryz.f7 (OpenSpec.ofChange Rows.brokerApartSpec) false w args)
      (Rows.brokerApartSpec.post enc Tryz.prog Tryz.f7 false true false false):=by
  refine returnsInHanded_of_change_and (C:=Tryz.checked) (X:=fun w _=>laidMetH Tryz.prog laidL w) (fun _ _ _ hh h=>h.of_heap hh) own started w_in Tryz.func7
    (ChangeSpec.witness_shaped (enc:=enc) (C:=Tryz.checked) (os:=os) (X:=fun w _=>laidMetH Tryz.prog laidL w) false (World.doorLaid Tryz.prog 400 os) #[.slice none 0 0,.slice none 0 0] 8 rfl (door_shaped os _) (w_ok os) (w_pre os H enc) (w_sz os H enc) (door_met os _)) ?_
  intro W base args ds gs before hval0 hW hcnd hsz0 hL _
  have hti:=ti_of hL
  have hval : ∀ (j : Nat) t v,Tryz.f7.params[j]? = some t→args[j]? = some v→Value.okWide Tryz.prog W .any base t v:=hval0
  have hW':=hW
  obtain ⟨p,q,hA0,hV,rfl,hfz,hnd⟩:=hW
  have hsz : (DataW.weightsEach Tryz.prog (Tryz.f7.params.toList ++ Rows.brokerApartSpec.plain.varTypes Tryz.prog) (ds ++ gs)).all (·≤reachBytes) = true:=hsz0
  have hA : DataW.TrodAll enc Tryz.prog W 0 (fun _=>true) true Tryz.f7.params.toList args.toList ds p:=hA0
  rw [Tryz.params7] at hA hval hsz
  obtain ⟨v0,vs0,d0,ds0,p0,q0,hargs,rfl,rfl,h0,r0⟩:=trodAll_cons hA
  obtain ⟨v1,vs1,d1,ds1,p1,q1,rfl,rfl,rfl,h1,r1⟩:=trodAll_cons r0
  obtain ⟨rfl,rfl,rfl⟩:=trodAll_nil r1
  obtain rfl : args = #[v0,v1]:=by cases args; simp_all
  obtain ⟨rfl,rfl⟩:=trodVars_none hV
  obtain ⟨a0,len0,cap0,rfl⟩:=okWide_slice Tryz.underlying24 (hval 0 24 v0 rfl rfl)
  have k0:=h0
  have lt0 : ∀ x∈p0,x.block < W.heap.size:=by obtain ⟨m,hm⟩:=k0; exact DataW.trod_lt m _ _ _ hm
  obtain ⟨K0,I0,R0,A0,L0,C0,T0,w0,g0⟩ : ∃ K I R A L C T,Ievs W W.heap.size a0 len0 K I R A L C T∧len0≤cap0∧cap0≤maxLen:=by
    obtain ⟨fuel,hf⟩:=h0
    exact open_ievs hf (fits_of hsz (j:=0) rfl rfl)
  obtain ⟨a1,len1,cap1,rfl⟩:=okWide_slice Tryz.underlying32 (hval 1 32 v1 rfl rfl)
  have k1:=h1
  have lt1 : ∀ x∈p1,x.block < W.heap.size:=by obtain ⟨m,hm⟩:=k1; exact DataW.trod_lt m _ _ _ hm
  obtain ⟨z1,w1⟩ : ∃ zs,IsRow .u8 W a1 len1 cap1 zs:=by
    obtain ⟨fuel,hf⟩:=h1
    exact open_brow hf
  clear hA0 hval0 hsz hsz0
  refine (walk a0 len0 cap0 K0 I0 R0 A0 L0 C0 T0 a1 len1 cap1 z1 W w0 g0 w1 hti).mono fun e W' ⟨he,bel⟩=>?_
  subst he
  exact ⟨_,rfl,_,_,_,[],_,[],hW',trodAll_mk1 (shut_bool Tryz.underlying4 _),(trodAll_cons_mk (Below.trod laidOut (by kernel_rfl) (of_decide_eq_true (by kernel_rfl)) k0 bel lt0) (trodAll_cons_mk (Below.trod laidOut (by kernel_rfl) (of_decide_eq_true (by kernel_rfl)) k1 bel lt1) trodAll_mk0)),rfl,bel.frame _,fun h=>by cases h⟩
theorem q0 : (Rows.brokerApartRow.wf (OpenSpec.ofChange Rows.brokerApartSpec)) = true:=by kernel_rfl
theorem q3 : (Tryz.f7.params.all (Tryz.prog.readableRec ·)) = true:=by kernel_rfl
theorem q4 : (namedTie Tryz.prog Rows.brokerApartRow.named Rows.brokerApartSpec.vars) = true:=by kernel_rfl
theorem q5 : ((Rows.brokerApartRow.stops == [])) = true:=by kernel_rfl
theorem q7 : ((Rows.brokerApartRow.knobs == [])) = true:=by kernel_rfl
theorem q9 : ((Rows.brokerApartRow.inPlace == Tryz.prog.inPlace 7)) = true:=by kernel_rfl
theorem q10 : ((Rows.brokerApartRow.unfollowed == Tryz.prog.unfollowed 7)) = true:=by kernel_rfl
theorem q11 : ((Rows.brokerApartRow.recurses == Tryz.prog.recurses 7)) = true:=by kernel_rfl
theorem q12 : ((Rows.brokerApartRow.named == Tryz.prog.varsNamed 7)) = true:=by kernel_rfl
theorem q13 : ((Rows.brokerApartRow.maps == (Tryz.f7.params.toList ++ Rows.brokerApartSpec.plain.varTypes Tryz.prog).any (Tryz.prog.mapsRec ·))) = true:=by kernel_rfl
theorem q14 : ((Rows.brokerApartRow.ifaces == (Tryz.f7.params.toList ++ Rows.brokerApartSpec.plain.varTypes Tryz.prog).any (Tryz.prog.ifacesRec ·))) = true:=by kernel_rfl
theorem q15 : ((Rows.brokerApartRow.mapsOut == Tryz.prog.mapsAmong Tryz.f7.resultTypes.toList)) = true:=by kernel_rfl
theorem q16 : ((Rows.brokerApartRow.loops == (Tryz.f7.params.toList ++ Rows.brokerApartSpec.plain.varTypes Tryz.prog).any (Tryz.prog.loopsFrom ·))) = true:=by kernel_rfl
theorem q17 : ((Rows.brokerApartRow.wideKeys == (Tryz.f7.params.toList ++ Rows.brokerApartSpec.plain.varTypes Tryz.prog ++ Tryz.f7.resultTypes.toList).any (Tryz.prog.wideKeysFrom ·))) = true:=by kernel_rfl
theorem q18 : (Rows.brokerApartSpec.vars.all (Tryz.prog.varReadable ·)) = true:=by kernel_rfl
theorem q19 : (Tryz.f7.resultTypes.all (fun t=>Tryz.prog.readableRec t && decide (t < Tryz.prog.types.size))) = true:=by kernel_rfl
theorem q20 : ((Rows.brokerApartRow.ifacesOut == Tryz.f7.resultTypes.toList.any (Tryz.prog.ifacesRec ·))) = true:=by kernel_rfl
theorem q21 : ((Rows.brokerApartRow.loopsOut == Tryz.f7.resultTypes.toList.any (Tryz.prog.loopsFrom ·))) = true:=by kernel_rfl
theorem q22 : ((Rows.brokerApartRow.plainKeys == Tryz.prog.plainKeys)) = true:=(show Rows.brokerApartRow.plainKeys = Rows.brokerEventsRow.plainKeys from rfl) ▸ pq22
theorem q23 : (Rows.brokerApartRow.shortTexts.isNone) = true:=by kernel_rfl
theorem q26 : ((Rows.brokerApartRow.lifted == Tryz.prog.liftsFinal)) = true:=(show Rows.brokerApartRow.lifted = Rows.brokerEventsRow.lifted from rfl) ▸ pq26
theorem q27 : ((Tryz.prog.make == some Rows.brokerApartRow.make)) = true:=(show Rows.brokerApartRow.make = Rows.brokerEventsRow.make from rfl) ▸ pq27
theorem q28 : kindsAre Tryz.prog Rows.brokerApartRow Tryz.f7 = true:=by kernel_rfl
theorem q29 : ((Rows.brokerApartRow.pinned == Rows.brokerApartRow.pinnedBy)) = true:=by kernel_rfl
theorem q30 : ((Rows.brokerApartRow.veiled == (Tryz.f7.params.toList ++ Rows.brokerApartSpec.plain.varTypes Tryz.prog ++ Tryz.f7.resultTypes.toList).any (Tryz.prog.veiledRec ·))) = true:=by kernel_rfl
theorem q31 : (Rows.brokerApartRow.veiledFits Tryz.prog Tryz.f7.params.toList (Tryz.f7.params.toList ++ Rows.brokerApartSpec.plain.varTypes Tryz.prog ++ Tryz.f7.resultTypes.toList)) = true:=by kernel_rfl
theorem q_named : Tryz.prog.funcNamed Rows.brokerApartRow.func = some 7:=by kernel_rfl
theorem q_inst : Tryz.f7.isInstance Tryz.prog Rows.brokerApartRow.origin Rows.brokerApartRow.targs:=of_decide_eq_true (by kernel_rfl)
theorem q_wrap : Tryz.f7.isWrapper Tryz.prog Rows.brokerApartRow.wrapper Rows.brokerApartRow.mainSum:=by unfold Func.isWrapper; first | (rw [if_pos (by decide +kernel)]; kernel_rfl) | (rw [if_neg (by decide +kernel)]; exact ⟨rfl,rfl⟩)
set_option maxRecDepth 100000 in
theorem q_all : joinedFacts Tryz.prog 7 Tryz.f7 Rows.brokerApartSpec Rows.brokerApartRow = true:=joined_of (P:=Tryz.prog) (f:=7) (fn:=Tryz.f7) (s:=Rows.brokerApartSpec) (c:=Rows.brokerApartRow) q0 pq1 pq2 q3 q4 q5 pq6 q7 pq8 q9 q10 q11 q12 q13 q14 q15 q16 q17 q18 q19 q20 q21 q22 q23 pq24 pq25 q26 q27 q28 q29 q30 q31
theorem over : Rows.BrokerApartSaid:=
  OpenClaim.holds_of_wide 7 Tryz.f7 rfl rfl rfl rfl rfl rfl rfl ⟨rfl,rfl,rfl,rfl,rfl⟩ rfl rfl rfl rfl rfl q_named Tryz.func7 q_all q_inst q_wrap
    (fun os started H enc _=>lifted os started H enc)
theorem c_wf : Rows.brokerApartRow.wfByText (OpenSpec.ofChange Rows.brokerApartSpec) = true:=by kernel_rfl
theorem c_looks : true = Tryz.prog.looks []:=by kernel_rfl
theorem c_stand : ([24,32].all fun u=>!Tryz.prog.wantsStandIn u) = true:=by kernel_rfl
theorem c_goes : false = Rows.brokerApartRow.goesBy Tryz.prog:=by kernel_rfl
end Go.Proofs.YtjmdddhbdofppaaGreatDoor.brokerApart
namespace Go.Proofs.YtjmdddhbdofppaaGreatDoor
theorem brokerApart_holds : Rows.BrokerApartCardSaid:=
  Claim7.holds_tied_plain_at (c:=Rows.brokerApartRow) .later [] _ true _ true
    brokerApart.over (fun _ h=>by cases h) brokerApart.c_wf (fun _ h=>by cases h) brokerApart_row_tie rfl ⟨rfl,rfl⟩ main_is rfl
    (fun f fn hf hfn=>by
      obtain rfl : f = 7:=Option.some.inj (brokerApart.q_named.symm.trans hf) |>.symm
      obtain rfl : fn = Tryz.f7:=(Option.some.inj (Tryz.func7.symm.trans hfn)).symm
      exact ⟨brokerApart.c_looks,fun j t ht=>by
        rw [Tryz.params7] at ht
        have hm : t∈[24,32]:=by simpa using Array.mem_of_getElem? ht
        exact (show Tryz.prog.wantsStandIn t = false by simpa using List.all_eq_true.1 brokerApart.c_stand t hm)⟩)
    brokerApart.c_goes
#print axioms brokerApart_holds
end Go.Proofs.YtjmdddhbdofppaaGreatDoor
