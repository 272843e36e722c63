/- POrt -/
import Derived.Test.YthkbgopimgnbgaaGreatDoorZd02
import Derived.Test.YthkbgopimgnbgaaGreatDoorZd10
import Derived.Test.YthkbgopimgnbgaaGreatDoorZd32

section
namespace Go.Proofs.YthkbgopimgnbgaaGreatDoor
open Go.RowKit
open Dgs Orm
structure TI (w : World) : Prop where
  tab : Lib.TabIs Tryz.prog w "internal/strconv.uint64pow10" .u64 Lib.pow10Tab
  words : ∀ k,k < 12→w.cell? ⟨1,k,none⟩ = some (.string (str (wd k)))
  es : ∃ tp p,w.var? Tryz.prog "strconv.ErrSyntax" = some #[.iface tp p]
  er : ∃ tp p,w.var? Tryz.prog "strconv.ErrRange" = some #[.iface tp p]
set_option maxRecDepth 100000 in
theorem var_below {P : Program} {n : String} {cs : Array Value} {w w' : World} (h : w.var? P n = some cs) (hb : Below w.heap.size w w') : w'.var? P n = some cs:=by
  unfold World.var? at *
  cases hg : P.globalNamed n with
  | none=>simp [hg] at h
  | some g =>
    simp only [hg,Option.bind_some] at h ⊢
    have hlt : g < w.heap.size:=by
      rcases Nat.lt_or_ge g w.heap.size with h' | h'
      · exact h'
      · rw [Array.getElem?_eq_none h'] at h; simp at h
    rw [hb.block g hlt]
    exact h
set_option maxRecDepth 100000 in
theorem TI.below {w w' : World} (h : TI w) (hb : Below w.heap.size w w') : TI w':=by
  refine ⟨var_below h.tab hb,fun k hk=>?_,?_,?_⟩
  · have h1:=h.words k hk
    exact (hb.cell (cell_lt h1)).trans h1
  · obtain ⟨tp,p,h1⟩:=h.es
    exact ⟨tp,p,var_below h1 hb⟩
  · obtain ⟨tp,p,h1⟩:=h.er
    exact ⟨tp,p,var_below h1 hb⟩
set_option maxRecDepth 100000 in
theorem below_grow (w : World) (k : Nat) (os : Array Obj) : Below w.heap.size w (Sort.grow (w.drewN k) os):=
  ⟨rfl,rfl,rfl,by simp,fun i hi=>Sort.heap_grow_old (w.drewN k) os hi⟩
set_option maxRecDepth 100000 in
theorem itoa_str (n : Int) (h : 0≤n) : (⟨(Lib.itoa n).toArray⟩ : ByteArray) = str (dgs n.toNat):=by
  have e : Lib.itoa n = Lib.decDigits n.toNat:=by
    have:=Lib.itoa_nonneg n.toNat
    rwa [show ((n.toNat : Nat) : Int) = n by omega] at this
  rw [e,← dgs_lib]
  unfold str
  rw [List.map_map]
  show _ = (⟨(List.map id (Lib.decDigits n.toNat)).toArray⟩ : ByteArray)
  simp
set_option maxRecDepth 100000 in
theorem fmt_any (n : Int) (h0 : 0≤n) (h1 : n≤9223372036854775807) (w : World) (ht : TI w) :
    Calls Tryz.prog 83 #[.int .i64 n,.int .i64 10] w fun e w'=>e = .returned (.string (str (dgs n.toNat)))∧Below w.heap.size w w':=by
  refine (Tryz.strconv_FormatInt_10 n (by omega) h1 w ht.tab).mono ?_
  rintro e w' ⟨rfl,k,os,rfl⟩
  exact ⟨by rw [itoa_str n h0],below_grow w k os⟩
def TextGives (w : World) (s : Bs) (e : Ending) (w' : World) : Prop:=e = .returned (.string (str s))∧Below w.heap.size w w'
set_option maxRecDepth 100000 in
theorem ltext_none (k n : Int) (w : World) (h : ¬ Rt k n) : Calls Tryz.prog 62 #[.agg #[.int .i64 k,.int .i64 n]] w (TextGives w []):=by
  have hb:=Lib.hid (show Below w.heap.size w (w.alloc (.cells #[.int .i64 k,.int .i64 n] 108)) from (Below.refl _ _).alloc (Nat.le_refl _) _)
  rcases (show k < 1∨(¬ k < 1∧11 < k)∨(¬ k < 1∧¬ 11 < k∧n < 0)∨(¬ k < 1∧¬ 11 < k∧¬ n < 0∧1099511627776 < n)∨(¬ k < 1∧¬ 11 < k∧¬ n < 0∧¬ 1099511627776 < n∧k < 6∧0 < n) by
    rcases Int.lt_or_le k 1 with h1 | h1
    · omega
    rcases Int.lt_or_le 11 k with h2 | h2
    · omega
    rcases Int.lt_or_le n 0 with h3 | h3
    · omega
    rcases Int.lt_or_le 1099511627776 n with h4 | h4
    · omega
    rcases Int.lt_or_le k 6 with h5 | h5
    · rcases Int.lt_or_le 0 n with h6 | h6
      · omega
      · exact absurd ⟨h1,h2,h3,h4,fun _=>by omega⟩ h
    · exact absurd ⟨h1,h2,h3,h4,fun h=>by omega⟩ h) with h1 | ⟨h1,h2⟩ | ⟨h1,h2,h3⟩ | ⟨h1,h2,h3,h4⟩ | ⟨h1,h2,h3,h4,h5,h6⟩
  · clear h
    go_enter Tryz.func62,Tryz.ntmps62
    go_wp2
    go_ret
    exact ⟨rfl,hb.out⟩
  · clear h
    go_enter Tryz.func62,Tryz.ntmps62
    go_wp2
    go_ret
    exact ⟨rfl,hb.out⟩
  · clear h
    go_enter Tryz.func62,Tryz.ntmps62
    go_wp2
    go_ret
    exact ⟨rfl,hb.out⟩
  · clear h
    go_enter Tryz.func62,Tryz.ntmps62
    go_wp2
    go_ret
    exact ⟨rfl,hb.out⟩
  · clear h
    go_enter Tryz.func62,Tryz.ntmps62
    go_wp2
    go_ret
    exact ⟨rfl,hb.out⟩
set_option maxRecDepth 100000 in
theorem ltext_1 (w : World) : Calls Tryz.prog 62 #[.agg #[.int .i64 1,.int .i64 0]] w (TextGives w (tx 1 0)):=by
  have hb:=Lib.hid (show Below w.heap.size w ((w.alloc (.cells #[.int .i64 1,.int .i64 0] 108)).alloc (.cells #[.string ⟨#[]⟩,.string ⟨#[102,108,111,111,114]⟩,.string ⟨#[100,114,111,112]⟩,.string ⟨#[108,105,115,116]⟩,.string ⟨#[100,101,116,97,99,104]⟩,.string ⟨#[114,101,118,111,107,101]⟩,.string ⟨#[103,105,118,101]⟩,.string ⟨#[107,105,99,107]⟩,.string ⟨#[119,114,105,116,101]⟩,.string ⟨#[119,97,116,99,104]⟩,.string ⟨#[114,101,112,108,97,121]⟩,.string ⟨#[108,105,109,105,116]⟩] 9)) from ((Below.refl _ _).alloc (Nat.le_refl _) _).alloc (by simp) _)
  have hs : tx 1 0 = wd 1:=tx_word (k:=1) (by omega)
  rw [hs]
  clear hs
  go_enter Tryz.func62,Tryz.ntmps62
  go_wp2
  go_ret
  exact ⟨rfl,hb.out⟩
set_option maxRecDepth 100000 in
theorem ltext_2 (w : World) : Calls Tryz.prog 62 #[.agg #[.int .i64 2,.int .i64 0]] w (TextGives w (tx 2 0)):=by
  have hb:=Lib.hid (show Below w.heap.size w ((w.alloc (.cells #[.int .i64 2,.int .i64 0] 108)).alloc (.cells #[.string ⟨#[]⟩,.string ⟨#[102,108,111,111,114]⟩,.string ⟨#[100,114,111,112]⟩,.string ⟨#[108,105,115,116]⟩,.string ⟨#[100,101,116,97,99,104]⟩,.string ⟨#[114,101,118,111,107,101]⟩,.string ⟨#[103,105,118,101]⟩,.string ⟨#[107,105,99,107]⟩,.string ⟨#[119,114,105,116,101]⟩,.string ⟨#[119,97,116,99,104]⟩,.string ⟨#[114,101,112,108,97,121]⟩,.string ⟨#[108,105,109,105,116]⟩] 9)) from ((Below.refl _ _).alloc (Nat.le_refl _) _).alloc (by simp) _)
  have hs : tx 2 0 = wd 2:=tx_word (k:=2) (by omega)
  rw [hs]
  clear hs
  go_enter Tryz.func62,Tryz.ntmps62
  go_wp2
  go_ret
  exact ⟨rfl,hb.out⟩
set_option maxRecDepth 100000 in
theorem ltext_3 (w : World) : Calls Tryz.prog 62 #[.agg #[.int .i64 3,.int .i64 0]] w (TextGives w (tx 3 0)):=by
  have hb:=Lib.hid (show Below w.heap.size w ((w.alloc (.cells #[.int .i64 3,.int .i64 0] 108)).alloc (.cells #[.string ⟨#[]⟩,.string ⟨#[102,108,111,111,114]⟩,.string ⟨#[100,114,111,112]⟩,.string ⟨#[108,105,115,116]⟩,.string ⟨#[100,101,116,97,99,104]⟩,.string ⟨#[114,101,118,111,107,101]⟩,.string ⟨#[103,105,118,101]⟩,.string ⟨#[107,105,99,107]⟩,.string ⟨#[119,114,105,116,101]⟩,.string ⟨#[119,97,116,99,104]⟩,.string ⟨#[114,101,112,108,97,121]⟩,.string ⟨#[108,105,109,105,116]⟩] 9)) from ((Below.refl _ _).alloc (Nat.le_refl _) _).alloc (by simp) _)
  have hs : tx 3 0 = wd 3:=tx_word (k:=3) (by omega)
  rw [hs]
  clear hs
  go_enter Tryz.func62,Tryz.ntmps62
  go_wp2
  go_ret
  exact ⟨rfl,hb.out⟩
set_option maxRecDepth 100000 in
theorem ltext_4 (w : World) : Calls Tryz.prog 62 #[.agg #[.int .i64 4,.int .i64 0]] w (TextGives w (tx 4 0)):=by
  have hb:=Lib.hid (show Below w.heap.size w ((w.alloc (.cells #[.int .i64 4,.int .i64 0] 108)).alloc (.cells #[.string ⟨#[]⟩,.string ⟨#[102,108,111,111,114]⟩,.string ⟨#[100,114,111,112]⟩,.string ⟨#[108,105,115,116]⟩,.string ⟨#[100,101,116,97,99,104]⟩,.string ⟨#[114,101,118,111,107,101]⟩,.string ⟨#[103,105,118,101]⟩,.string ⟨#[107,105,99,107]⟩,.string ⟨#[119,114,105,116,101]⟩,.string ⟨#[119,97,116,99,104]⟩,.string ⟨#[114,101,112,108,97,121]⟩,.string ⟨#[108,105,109,105,116]⟩] 9)) from ((Below.refl _ _).alloc (Nat.le_refl _) _).alloc (by simp) _)
  have hs : tx 4 0 = wd 4:=tx_word (k:=4) (by omega)
  rw [hs]
  clear hs
  go_enter Tryz.func62,Tryz.ntmps62
  go_wp2
  go_ret
  exact ⟨rfl,hb.out⟩
set_option maxRecDepth 100000 in
theorem ltext_5 (w : World) : Calls Tryz.prog 62 #[.agg #[.int .i64 5,.int .i64 0]] w (TextGives w (tx 5 0)):=by
  have hb:=Lib.hid (show Below w.heap.size w ((w.alloc (.cells #[.int .i64 5,.int .i64 0] 108)).alloc (.cells #[.string ⟨#[]⟩,.string ⟨#[102,108,111,111,114]⟩,.string ⟨#[100,114,111,112]⟩,.string ⟨#[108,105,115,116]⟩,.string ⟨#[100,101,116,97,99,104]⟩,.string ⟨#[114,101,118,111,107,101]⟩,.string ⟨#[103,105,118,101]⟩,.string ⟨#[107,105,99,107]⟩,.string ⟨#[119,114,105,116,101]⟩,.string ⟨#[119,97,116,99,104]⟩,.string ⟨#[114,101,112,108,97,121]⟩,.string ⟨#[108,105,109,105,116]⟩] 9)) from ((Below.refl _ _).alloc (Nat.le_refl _) _).alloc (by simp) _)
  have hs : tx 5 0 = wd 5:=tx_word (k:=5) (by omega)
  rw [hs]
  clear hs
  go_enter Tryz.func62,Tryz.ntmps62
  go_wp2
  go_ret
  exact ⟨rfl,hb.out⟩
set_option maxRecDepth 100000 in
theorem ltext_6 (n : Int) (w : World) (h0 : 0≤n) (h1 : n≤1099511627776) (ht : TI w) : Calls Tryz.prog 62 #[.agg #[.int .i64 6,.int .i64 n]] w (TextGives w (tx 6 n)):=by
  have hb:=Lib.hid (show Below w.heap.size w ((w.alloc (.cells #[.int .i64 6,.int .i64 n] 108)).alloc (.cells #[.string ⟨#[]⟩,.string ⟨#[102,108,111,111,114]⟩,.string ⟨#[100,114,111,112]⟩,.string ⟨#[108,105,115,116]⟩,.string ⟨#[100,101,116,97,99,104]⟩,.string ⟨#[114,101,118,111,107,101]⟩,.string ⟨#[103,105,118,101]⟩,.string ⟨#[107,105,99,107]⟩,.string ⟨#[119,114,105,116,101]⟩,.string ⟨#[119,97,116,99,104]⟩,.string ⟨#[114,101,112,108,97,121]⟩,.string ⟨#[108,105,109,105,116]⟩] 9)) from ((Below.refl _ _).alloc (Nat.le_refl _) _).alloc (by simp) _)
  have hf:=fmt_any n h0 (by omega) _ (ht.below hb.out)
  have hs : str (tx 6 n) = (⟨#[103,105,118,101]⟩ : ByteArray) ++ ⟨#[32]⟩ ++ str (dgs n.toNat):=by
    rw [show tx 6 n = wd 6 ++ [32#8] ++ dgs n.toNat from tx_pre (k:=6) (by omega),str_app,str_app]
    rfl
  have HS:=Lib.hid hs
  have hl:=str_size (dgs n.toNat)
  have hl2:=dgs_len n.toNat 12 (by omega)
  clear hs ht
  go_enter Tryz.func62,Tryz.ntmps62
  go_wp2_with fail
  refine hf.mono ?_
  rintro e w1 ⟨rfl,hb1⟩
  have HB:=Lib.hid (Below.trans hb.out (hb1.mono hb.out.size))
  clear hb1 hf
  generalize str (dgs n.toNat) = d at *
  go_wp2
  go_ret
  exact ⟨congrArg (fun s=>Ending.returned (.string s)) HS.out.symm,HB.out⟩
set_option maxRecDepth 100000 in
theorem ltext_7 (n : Int) (w : World) (h0 : 0≤n) (h1 : n≤1099511627776) (ht : TI w) : Calls Tryz.prog 62 #[.agg #[.int .i64 7,.int .i64 n]] w (TextGives w (tx 7 n)):=by
  have hb:=Lib.hid (show Below w.heap.size w ((w.alloc (.cells #[.int .i64 7,.int .i64 n] 108)).alloc (.cells #[.string ⟨#[]⟩,.string ⟨#[102,108,111,111,114]⟩,.string ⟨#[100,114,111,112]⟩,.string ⟨#[108,105,115,116]⟩,.string ⟨#[100,101,116,97,99,104]⟩,.string ⟨#[114,101,118,111,107,101]⟩,.string ⟨#[103,105,118,101]⟩,.string ⟨#[107,105,99,107]⟩,.string ⟨#[119,114,105,116,101]⟩,.string ⟨#[119,97,116,99,104]⟩,.string ⟨#[114,101,112,108,97,121]⟩,.string ⟨#[108,105,109,105,116]⟩] 9)) from ((Below.refl _ _).alloc (Nat.le_refl _) _).alloc (by simp) _)
  have hf:=fmt_any n h0 (by omega) _ (ht.below hb.out)
  have hs : str (tx 7 n) = (⟨#[107,105,99,107]⟩ : ByteArray) ++ ⟨#[32]⟩ ++ str (dgs n.toNat):=by
    rw [show tx 7 n = wd 7 ++ [32#8] ++ dgs n.toNat from tx_pre (k:=7) (by omega),str_app,str_app]
    rfl
  have HS:=Lib.hid hs
  have hl:=str_size (dgs n.toNat)
  have hl2:=dgs_len n.toNat 12 (by omega)
  clear hs ht
  go_enter Tryz.func62,Tryz.ntmps62
  go_wp2_with fail
  refine hf.mono ?_
  rintro e w1 ⟨rfl,hb1⟩
  have HB:=Lib.hid (Below.trans hb.out (hb1.mono hb.out.size))
  clear hb1 hf
  generalize str (dgs n.toNat) = d at *
  go_wp2
  go_ret
  exact ⟨congrArg (fun s=>Ending.returned (.string s)) HS.out.symm,HB.out⟩
set_option maxRecDepth 100000 in
theorem ltext_8 (n : Int) (w : World) (h0 : 0≤n) (h1 : n≤1099511627776) (ht : TI w) : Calls Tryz.prog 62 #[.agg #[.int .i64 8,.int .i64 n]] w (TextGives w (tx 8 n)):=by
  have hb:=Lib.hid (show Below w.heap.size w ((w.alloc (.cells #[.int .i64 8,.int .i64 n] 108)).alloc (.cells #[.string ⟨#[]⟩,.string ⟨#[102,108,111,111,114]⟩,.string ⟨#[100,114,111,112]⟩,.string ⟨#[108,105,115,116]⟩,.string ⟨#[100,101,116,97,99,104]⟩,.string ⟨#[114,101,118,111,107,101]⟩,.string ⟨#[103,105,118,101]⟩,.string ⟨#[107,105,99,107]⟩,.string ⟨#[119,114,105,116,101]⟩,.string ⟨#[119,97,116,99,104]⟩,.string ⟨#[114,101,112,108,97,121]⟩,.string ⟨#[108,105,109,105,116]⟩] 9)) from ((Below.refl _ _).alloc (Nat.le_refl _) _).alloc (by simp) _)
  have hf:=fmt_any n h0 (by omega) _ (ht.below hb.out)
  have hs : str (tx 8 n) = (⟨#[119,114,105,116,101]⟩ : ByteArray) ++ ⟨#[32]⟩ ++ str (dgs n.toNat):=by
    rw [show tx 8 n = wd 8 ++ [32#8] ++ dgs n.toNat from tx_pre (k:=8) (by omega),str_app,str_app]
    rfl
  have HS:=Lib.hid hs
  have hl:=str_size (dgs n.toNat)
  have hl2:=dgs_len n.toNat 12 (by omega)
  clear hs ht
  go_enter Tryz.func62,Tryz.ntmps62
  go_wp2_with fail
  refine hf.mono ?_
  rintro e w1 ⟨rfl,hb1⟩
  have HB:=Lib.hid (Below.trans hb.out (hb1.mono hb.out.size))
  clear hb1 hf
  generalize str (dgs n.toNat) = d at *
  go_wp2
  go_ret
  exact ⟨congrArg (fun s=>Ending.returned (.string s)) HS.out.symm,HB.out⟩
set_option maxRecDepth 100000 in
theorem ltext_9 (n : Int) (w : World) (h0 : 0≤n) (h1 : n≤1099511627776) (ht : TI w) : Calls Tryz.prog 62 #[.agg #[.int .i64 9,.int .i64 n]] w (TextGives w (tx 9 n)):=by
  have hb:=Lib.hid (show Below w.heap.size w ((w.alloc (.cells #[.int .i64 9,.int .i64 n] 108)).alloc (.cells #[.string ⟨#[]⟩,.string ⟨#[102,108,111,111,114]⟩,.string ⟨#[100,114,111,112]⟩,.string ⟨#[108,105,115,116]⟩,.string ⟨#[100,101,116,97,99,104]⟩,.string ⟨#[114,101,118,111,107,101]⟩,.string ⟨#[103,105,118,101]⟩,.string ⟨#[107,105,99,107]⟩,.string ⟨#[119,114,105,116,101]⟩,.string ⟨#[119,97,116,99,104]⟩,.string ⟨#[114,101,112,108,97,121]⟩,.string ⟨#[108,105,109,105,116]⟩] 9)) from ((Below.refl _ _).alloc (Nat.le_refl _) _).alloc (by simp) _)
  have hf:=fmt_any n h0 (by omega) _ (ht.below hb.out)
  have hs : str (tx 9 n) = (⟨#[119,97,116,99,104]⟩ : ByteArray) ++ ⟨#[32]⟩ ++ str (dgs n.toNat):=by
    rw [show tx 9 n = wd 9 ++ [32#8] ++ dgs n.toNat from tx_pre (k:=9) (by omega),str_app,str_app]
    rfl
  have HS:=Lib.hid hs
  have hl:=str_size (dgs n.toNat)
  have hl2:=dgs_len n.toNat 12 (by omega)
  clear hs ht
  go_enter Tryz.func62,Tryz.ntmps62
  go_wp2_with fail
  refine hf.mono ?_
  rintro e w1 ⟨rfl,hb1⟩
  have HB:=Lib.hid (Below.trans hb.out (hb1.mono hb.out.size))
  clear hb1 hf
  generalize str (dgs n.toNat) = d at *
  go_wp2
  go_ret
  exact ⟨congrArg (fun s=>Ending.returned (.string s)) HS.out.symm,HB.out⟩
set_option maxRecDepth 100000 in
theorem ltext_10 (n : Int) (w : World) (h0 : 0≤n) (h1 : n≤1099511627776) (ht : TI w) : Calls Tryz.prog 62 #[.agg #[.int .i64 10,.int .i64 n]] w (TextGives w (tx 10 n)):=by
  have hb:=Lib.hid (show Below w.heap.size w ((w.alloc (.cells #[.int .i64 10,.int .i64 n] 108)).alloc (.cells #[.string ⟨#[]⟩,.string ⟨#[102,108,111,111,114]⟩,.string ⟨#[100,114,111,112]⟩,.string ⟨#[108,105,115,116]⟩,.string ⟨#[100,101,116,97,99,104]⟩,.string ⟨#[114,101,118,111,107,101]⟩,.string ⟨#[103,105,118,101]⟩,.string ⟨#[107,105,99,107]⟩,.string ⟨#[119,114,105,116,101]⟩,.string ⟨#[119,97,116,99,104]⟩,.string ⟨#[114,101,112,108,97,121]⟩,.string ⟨#[108,105,109,105,116]⟩] 9)) from ((Below.refl _ _).alloc (Nat.le_refl _) _).alloc (by simp) _)
  have hf:=fmt_any n h0 (by omega) _ (ht.below hb.out)
  have hs : str (tx 10 n) = (⟨#[114,101,112,108,97,121]⟩ : ByteArray) ++ ⟨#[32]⟩ ++ str (dgs n.toNat):=by
    rw [show tx 10 n = wd 10 ++ [32#8] ++ dgs n.toNat from tx_pre (k:=10) (by omega),str_app,str_app]
    rfl
  have HS:=Lib.hid hs
  have hl:=str_size (dgs n.toNat)
  have hl2:=dgs_len n.toNat 12 (by omega)
  clear hs ht
  go_enter Tryz.func62,Tryz.ntmps62
  go_wp2_with fail
  refine hf.mono ?_
  rintro e w1 ⟨rfl,hb1⟩
  have HB:=Lib.hid (Below.trans hb.out (hb1.mono hb.out.size))
  clear hb1 hf
  generalize str (dgs n.toNat) = d at *
  go_wp2
  go_ret
  exact ⟨congrArg (fun s=>Ending.returned (.string s)) HS.out.symm,HB.out⟩
set_option maxRecDepth 100000 in
theorem ltext_11 (n : Int) (w : World) (h0 : 0≤n) (h1 : n≤1099511627776) (ht : TI w) : Calls Tryz.prog 62 #[.agg #[.int .i64 11,.int .i64 n]] w (TextGives w (tx 11 n)):=by
  have hb:=Lib.hid (show Below w.heap.size w ((w.alloc (.cells #[.int .i64 11,.int .i64 n] 108)).alloc (.cells #[.string ⟨#[]⟩,.string ⟨#[102,108,111,111,114]⟩,.string ⟨#[100,114,111,112]⟩,.string ⟨#[108,105,115,116]⟩,.string ⟨#[100,101,116,97,99,104]⟩,.string ⟨#[114,101,118,111,107,101]⟩,.string ⟨#[103,105,118,101]⟩,.string ⟨#[107,105,99,107]⟩,.string ⟨#[119,114,105,116,101]⟩,.string ⟨#[119,97,116,99,104]⟩,.string ⟨#[114,101,112,108,97,121]⟩,.string ⟨#[108,105,109,105,116]⟩] 9)) from ((Below.refl _ _).alloc (Nat.le_refl _) _).alloc (by simp) _)
  have hf:=fmt_any n h0 (by omega) _ (ht.below hb.out)
  have hs : str (tx 11 n) = (⟨#[108,105,109,105,116]⟩ : ByteArray) ++ ⟨#[32]⟩ ++ str (dgs n.toNat):=by
    rw [show tx 11 n = wd 11 ++ [32#8] ++ dgs n.toNat from tx_pre (k:=11) (by omega),str_app,str_app]
    rfl
  have HS:=Lib.hid hs
  have hl:=str_size (dgs n.toNat)
  have hl2:=dgs_len n.toNat 12 (by omega)
  clear hs ht
  go_enter Tryz.func62,Tryz.ntmps62
  go_wp2_with fail
  refine hf.mono ?_
  rintro e w1 ⟨rfl,hb1⟩
  have HB:=Lib.hid (Below.trans hb.out (hb1.mono hb.out.size))
  clear hb1 hf
  generalize str (dgs n.toNat) = d at *
  go_wp2
  go_ret
  exact ⟨congrArg (fun s=>Ending.returned (.string s)) HS.out.symm,HB.out⟩
set_option maxRecDepth 100000 in
theorem ltext_any (k n : Int) (w : World) (ht : TI w) : Calls Tryz.prog 62 #[.agg #[.int .i64 k,.int .i64 n]] w (TextGives w (text k n)):=by
  by_cases h : Rt k n
  · rw [text_of h]
    by_cases h5 : k≤5
    · obtain rfl:=h.z h5
      rcases (show k = 1∨k = 2∨k = 3∨k = 4∨k = 5 by have:=h.k0; omega) with rfl | rfl | rfl | rfl | rfl
      · exact ltext_1 w
      · exact ltext_2 w
      · exact ltext_3 w
      · exact ltext_4 w
      · exact ltext_5 w
    · rcases (show k = 6∨k = 7∨k = 8∨k = 9∨k = 10∨k = 11 by have:=h.k1; omega) with rfl | rfl | rfl | rfl | rfl | rfl
      · exact ltext_6 n w h.n0 h.n1 ht
      · exact ltext_7 n w h.n0 h.n1 ht
      · exact ltext_8 n w h.n0 h.n1 ht
      · exact ltext_9 n w h.n0 h.n1 ht
      · exact ltext_10 n w h.n0 h.n1 ht
      · exact ltext_11 n w h.n0 h.n1 ht
  · rw [text_none h]
    exact ltext_none k n w h
end Go.Proofs.YthkbgopimgnbgaaGreatDoor
end
