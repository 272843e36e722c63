/- The law's own Do, whatever event; Few. -/
import Derived.Test.YtjmdddhbdofppaaGreatDoorZi10
import Derived.Test.YtjmdddhbdofppaaGreatDoorZi41
import Derived.Test.YtjmdddhbdofppaaGreatDoorZiInse
namespace Go.Proofs.YtjmdddhbdofppaaGreatDoor
open Go.RowKit Go.Shelf Go.Maps
open Fr Bk
noncomputable def doEv (q : Nat) (b : Br) (id n : Int) (t : Bs) : Br:=
  match q with
  | 0=>connectB b id | 1=>bytesB b id t | 2=>writeB b id n | 3=>outputB b t | 4=>drainB b n | 5=>tickB b | 6=>cutB b id | _=>endB b n
def doTx (q : Nat) (b : Br) (id n : Int) : Bs:=match q with | 2=>writeT b id n | 4=>drainT b n | _=>[]
def doEx (q : Nat) (b : Br) (id n : Int) : Nat:=match q with | 0=>connectE b id | 1=>bytesE b id | 2=>writeE b id | 3=>outputE b | 6=>writeE b id | 7=>endE b n | _=>0
theorem EGives.from {F : Fp} {g : Nat} {w w1 : World} {b2 : Br} {v v' : Value} {w' : World} (h : EGives F g w1 b2 v (.returned v) w') (hb : Below w.heap.size w w1) : EGives F g w b2 v' (.returned v') w':=by
  obtain ⟨F2,rs,_,h1,h2,h3⟩:=h
  refine ⟨F2,rs,rfl,h1,fun x hx=>?_,((only_of_below hb).mono fun x _ h=>h.elim).trans h3⟩
  rcases h2 x hx with e | e
  · exact .inl e
  · exact .inr (Nat.le_trans hb.size e)
set_option maxRecDepth 100000 in
theorem ldo0 {F : Fp} {g : Nat} {rs : List (Int×Int)} {w : World} {b : Br} {i T m : Nat} (h : BrIs F g rs w b) (_he : EvOk b i T m) (_hi : i≤1000000000) (_hT : T≤100000000) (k id n : Int) (_hid : wf64 id) {A : Option Addr} {L C B : Nat} {t : Bs} (_ht : Bytes w B A L t) (_hB : B≤w.heap.size) (_hLC : L≤C) (_hne : 0 < L→∀ p,A = some p→¬ Own1 F p.block) (_hm : m + L≤1000000) (hq : bits .and .i64 k 7 = 0) :
    Calls Tryz.prog 24 #[.pointer (some (at0 g)),.agg #[.int .i64 k,.int .i64 id,.int .i64 n,.slice A L C]] w fun e w'=>EGives F g w (connectB b id) (.tuple #[.string (str ([])),.int .i64 (connectE b id : Nat)]) e w':=by
  have HB:=Lib.hid ((Below.refl w.heap.size w).alloc (Nat.le_refl _) (.cells #[.int .i64 k,.int .i64 id,.int .i64 n,.slice A L C] 34))
  have HO:=Lib.hid (only_of_below HB.out)
  have HA:=Lib.hid HB.out.size
  have hx:=Bx.new w _ rfl #[.int .i64 k,.int .i64 id,.int .i64 n,.slice A L C] 34
  have x0:=hx.cell 0 _ rfl
  have x1:=hx.cell 1 _ rfl
  have x2:=hx.cell 2 _ rfl
  have x3:=hx.cell 3 _ rfl
  clear hx
  have HC:=Lib.hid (bconnect_any (h.quiet HO.out) _he.ok id _hid)
  clear h _he _ht _hne _hm _hB
  go_enter Tryz.func24,Tryz.ntmps24
  go_wp2_with fail
  refine HC.out.mono ?_
  intro e w' hg
  obtain rfl : e = .returned (.int .i64 (connectE b id : Nat)):=by obtain ⟨_,_,h9,_⟩:=hg; exact h9
  go_wp2
  exact bodyPost_ret (by simp [results,Tryz.results24,go_sem]; rfl) rfl (hg.from HB.out)
set_option maxRecDepth 100000 in
theorem ldo1 {F : Fp} {g : Nat} {rs : List (Int×Int)} {w : World} {b : Br} {i T m : Nat} (h : BrIs F g rs w b) (_he : EvOk b i T m) (_hi : i≤1000000000) (_hT : T≤100000000) (k id n : Int) (_hid : wf64 id) {A : Option Addr} {L C B : Nat} {t : Bs} (_ht : Bytes w B A L t) (_hB : B≤w.heap.size) (_hLC : L≤C) (_hne : 0 < L→∀ p,A = some p→¬ Own1 F p.block) (_hm : m + L≤1000000) (hq : bits .and .i64 k 7 = 1) :
    Calls Tryz.prog 24 #[.pointer (some (at0 g)),.agg #[.int .i64 k,.int .i64 id,.int .i64 n,.slice A L C]] w fun e w'=>EGives F g w (bytesB b id t) (.tuple #[.string (str ([])),.int .i64 (bytesE b id : Nat)]) e w':=by
  have HB:=Lib.hid ((Below.refl w.heap.size w).alloc (Nat.le_refl _) (.cells #[.int .i64 k,.int .i64 id,.int .i64 n,.slice A L C] 34))
  have HO:=Lib.hid (only_of_below HB.out)
  have HA:=Lib.hid HB.out.size
  have hx:=Bx.new w _ rfl #[.int .i64 k,.int .i64 id,.int .i64 n,.slice A L C] 34
  have x0:=hx.cell 0 _ rfl
  have x1:=hx.cell 1 _ rfl
  have x2:=hx.cell 2 _ rfl
  have x3:=hx.cell 3 _ rfl
  clear hx
  have HC:=Lib.hid (bbytes_any (h.quiet HO.out) _he _hT id _hid C (_ht.below (HB.out.mono _hB)) (by have:=_hm; omega) _hne)
  clear h _he _ht _hne _hm _hB
  go_enter Tryz.func24,Tryz.ntmps24
  go_wp2_with fail
  refine HC.out.mono ?_
  intro e w' hg
  obtain rfl : e = .returned (.int .i64 (bytesE b id : Nat)):=by obtain ⟨_,_,h9,_⟩:=hg; exact h9
  go_wp2
  exact bodyPost_ret (by simp [results,Tryz.results24,go_sem]; rfl) rfl (hg.from HB.out)
set_option maxRecDepth 100000 in
theorem ldo2 {F : Fp} {g : Nat} {rs : List (Int×Int)} {w : World} {b : Br} {i T m : Nat} (h : BrIs F g rs w b) (_he : EvOk b i T m) (_hi : i≤1000000000) (_hT : T≤100000000) (k id n : Int) (_hid : wf64 id) {A : Option Addr} {L C B : Nat} {t : Bs} (_ht : Bytes w B A L t) (_hB : B≤w.heap.size) (_hLC : L≤C) (_hne : 0 < L→∀ p,A = some p→¬ Own1 F p.block) (_hm : m + L≤1000000) (hq : bits .and .i64 k 7 = 2) :
    Calls Tryz.prog 24 #[.pointer (some (at0 g)),.agg #[.int .i64 k,.int .i64 id,.int .i64 n,.slice A L C]] w fun e w'=>EGives F g w (writeB b id n) (.tuple #[.string (str (writeT b id n)),.int .i64 (writeE b id : Nat)]) e w':=by
  have HB:=Lib.hid ((Below.refl w.heap.size w).alloc (Nat.le_refl _) (.cells #[.int .i64 k,.int .i64 id,.int .i64 n,.slice A L C] 34))
  have HO:=Lib.hid (only_of_below HB.out)
  have HA:=Lib.hid HB.out.size
  have hx:=Bx.new w _ rfl #[.int .i64 k,.int .i64 id,.int .i64 n,.slice A L C] 34
  have x0:=hx.cell 0 _ rfl
  have x1:=hx.cell 1 _ rfl
  have x2:=hx.cell 2 _ rfl
  have x3:=hx.cell 3 _ rfl
  clear hx
  have HC:=Lib.hid (bwrite_any (h.quiet HO.out) _he.ok id n _hid)
  clear h _he _ht _hne _hm _hB
  go_enter Tryz.func24,Tryz.ntmps24
  go_wp2_with fail
  refine HC.out.mono ?_
  rintro e w' ⟨a2,m2,c2,hg,hy,_,_⟩
  obtain rfl : e = .returned (.tuple #[.slice a2 m2 c2,.int .i64 (writeE b id : Nat)]):=by obtain ⟨_,_,h9,_⟩:=hg; exact h9
  have hcv:=conv_str (cap:=c2) hy
  go_wp2
  exact bodyPost_ret (by simp [results,Tryz.results24,go_sem]) rfl (hg.from HB.out)
set_option maxRecDepth 100000 in
theorem ldo3 {F : Fp} {g : Nat} {rs : List (Int×Int)} {w : World} {b : Br} {i T m : Nat} (h : BrIs F g rs w b) (_he : EvOk b i T m) (_hi : i≤1000000000) (_hT : T≤100000000) (k id n : Int) (_hid : wf64 id) {A : Option Addr} {L C B : Nat} {t : Bs} (_ht : Bytes w B A L t) (_hB : B≤w.heap.size) (_hLC : L≤C) (_hne : 0 < L→∀ p,A = some p→¬ Own1 F p.block) (_hm : m + L≤1000000) (hq : bits .and .i64 k 7 = 3) :
    Calls Tryz.prog 24 #[.pointer (some (at0 g)),.agg #[.int .i64 k,.int .i64 id,.int .i64 n,.slice A L C]] w fun e w'=>EGives F g w (outputB b t) (.tuple #[.string (str ([])),.int .i64 (outputE b : Nat)]) e w':=by
  have HB:=Lib.hid ((Below.refl w.heap.size w).alloc (Nat.le_refl _) (.cells #[.int .i64 k,.int .i64 id,.int .i64 n,.slice A L C] 34))
  have HO:=Lib.hid (only_of_below HB.out)
  have HA:=Lib.hid HB.out.size
  have hx:=Bx.new w _ rfl #[.int .i64 k,.int .i64 id,.int .i64 n,.slice A L C] 34
  have x0:=hx.cell 0 _ rfl
  have x1:=hx.cell 1 _ rfl
  have x2:=hx.cell 2 _ rfl
  have x3:=hx.cell 3 _ rfl
  clear hx
  have HC:=Lib.hid (boutput_any (h.quiet HO.out) _he.ok _he.sp A L C B t (_ht.below (HB.out.mono _hB)) (by have:=HA.out; have:=_hB; omega) _hLC _hne (by have:=_he.len; have:=_hm; omega))
  clear h _he _ht _hne _hm _hB
  go_enter Tryz.func24,Tryz.ntmps24
  go_wp2_with fail
  refine HC.out.mono ?_
  intro e w' hg
  obtain rfl : e = .returned (.int .i64 (outputE b : Nat)):=by obtain ⟨_,_,h9,_⟩:=hg; exact h9
  go_wp2
  exact bodyPost_ret (by simp [results,Tryz.results24,go_sem]; rfl) rfl (hg.from HB.out)
set_option maxRecDepth 100000 in
theorem ldo4 {F : Fp} {g : Nat} {rs : List (Int×Int)} {w : World} {b : Br} {i T m : Nat} (h : BrIs F g rs w b) (_he : EvOk b i T m) (_hi : i≤1000000000) (_hT : T≤100000000) (k id n : Int) (_hid : wf64 id) {A : Option Addr} {L C B : Nat} {t : Bs} (_ht : Bytes w B A L t) (_hB : B≤w.heap.size) (_hLC : L≤C) (_hne : 0 < L→∀ p,A = some p→¬ Own1 F p.block) (_hm : m + L≤1000000) (hq : bits .and .i64 k 7 = 4) :
    Calls Tryz.prog 24 #[.pointer (some (at0 g)),.agg #[.int .i64 k,.int .i64 id,.int .i64 n,.slice A L C]] w fun e w'=>EGives F g w (drainB b n) (.tuple #[.string (str (drainT b n)),.int .i64 (0 : Nat)]) e w':=by
  have HB:=Lib.hid ((Below.refl w.heap.size w).alloc (Nat.le_refl _) (.cells #[.int .i64 k,.int .i64 id,.int .i64 n,.slice A L C] 34))
  have HO:=Lib.hid (only_of_below HB.out)
  have HA:=Lib.hid HB.out.size
  have hx:=Bx.new w _ rfl #[.int .i64 k,.int .i64 id,.int .i64 n,.slice A L C] 34
  have x0:=hx.cell 0 _ rfl
  have x1:=hx.cell 1 _ rfl
  have x2:=hx.cell 2 _ rfl
  have x3:=hx.cell 3 _ rfl
  clear hx
  have HC:=Lib.hid (bdrain_any (h.quiet HO.out) n)
  clear h _he _ht _hne _hm _hB
  go_enter Tryz.func24,Tryz.ntmps24
  go_wp2_with fail
  refine HC.out.mono ?_
  rintro e w' ⟨a2,m2,c2,F2,rfl,h1,h2,h3,hy⟩
  have hg : EGives F g _ (drainB b n) (.slice a2 m2 c2) (.returned (.slice a2 m2 c2)) w':=⟨F2,rs,rfl,h1,h2,h3⟩
  have hcv:=conv_str (cap:=c2) hy
  go_wp2
  exact bodyPost_ret (by simp [results,Tryz.results24,go_sem]) rfl (hg.from HB.out)
set_option maxRecDepth 100000 in
theorem ldo5 {F : Fp} {g : Nat} {rs : List (Int×Int)} {w : World} {b : Br} {i T m : Nat} (h : BrIs F g rs w b) (_he : EvOk b i T m) (_hi : i≤1000000000) (_hT : T≤100000000) (k id n : Int) (_hid : wf64 id) {A : Option Addr} {L C B : Nat} {t : Bs} (_ht : Bytes w B A L t) (_hB : B≤w.heap.size) (_hLC : L≤C) (_hne : 0 < L→∀ p,A = some p→¬ Own1 F p.block) (_hm : m + L≤1000000) (hq : bits .and .i64 k 7 = 5) :
    Calls Tryz.prog 24 #[.pointer (some (at0 g)),.agg #[.int .i64 k,.int .i64 id,.int .i64 n,.slice A L C]] w fun e w'=>EGives F g w (tickB b) (.tuple #[.string (str ([])),.int .i64 (0 : Nat)]) e w':=by
  have HB:=Lib.hid ((Below.refl w.heap.size w).alloc (Nat.le_refl _) (.cells #[.int .i64 k,.int .i64 id,.int .i64 n,.slice A L C] 34))
  have HO:=Lib.hid (only_of_below HB.out)
  have HA:=Lib.hid HB.out.size
  have hx:=Bx.new w _ rfl #[.int .i64 k,.int .i64 id,.int .i64 n,.slice A L C] 34
  have x0:=hx.cell 0 _ rfl
  have x1:=hx.cell 1 _ rfl
  have x2:=hx.cell 2 _ rfl
  have x3:=hx.cell 3 _ rfl
  clear hx
  have HC:=Lib.hid (btick_any (h.quiet HO.out) _he.ok (nn:=i) (fun k c hc=>(_he.cn k c hc).1) _hi)
  clear h _he _ht _hne _hm _hB
  go_enter Tryz.func24,Tryz.ntmps24
  go_wp2_with fail
  refine HC.out.mono ?_
  intro e w' hg
  obtain rfl : e = .returned (.tuple #[]):=by obtain ⟨_,_,h9,_⟩:=hg; exact h9
  go_wp2
  exact bodyPost_ret (by simp [results,Tryz.results24,go_sem]; rfl) rfl (hg.from HB.out)
set_option maxRecDepth 100000 in
theorem ldo6 {F : Fp} {g : Nat} {rs : List (Int×Int)} {w : World} {b : Br} {i T m : Nat} (h : BrIs F g rs w b) (_he : EvOk b i T m) (_hi : i≤1000000000) (_hT : T≤100000000) (k id n : Int) (_hid : wf64 id) {A : Option Addr} {L C B : Nat} {t : Bs} (_ht : Bytes w B A L t) (_hB : B≤w.heap.size) (_hLC : L≤C) (_hne : 0 < L→∀ p,A = some p→¬ Own1 F p.block) (_hm : m + L≤1000000) (hq : bits .and .i64 k 7 = 6) :
    Calls Tryz.prog 24 #[.pointer (some (at0 g)),.agg #[.int .i64 k,.int .i64 id,.int .i64 n,.slice A L C]] w fun e w'=>EGives F g w (cutB b id) (.tuple #[.string (str ([])),.int .i64 (writeE b id : Nat)]) e w':=by
  have HB:=Lib.hid ((Below.refl w.heap.size w).alloc (Nat.le_refl _) (.cells #[.int .i64 k,.int .i64 id,.int .i64 n,.slice A L C] 34))
  have HO:=Lib.hid (only_of_below HB.out)
  have HA:=Lib.hid HB.out.size
  have hx:=Bx.new w _ rfl #[.int .i64 k,.int .i64 id,.int .i64 n,.slice A L C] 34
  have x0:=hx.cell 0 _ rfl
  have x1:=hx.cell 1 _ rfl
  have x2:=hx.cell 2 _ rfl
  have x3:=hx.cell 3 _ rfl
  clear hx
  have HC:=Lib.hid (bcut_any (h.quiet HO.out) _he.ok id _hid)
  clear h _he _ht _hne _hm _hB
  go_enter Tryz.func24,Tryz.ntmps24
  go_wp2_with fail
  refine HC.out.mono ?_
  intro e w' hg
  obtain rfl : e = .returned (.int .i64 (writeE b id : Nat)):=by obtain ⟨_,_,h9,_⟩:=hg; exact h9
  go_wp2
  exact bodyPost_ret (by simp [results,Tryz.results24,go_sem]; rfl) rfl (hg.from HB.out)
set_option maxRecDepth 100000 in
theorem ldo7 {F : Fp} {g : Nat} {rs : List (Int×Int)} {w : World} {b : Br} {i T m : Nat} (h : BrIs F g rs w b) (_he : EvOk b i T m) (_hi : i≤1000000000) (_hT : T≤100000000) (k id n : Int) (_hid : wf64 id) {A : Option Addr} {L C B : Nat} {t : Bs} (_ht : Bytes w B A L t) (_hB : B≤w.heap.size) (_hLC : L≤C) (_hne : 0 < L→∀ p,A = some p→¬ Own1 F p.block) (_hm : m + L≤1000000) (hq : bits .and .i64 k 7 = 7) :
    Calls Tryz.prog 24 #[.pointer (some (at0 g)),.agg #[.int .i64 k,.int .i64 id,.int .i64 n,.slice A L C]] w fun e w'=>EGives F g w (endB b n) (.tuple #[.string (str ([])),.int .i64 (endE b n : Nat)]) e w':=by
  have HB:=Lib.hid ((Below.refl w.heap.size w).alloc (Nat.le_refl _) (.cells #[.int .i64 k,.int .i64 id,.int .i64 n,.slice A L C] 34))
  have HO:=Lib.hid (only_of_below HB.out)
  have HA:=Lib.hid HB.out.size
  have hx:=Bx.new w _ rfl #[.int .i64 k,.int .i64 id,.int .i64 n,.slice A L C] 34
  have x0:=hx.cell 0 _ rfl
  have x1:=hx.cell 1 _ rfl
  have x2:=hx.cell 2 _ rfl
  have x3:=hx.cell 3 _ rfl
  clear hx
  have HC:=Lib.hid (bend_any (h.quiet HO.out) _he.ok n)
  clear h _he _ht _hne _hm _hB
  go_enter Tryz.func24,Tryz.ntmps24
  go_wp2_with fail
  refine HC.out.mono ?_
  intro e w' hg
  obtain rfl : e = .returned (.int .i64 (endE b n : Nat)):=by obtain ⟨_,_,h9,_⟩:=hg; exact h9
  go_wp2
  exact bodyPost_ret (by simp [results,Tryz.results24,go_sem]; rfl) rfl (hg.from HB.out)
theorem ldo_any {F : Fp} {g : Nat} {rs : List (Int×Int)} {w : World} {b : Br} {i T m : Nat} (h : BrIs F g rs w b) (he : EvOk b i T m) (hi : i≤1000000000) (hT : T≤100000000) (k id n : Int) (hid : wf64 id) {A : Option Addr} {L C B : Nat} {t : Bs} (ht : Bytes w B A L t) (hB : B≤w.heap.size) (hLC : L≤C) (hne : 0 < L→∀ p,A = some p→¬ Own1 F p.block) (hm : m + L≤1000000) {q : Nat} (hq : bits .and .i64 k 7 = (q : Int)) (hq7 : q≤7) :
    Calls Tryz.prog 24 #[.pointer (some (at0 g)),.agg #[.int .i64 k,.int .i64 id,.int .i64 n,.slice A L C]] w fun e w'=>EGives F g w (doEv q b id n t) (.tuple #[.string (str (doTx q b id n)),.int .i64 (doEx q b id n : Nat)]) e w':=by
  rcases (by omega : q = 0∨q = 1∨q = 2∨q = 3∨q = 4∨q = 5∨q = 6∨q = 7) with rfl | rfl | rfl | rfl | rfl | rfl | rfl | rfl
  · exact ldo0 h he hi hT k id n hid ht hB hLC hne hm hq
  · exact ldo1 h he hi hT k id n hid ht hB hLC hne hm hq
  · exact ldo2 h he hi hT k id n hid ht hB hLC hne hm hq
  · exact ldo3 h he hi hT k id n hid ht hB hLC hne hm hq
  · exact ldo4 h he hi hT k id n hid ht hB hLC hne hm hq
  · exact ldo5 h he hi hT k id n hid ht hB hLC hne hm hq
  · exact ldo6 h he hi hT k id n hid ht hB hLC hne hm hq
  · exact ldo7 h he hi hT k id n hid ht hB hLC hne hm hq
def sumL (Ln : Nat→Nat) : Nat→Nat
  | 0=>0
  | j + 1=>sumL Ln j + Ln j
theorem sumL_mono {Ln : Nat→Nat} : ∀ {a b : Nat},a≤b→sumL Ln a≤sumL Ln b
  | a,0,h=>by
    obtain rfl : a = 0:=by omega
    exact Nat.le_refl _
  | a,b + 1,h=>by
    by_cases e : a = b + 1
    · subst e; exact Nat.le_refl _
    · exact Nat.le_trans (sumL_mono (show a≤b by omega)) (Nat.le_add_right _ _)
end Go.Proofs.YtjmdddhbdofppaaGreatDoor
