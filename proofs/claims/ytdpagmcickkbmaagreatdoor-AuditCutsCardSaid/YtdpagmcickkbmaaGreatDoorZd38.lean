/- PFox PFoy -/
import Derived.Test.YtdpagmcickkbmaaGreatDoorZd22
import Derived.Test.YtdpagmcickkbmaaGreatDoorZd33
namespace Go.Proofs.YtdpagmcickkbmaaGreatDoor
set_option maxRecDepth 100000
open Go.Lib renaming hid → lj
section
open Go.RowKit
theorem holds_of_rw {w:World} {b off n c:Nat} {l:List Int} (h:Rw 0 w (some ⟨b,off,none⟩) n c (ints l)):Go.Sort.Holds (Value.int .i64) w b off l.toArray:=by
 rcases h.lies with ⟨e,_⟩ | ⟨g,o,e,_,_,h3,h4⟩
 ·cases e
 ·injection e with e
  injection e with e1 e2
  subst e1 e2;intro j hj
  have hj':j<l.length:=by simpa using hj
  have hl:=h.len;rw [ints_len] at hl;refine ⟨?_,(h4 j (by have:=h.cap; omega)).2⟩;rw [h3 j _ (ints_get l j hj')];simp [List.getD_eq_getElem?_getD,List.getElem?_eq_getElem hj']
theorem only_putRow (w:World) (q b off:Nat) (d:Array Int):Only (fun k=>k=b) w (Go.Sort.putRow (Value.int .i64) (Go.Sort.ahead w q) b off d):=by
 refine ⟨rfl,rfl,rfl,by simp,fun k hk hne=>?_⟩
 have:b≠k:=fun e=>hne e.symm
 simp [Go.Sort.putRow,Go.Sort.mapBlock,Go.Sort.ahead,Array.getElem?_modify,this]
theorem rw_putRow {w:World} {b off n c q:Nat} {l:List Int} (h:Rw 0 w (some ⟨b,off,none⟩) n c (ints l)) (d:List Int) (hd:d.length=n) (k:Nat) (hk:k≤n) :
  Rw 0 (Go.Sort.putRow (Value.int .i64) (Go.Sort.ahead w q) b off d.toArray) (some ⟨b,off,none⟩) k c (ints (d.take k)):=by
 have hH:=holds_of_rw h;have hl:=h.len;rw [ints_len] at hl
 have hc:∀ j,j<n→World.cell? (Go.Sort.putRow (Value.int .i64) (Go.Sort.ahead w q) b off d.toArray) ⟨b,off+j,none⟩=some (.int .i64 (d.getD j 0)):=fun j hj=>by
  rw [Go.Sort.cell?_putRow (Value.int .i64) (Go.Sort.ahead w q) b off l.toArray d.toArray hH (by simp; omega) j (by simp; omega)];simp [List.getD_eq_getElem?_getD,List.getElem?_eq_getElem (show j<d.length by omega)]
 have hlt:=h.lt rfl
 have h4:∀ j,j<c→(w.cell? ⟨b,off+j,none⟩).isSome=true∧w.frozen? ⟨b,off+j,none⟩=false:=by
  rcases h.lies with ⟨e,_⟩ | ⟨g,o,e,_,_,_,h4⟩
  ·cases e
  ·injection e with e
   injection e with e1 e2
   subst e1 e2;exact h4
 refine ⟨by rw [ints_len,List.length_take]; omega,Nat.le_trans hk h.cap,h.max,ints_one _,.inr ⟨b,off,rfl,Nat.zero_le _,by simpa using hlt.2,fun j v hj=>?_,fun j hj=>?_⟩⟩
 ·have hjk:j<(d.take k).length:=by
   rcases Nat.lt_or_ge j (d.take k).length with h' | h'
   ·exact h'
   ·rw [List.getElem?_eq_none (by rw [ints_len]; exact h')] at hj; cases hj
  rw [ints_get _ j hjk] at hj;rw [List.length_take] at hjk;rw [hc j (by omega),← hj];simp [List.getD_eq_getElem?_getD,show j<k by omega]
 ·rw [Go.Sort.frozen?_putRow]
  refine ⟨?_,(h4 j hj).2⟩
  rcases Nat.lt_or_ge j n with h' | h'
  ·rw [hc j h']; rfl
  ·rw [Go.Sort.cell?_putRow_other _ _ _ _ _ _ (Or.inr (Or.inr (by show off+d.toArray.size≤off+j; simp; omega)))]
   exact (h4 j hj).1
theorem clos_gives (id x:Int) (B:Nat) (W:World) (hc:W.cell? ⟨B,0,none⟩=some (.int .i64 id)) :
  FnGives Tryz.prog 139 #[.pointer (some ⟨B,0,none⟩)] #[.int .i64 x] (.bool (decide (x=id))) W:=by
 show Calls Tryz.prog 139 #[.int .i64 x,.pointer (some ⟨B,0,none⟩)] W _
 have e:(x == id)=decide (x=id):=by by_cases h:x=id <;> simp [h]
 rw [← e];clear e
 go_enter Tryz.func139,Tryz.ntmps139
 go_wp2;go_ret;exact ⟨rfl,0,rfl⟩
theorem del_none (a:Option Addr) (c:Nat) (fv:Value) (w:World) :
  Calls Tryz.prog 138 #[.slice a 0 c,fv] w fun e w'=>e = .returned (.slice a 0 c)∧w'=w:=by
 go_enter Tryz.func138,Tryz.ntmps138
 go_wp2_with (go_at_call 160; refine (Tryz.slices_IndexFunc_empty (α:=Int) a c fv _).mono ?_; rintro e w' ⟨rfl,rfl⟩)
 go_ret;exact ⟨rfl,rfl⟩
theorem del_any {W:World} {a:Option Addr} {n c B:Nat} {l:List Int} (h:Rw 0 W a n c (ints l)) (id:Int) (hB:B<W.heap.size) (hc:W.cell? ⟨B,0,none⟩=some (.int .i64 id)) (hne:¬ In a B) (hn:n≤1000000) :
  Calls Tryz.prog 138 #[.slice a n c,.func (.func 139) #[] #[.pointer (some ⟨B,0,none⟩)]] W fun e w' =>
   ∃ k,e = .returned (.slice a k c)∧k≤n∧Rw 0 w' a k c (ints (without l id))∧Only (In a) W w':=by
 have hl:=h.len;rw [ints_len] at hl
 rcases Nat.eq_zero_or_pos n with rfl | hp
 ·obtain rfl:l=[]:=List.eq_nil_of_length_eq_zero hl
  refine (del_none a c _ W).mono ?_;rintro e w' ⟨rfl,rfl⟩;exact ⟨0,rfl,Nat.le_refl _,h,Only.refl _ _⟩
 ·obtain ⟨b,off,rfl,hbB,_⟩:=ints_at h.vals hp
  have hbne:B≠b:=fun e=>hne ⟨_,rfl,e.symm⟩
  have eg:∀ args w,(callFunc 139 args).run Tryz.prog w = .ok (.enter 139 args) w:=enters_of Tryz.func139 (by kernel_rfl) rfl
  have hcon:=Tryz.slices_DeleteFunc (Value.int .i64) (fun _=>rfl) (fun x:Int=>decide (x=id)) 139 #[.pointer (some ⟨B,0,none⟩)] eg 0 Tryz.zeroValue3 b off c l.toArray W
   (fun W' x hb=>clos_gives id x B W' ((hb.cell (p:=⟨B,0,none⟩) hB).trans hc))
   (fun m os dk x _=>clos_gives id x B _ (by
    unfold sortWorld;rw [Go.Sort.cell?_grow _ _ _ (by show B<(Go.Sort.putRow _ _ _ _ _).heap.size; rw [Go.Sort.size_putRow]; exact hB),Go.Sort.cell?_putRow_other _ _ b off _ _ (Or.inl hbne)]
    exact hc))
   (holds_of_rw h) (by simp; omega) (by simp; have:=h.cap; omega)
  rw [show l.toArray.size=n from by simpa using hl] at hcon;refine hcon.mono ?_;rintro e w' ⟨rfl,q,rfl⟩
  have hwl:(without l id).length≤n:=by have:=List.length_filter_le (fun x=>!decide (x=id)) l; unfold without; omega
  refine ⟨(without l id).length,rfl,hwl,?_,(only_putRow W q b off _).mono (fun k _ hk=>⟨_,rfl,hk.symm⟩)⟩;have:=rw_putRow (q:=q) h (without l id ++ List.replicate (n - (without l id).length) 0) (by simp; omega) (without l id).length hwl;rw [List.take_left] at this;exact this
section
variable {z:Zo} {F:Nat→Prop} {g n c N:Nat} {om:Option Nat} {a:Option Addr} {w w':World} {t:Ta}
theorem waits_any (h:TaAt z F g om a n c w t) (hn:n≤1000000) (id:Int) :
  Calls Tryz.prog 156 #[.pointer (some ⟨g,z.o,none⟩),.int .i64 id] w fun e w'=>e = .returned (.bool (decide (id∈t.waits)))∧w'=w:=by
 have hc:=h.bx.cell 3 (.slice a n c) rfl;have hl:=h.len
 have hcon:Calls Tryz.prog 173 #[.slice a n c,.int .i64 id] w fun e w'=>e = .returned (.bool (decide (id∈t.waits)))∧w'=w:=by
  rcases Nat.eq_zero_or_pos n with rfl | hp
  ·have e:t.waits=[]:=List.eq_nil_of_length_eq_zero hl
   rw [e];exact (Tryz.slices_Contains_int_empty a c id w).mono (by rintro e w' ⟨rfl,rfl⟩; exact ⟨by simp,rfl⟩)
  ·obtain ⟨b,off,rfl,_,hcell⟩:=ints_at h.rw.vals hp
   refine (Tryz.slices_Contains_int b off n c t.waits id w (by omega) (by omega) (fun j hj=>hcell j (by omega))).mono ?_;rintro e w' ⟨rfl,rfl⟩;refine ⟨ret_bool ?_,rfl⟩;rw [← hl,List.take_length,List.contains_eq_mem]
 clear h hl;generalize decide (id∈t.waits)=B at *
 go_enter Tryz.func156,Tryz.ntmps156
 go_wp2_with (go_at_call 173; refine hcon.mono ?_; rintro e w' ⟨rfl,rfl⟩)
 go_ret;exact ⟨rfl,rfl⟩
theorem stop_any (h:TaAt z F g om a n c w t) (hn:n≤1000000) (id:Int) :
    Calls Tryz.prog 112 #[.pointer (some ⟨g,z.o,none⟩),.int .i64 id] w fun e w'=>TaGives z F g w (tstop t id) (.tuple #[]) e w':=by
  have hO1:Only (fun _=>False) w (w.alloc (.cells #[.int .i64 id] 3)):=(Only.refl _ _).alloc _;have h1:=h.keep hO1 (fun _ _ h=>h)
  have hB:w.heap.size<(w.alloc (.cells #[.int .i64 id] 3)).heap.size:=by simp
  have hcB:(w.alloc (.cells #[.int .i64 id] 3)).cell? ⟨w.heap.size,0,none⟩=some (.int .i64 id):=by simp
  have hne:¬ In a w.heap.size:=fun hi=>by have:=h.lt _ (h.m3 _ hi); omega
  have hc:=h1.bx.cell 3 (.slice a n c) rfl;have hf:=h1.bx.free 3;have hD:=del_any h1.rw id hB hcB hne hn
  have HK:=lj (show ∀ (k:Nat) (w2:World),Rw 0 w2 a k c (ints (without t.waits id))→Only (In a) (w.alloc (.cells #[.int .i64 id] 3)) w2→TaGives z F g w (tstop t id) (.tuple #[]) (.returned (.tuple #[])) (w2.setCell ⟨g,z.o+3,none⟩ (.slice a k c)) from by
    intro k w2 hr hO2;obtain ⟨z1,z2,z3⟩:=h1.relay hO2 hr (fun b hb=>.inl hb)
    exact z1.gives _ (fun b hb=>(z2 b hb).imp (fun h=>h) (fun h=>Nat.le_trans hO1.size h)) ((hO1.mono (fun _ _ h=>h.elim)).trans z3))
  have HG:=lj (And.intro h1.d2 (Nat.lt_of_lt_of_le (h.lt _ h.m1) hO1.size));clear h h1 hO1 hB hcB hne
  go_enter Tryz.func112,Tryz.ntmps112
  go_wp2_with (first
    | (go_at_call 138
       refine hD.mono ?_;rintro e w2 ⟨k,rfl,hk,hr,hO2⟩;have hc2:=(hO2.cell (p:=⟨g,z.o+3,none⟩) HG.out.2 HG.out.1).trans hc;have hf2:=(hO2.frozen (p:=⟨g,z.o+3,none⟩) HG.out.2 HG.out.1).trans hf;have HZ:=lj (HK.out k w2 hr hO2)
       clear hr hO2)
    | fail)
  exact bodyPost_ret (v:=.tuple #[]) (by simp [results,Tryz.results112,go_sem]) rfl HZ.out
end
end
section
open Go.RowKit
section
variable {z:Zo} {F:Nat→Prop} {g n c N:Nat} {om:Option Nat} {a:Option Addr} {w w':World} {t:Ta}
theorem without_len (l:List Int) (id:Int):(without l id).length≤l.length:=List.length_filter_le _ _
theorem grant_any (h:TaAt z F g om a n c w t) (hn:n≤1000000) (id:Int) :
  Calls Tryz.prog 94 #[.pointer (some ⟨g,z.o,none⟩),.int .i64 id] w fun e w'=>TaGives z F g w (tgrant t id) (.tuple #[]) e w':=by
 have hS:=stop_any h hn id;clear h
 go_enter Tryz.func94,Tryz.ntmps94
 go_wp2_with fail
 refine hS.mono ?_;rintro e w2 ⟨F2,rfl,⟨om2,a2,n2,c2,h2⟩,hF2,hO2⟩;obtain ⟨y1,y2⟩:=h2.sethold id;obtain ⟨x1,x2⟩:=y1.setleft t.lease;have HZ:=lj (show TaGives z F g w (tgrant t id) (.tuple #[]) (.returned (.tuple #[])) ((w2.setCell ⟨g,z.o+1,none⟩ (.int .i64 id)).setCell ⟨g,z.o+2,none⟩ (.int .i64 t.lease)) from x1.gives _ hF2 (hO2.trans' (y2.trans x2) hF2));have hL:=lease_any h2;have HD:=lj (show ∀ m,TaAt z F2 g om2 a2 n2 c2 (w2.drewN m) (tstop t id) from fun m=>h2.drewN m);have c1:=h2.bx.cell 1 (.int .i64 t.hold) rfl;have c2':=h2.bx.cell 2 (.int .i64 t.left) rfl;have f1:=h2.bx.free 1;have f2:=h2.bx.free 2;clear h2 hF2 hO2 y1 y2 x1 x2 hS
 go_wp2_with fail
 refine hL.mono ?_;rintro e w3 ⟨rfl,rfl⟩;go_wp2;exact bodyPost_ret (v:=.tuple #[]) (by simp [results,Tryz.results94,go_sem]) rfl HZ.out
theorem pass_any (h:TaAt z F g om a n c w t) (hn:n≤1000000) :
  Calls Tryz.prog 74 #[.pointer (some ⟨g,z.o,none⟩)] w fun e w'=>TaGives z F g w (tpass t) (.tuple #[]) e w':=by
 have hc3:=h.bx.cell 3 (.slice a n c) rfl;have hl:=h.len
 rcases Nat.eq_zero_or_pos n with rfl | hp
 ·have e:t.waits=[]:=List.eq_nil_of_length_eq_zero hl
  have hT:tpass t={ ({ t with hold:=0 }:Ta) with left:=0 }:=by unfold tpass; rw [e]
  obtain ⟨y1,y2⟩:=h.sethold 0;obtain ⟨x1,x2⟩:=y1.setleft 0
  have HZ:=lj (show TaGives z F g w (tpass t) (.tuple #[]) (.returned (.tuple #[])) ((w.setCell ⟨g,z.o+1,none⟩ (.int .i64 0)).setCell ⟨g,z.o+2,none⟩ (.int .i64 0)) from by
   rw [hT]
   exact x1.gives _ (fun _ h=>.inl h) (y2.trans x2))
  have c1:=h.bx.cell 1 (.int .i64 t.hold) rfl;have c2':=h.bx.cell 2 (.int .i64 t.left) rfl;have f1:=h.bx.free 1;have f2:=h.bx.free 2;clear h y1 y2 x1 x2 hT e hl
  go_enter Tryz.func74,Tryz.ntmps74
  go_wp2;exact bodyPost_ret (v:=.tuple #[]) (by simp [results,Tryz.results74,go_sem]) rfl HZ.out
 ·obtain ⟨b,off,rfl,_,hcell⟩:=ints_at h.rw.vals hp
  have hc0:=hcell 0 hp;rw [Nat.add_zero] at hc0
  obtain ⟨x,r,e⟩:∃ x r,t.waits=x :: r:=by
   rcases e:t.waits with _ | ⟨x,r⟩
   ·rw [e] at hl; simp at hl; omega
   ·exact ⟨x,r,rfl⟩
  have hT:tpass t=tgrant t x:=by unfold tpass; rw [e]
  rw [e] at hc0;simp only [List.getD_cons_zero] at hc0;have hG:=grant_any h hn x;rw [← hT] at hG;clear h hl hT e hcell
  go_enter Tryz.func74,Tryz.ntmps74
  go_wp2_with fail
  refine hG.mono ?_;rintro e w2 ⟨F2,rfl,h2⟩;have HZ:=lj (show TaGives z F g w (tpass t) (.tuple #[]) (.returned (.tuple #[])) w2 from ⟨F2,rfl,h2⟩);clear h2 hG;go_wp2;exact bodyPost_ret (v:=.tuple #[]) (by simp [results,Tryz.results74,go_sem]) rfl HZ.out
theorem lose_any (h:TaAt z F g om a n c w t) (hn:n≤1000000) (id:Int) :
  Calls Tryz.prog 96 #[.pointer (some ⟨g,z.o,none⟩),.int .i64 id] w fun e w'=>TaGives z F g w (tlose t id) (.tuple #[]) e w':=by
 have hS:=stop_any h hn id;have hl:=h.len;clear h
 go_enter Tryz.func96,Tryz.ntmps96
 go_wp2_with fail
 refine hS.mono ?_;rintro e w2 ⟨F2,rfl,⟨om2,a2,n2,c2,h2⟩,hF2,hO2⟩
 have hn2:n2≤1000000:=by
  have h3:(without t.waits id).length=n2:=h2.len;have:=without_len t.waits id;omega
 have c1:=h2.bx.cell 1 (.int .i64 t.hold) rfl
 by_cases e:t.hold=id
 ·have hT:tlose t id=tpass (tstop t id):=by unfold tlose; rw [if_pos e]
  have hP:=pass_any h2 hn2;have HK:=lj (show ∀ e w',TaGives z F2 g w2 (tpass (tstop t id)) (.tuple #[]) e w'→TaGives z F g w (tlose t id) (.tuple #[]) e w' from fun e w' hg=>by rw [hT]; exact hg.then hF2 hO2);clear h2 hF2 hO2 hT hS hl;rw [e] at c1
  go_wp2_with fail
  refine hP.mono ?_;intro e w3 hg;obtain ⟨F3,rfl,h3⟩:=HK.out _ _ hg;have HZ:=lj (show TaGives z F g w (tlose t id) (.tuple #[]) (.returned (.tuple #[])) w3 from ⟨F3,rfl,h3⟩);clear hg h3 hP HK;go_wp2;exact bodyPost_ret (v:=.tuple #[]) (by simp [results,Tryz.results96,go_sem]) rfl HZ.out
 ·have hT:tlose t id=tstop t id:=by unfold tlose; rw [if_neg e]
  have HZ:=lj (show TaGives z F g w (tlose t id) (.tuple #[]) (.returned (.tuple #[])) w2 from by rw [hT]; exact h2.gives _ hF2 hO2)
  have e2:(t.hold == id)=false:=by simpa using e
  clear h2 hF2 hO2 hT hS hl;go_wp2;exact bodyPost_ret (v:=.tuple #[]) (by simp [results,Tryz.results96,go_sem]) rfl HZ.out
def LaGives (z:Zo) (F:Nat→Prop) (g:Nat) (w:World) (t:Ta) (l:List Int) (e:Ending) (w':World):Prop:=
 ∃ F2 a n c,e = .returned (.slice a n c)∧Ta.Is z F2 g w' t∧(∀ b,F2 b→F b∨w.heap.size≤b)∧Only F w w' ∧
  Vals w' w'.heap.size a n (ints l)∧n≤c∧∀ b,0<n→In a b→w.heap.size≤b∧¬ F2 b
end
end
end Go.Proofs.YtdpagmcickkbmaaGreatDoor
