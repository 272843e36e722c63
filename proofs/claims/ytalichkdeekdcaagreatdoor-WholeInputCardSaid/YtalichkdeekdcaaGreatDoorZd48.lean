/- PPd PPe PLg -/
import Derived.Test.YtalichkdeekdcaaGreatDoorZd07
import Derived.Test.YtalichkdeekdcaaGreatDoorZd32
import Derived.Test.YtalichkdeekdcaaGreatDoorZd33
import Derived.Test.YtalichkdeekdcaaGreatDoorZd47
namespace Go.Proofs.YtalichkdeekdcaaGreatDoor
set_option maxRecDepth 100000
open Go.Lib renaming hid → lj
section
open Go.RowKit
open Fr Bk
def outv (E:Nat) (t:Bs):Value:=.agg #[.int .i64 (E:Nat),.string (str t)]
noncomputable def pEv (b:Br) (e:Sc.Ev):Br:=if Sc.rtE e=true then doEv e.k.toNat b e.i e.n e.t else b
def pE (b:Br) (e:Sc.Ev):Nat:=if Sc.rtE e=true then doEx e.k.toNat b e.i e.n else 1
def pT (b:Br) (e:Sc.Ev):Bs:=if Sc.rtE e=true then doTx e.k.toNat b e.i e.n else []
def ewt (e:Sc.Ev):Nat:=if Sc.rtE e=true then e.t.length else 0
theorem bris_store {F:Fp} {g:Nat} {rs:List (Int×Int)} {w w':World} {b:Br} (h:BrIs F g rs w b) {r:Nat} (hr:¬ Own1 F r) (hg:g<r) (ho:Only (fun x=>x=r) w w'):BrIs F g rs w' b:=by
 obtain ⟨y,e,hy⟩:=h;exact ⟨y,e,hy.keep ho (fun x hx hx2=>hr (hx2 ▸ hx)) (fun x hx _ w0 _ _ h3=>by subst hx; have:=h3 1 g ((hy.me g).2 rfl); omega)⟩
theorem EGives.store {F:Fp} {g:Nat} {rs:List (Int×Int)} {w w1:World} {b b2:Br} {v v':Value} {w' w2:World} (hb:BrIs F g rs w b) (h:EGives F g w1 b2 v (.returned v) w') (hw:Below w.heap.size w w1) {r:Nat} (hr:w.heap.size≤r) (hr1:r<w1.heap.size) (ho:Only (fun x=>x=r) w' w2):EGives F g w b2 v' (.returned v') w2:=by
 obtain ⟨F2,rs2,_,h1,h2,h3⟩:=h;obtain ⟨y,_,hy⟩:=hb;have hgl:g<w.heap.size:=hy.fit.lt 1 g ((hy.me g).2 rfl)
 have hn:¬ Own1 F2 r:=fun hx=>by
  rcases h2 r hx with h4 | h4
  ·have:=hy.lt h4; omega
  ·omega
 refine ⟨F2,rs2,rfl,bris_store h1 hn (by omega) ho,fun x hx=>?_,?_⟩
 ·rcases h2 x hx with e | e
  ·exact .inl e
  ·exact .inr (Nat.le_trans hw.size e)
 ·exact (((only_of_below hw).mono fun x _ h=>h.elim).trans h3).trans' ho fun x hx=>.inr (by subst hx; exact hr)
structure PdW (w w1:World) (e:Sc.Ev):Prop where
 ev:Bx w.heap.size w1 #[.int .i64 e.k,.int .i64 e.i,.int .i64 e.n,.string (str e.t)]
 out:Bx (w.heap.size+1) w1 #[.int .i64 0,.string ⟨#[]⟩]
 b:Below w.heap.size w w1
theorem PdW.go {w w1 w2:World} {e:Sc.Ev} (h:PdW w w1 e) (hb:Below w1.heap.size w1 w2):PdW w w2 e:=⟨h.ev.go hb h.ev.room,h.out.go hb h.out.room,h.b.trans (hb.mono h.b.size)⟩
theorem pd_worlds (w:World) (e:Sc.Ev):PdW w ((w.alloc (.cells #[.int .i64 e.k,.int .i64 e.i,.int .i64 e.n,.string (str e.t)] 30)).alloc (.cells #[.int .i64 0,.string ⟨#[]⟩] 53)) e:=by
 have hx:=Bx.new w _ rfl #[.int .i64 e.k,.int .i64 e.i,.int .i64 e.n,.string (str e.t)] 30;have hb:Below w.heap.size w (w.alloc (.cells #[.int .i64 e.k,.int .i64 e.i,.int .i64 e.n,.string (str e.t)] 30)):=(Below.refl _ _).alloc (Nat.le_refl _) _
 have hs:(w.alloc (.cells #[.int .i64 e.k,.int .i64 e.i,.int .i64 e.n,.string (str e.t)] 30)).heap.size=w.heap.size+1:=by simp
 have hy:=Bx.new (w.alloc (.cells #[.int .i64 e.k,.int .i64 e.i,.int .i64 e.n,.string (str e.t)] 30)) _ hs #[.int .i64 0,.string ⟨#[]⟩] 53;exact ⟨hx.go ((Below.refl _ _).alloc (Nat.le_refl _) _) (by rw [hs]; exact Nat.lt_succ_self _),hy,hb.alloc hb.size (.cells #[.int .i64 0,.string ⟨#[]⟩] 53)⟩
theorem pd_stored {F:Fp} {g:Nat} {rs:List (Int×Int)} {w w2 w':World} {b b2:Br} {e:Sc.Ev} {v:Value} (hb:BrIs F g rs w b) (hP:PdW w w2 e) (h:EGives F g w2 b2 v (.returned v) w') (E:Nat) (t:Bs) (x:Int) :
  Bx (w.heap.size+1) ((w'.setCell ⟨w.heap.size+1,0,none⟩ (.int .i64 x)).setCell ⟨w.heap.size+1,1,none⟩ (.string (str t))) #[.int .i64 x,.string (str t)] ∧
  EGives F g w b2 (outv E t) (.returned (outv E t)) ((w'.setCell ⟨w.heap.size+1,0,none⟩ (.int .i64 x)).setCell ⟨w.heap.size+1,1,none⟩ (.string (str t))):=by
 obtain ⟨y,_,hy⟩:=_root_.id hb
 have hn:¬ Own1 F (w.heap.size+1):=fun hx=>by have:=hy.lt hx; omega
 have h1:Bx (w.heap.size+1) w' #[.int .i64 0,.string ⟨#[]⟩]:=by
  obtain ⟨F2,rs2,_,_,_,h3⟩:=h;exact hP.out.keep h3 hn
 refine ⟨(h1.set 0 (.int .i64 x)).set 1 (.string (str t)),h.store hb hP.b (Nat.le_succ _) hP.out.room ?_⟩;exact ((Only.refl (fun x=>x=w.heap.size+1) w').setCell (p:=⟨w.heap.size+1,0,none⟩) rfl _).setCell (p:=⟨w.heap.size+1,1,none⟩) rfl _
theorem pd_kept {F:Fp} {g:Nat} {rs:List (Int×Int)} {w w2 w':World} {b b2:Br} {e:Sc.Ev} {v:Value} (hb:BrIs F g rs w b) (hP:PdW w w2 e) (h:EGives F g w2 b2 v (.returned v) w'):Bx (w.heap.size+1) w' #[.int .i64 0,.string ⟨#[]⟩]:=by
 obtain ⟨y,_,hy⟩:=_root_.id hb;obtain ⟨F2,rs2,_,_,_,h3⟩:=h
 exact hP.out.keep h3 fun hx=>by have:=hy.lt hx; omega
theorem pd_stays {F:Fp} {g:Nat} {rs:List (Int×Int)} {w w2:World} {b:Br} (h:BrIs F g rs w b) (hb:Below w.heap.size w w2) (v:Value):EGives F g w2 b v (.returned v) w2:=
 ⟨F,rs,rfl,h.quiet (only_of_below hb),fun _ hx=>.inl hx,Only.refl _ _⟩
theorem pdo_no {F:Fp} {g:Nat} {rs:List (Int×Int)} {w:World} {b:Br} (h:BrIs F g rs w b) (e:Sc.Ev) (hr:Sc.rtE e=false) :
  Calls Tryz.prog 27 #[.pointer (some (at0 g)),evv e] w fun r w'=>EGives F g w b (outv 1 []) r w':=by
 have HR:=lj hr;have HH:=lj h;have HP:=lj (pd_worlds w e);clear h hr;unfold evv
 go_enter Tryz.func27,Tryz.ntmps27
 go_upto_region 1 with fail
 generalize (w.alloc (.cells #[.int .i64 e.k,.int .i64 e.i,.int .i64 e.n,.string (str e.t)] 30)).alloc (.cells #[.int .i64 0,.string ⟨#[]⟩] 53)=w1 at *;have x0:=HP.out.ev.cell 0 _ rfl;have x1:=HP.out.ev.cell 1 _ rfl;have x2:=HP.out.ev.cell 2 _ rfl;have x3:=HP.out.ev.cell 3 _ rfl
 go_wp2_with fail
 refine (right16_any e w1).mono ?_;rintro r w2 ⟨rfl,hb2⟩;rw [HR.out];have HP2:=lj (HP.out.go hb2);have y0:w2.cell? ⟨w.heap.size,0,none⟩=some (.int .i64 e.k):=HP2.out.ev.cell 0 _ rfl;have y1:w2.cell? ⟨w.heap.size,1,none⟩=some (.int .i64 e.i):=HP2.out.ev.cell 1 _ rfl;have y2:w2.cell? ⟨w.heap.size,2,none⟩=some (.int .i64 e.n):=HP2.out.ev.cell 2 _ rfl;have y3:w2.cell? ⟨w.heap.size,3,none⟩=some (.string (str e.t)):=HP2.out.ev.cell 3 _ rfl;clear hb2 HP x0 x1 x2 x3;have HO:=lj HP2.out.out;have HG:=lj (pd_stays HH.out HP2.out.b (.bool true));have hst:=pd_stored HH.out HP2.out HG.out (1) [] (1);have HS:=lj hst;have f0:=HO.out.free 0;have f1:=HO.out.free 1;have o0:=HO.out.cell 0 (.int .i64 0) rfl;have o1:=HO.out.cell 1 (.string ⟨#[]⟩) rfl;clear hst;go_wp2
 try simp only [show (⟨#[]⟩:ByteArray)=str [] from rfl]
 generalize (w2.setCell ⟨w.heap.size+1,0,none⟩ (.int .i64 (1))).setCell ⟨w.heap.size+1,1,none⟩ (.string (str []))=w9 at *;have c0:=HS.out.1.cell 0 (.int .i64 (1)) rfl;have c1:=HS.out.1.cell 1 (.string (str [])) rfl;exact bodyPost_ret (v:=outv (1) []) (by unfold outv; simp [results,Tryz.results27,go_sem,c0,c1]) rfl HS.out.2
theorem wf_few {x:Int} (h:0≤x∧x≤1000000):wf64 x:=by
 unfold wf64;simp [Lit.wf,IntKind.min,IntKind.max,IntKind.signed,IntKind.bits];omega
theorem pc_stored {F:Fp} {g:Nat} {rs:List (Int×Int)} {w w1 w':World} {b b2:Br} {v:Value} (hb:BrIs F g rs w b) (hw:Below w.heap.size w w1) (hx:Bx w.heap.size w1 #[.int .i64 0,.string ⟨#[]⟩]) (h:EGives F g w1 b2 v (.returned v) w') (E:Nat) :
  Bx w.heap.size w' #[.int .i64 0,.string ⟨#[]⟩]∧Bx w.heap.size ((w'.setCell ⟨w.heap.size,0,none⟩ (.int .i64 (E:Nat))).setCell ⟨w.heap.size,1,none⟩ (.string (str []))) #[.int .i64 (E:Nat),.string (str [])] ∧
  EGives F g w b2 (outv E []) (.returned (outv E [])) ((w'.setCell ⟨w.heap.size,0,none⟩ (.int .i64 (E:Nat))).setCell ⟨w.heap.size,1,none⟩ (.string (str []))):=by
 obtain ⟨y,_,hy⟩:=_root_.id hb
 have h1:Bx w.heap.size w' #[.int .i64 0,.string ⟨#[]⟩]:=by
  obtain ⟨F2,rs2,_,_,_,h3⟩:=h
  exact hx.keep h3 fun hx=>by have:=hy.lt hx; omega
 refine ⟨h1,(h1.set 0 (.int .i64 (E:Nat))).set 1 (.string (str [])),h.store hb hw (Nat.le_refl _) hx.room ?_⟩;exact ((Only.refl (fun x=>x=w.heap.size) w').setCell (p:=⟨w.heap.size,0,none⟩) rfl _).setCell (p:=⟨w.heap.size,1,none⟩) rfl _
theorem pcall_con {F:Fp} {g:Nat} {rs:List (Int×Int)} {w:World} {b b2:Br} (hb:BrIs F g rs w b) (id:Int) (E:Nat) (H:∀ w1,Below w.heap.size w w1→Calls Tryz.prog 51 #[.pointer (some (at0 g)),.int .i64 id] w1 fun e w'=>EGives F g w1 b2 (.int .i64 (E:Nat)) e w') :
  Calls Tryz.prog 50 #[.func (.func 51) #[.pointer (some (at0 g))] #[],.int .i64 id] w fun r w'=>EGives F g w b2 (outv E []) r w':=by
 have HH:=lj hb;have hx:=Bx.new w _ rfl #[.int .i64 0,.string ⟨#[]⟩] 53;have hbl:Below w.heap.size w (w.alloc (.cells #[.int .i64 0,.string ⟨#[]⟩] 53)):=(Below.refl _ _).alloc (Nat.le_refl _) _;clear hb
 go_enter Tryz.func50,Tryz.ntmps50
 go_upto_region 1 with fail
 generalize w.alloc (.cells #[.int .i64 0,.string ⟨#[]⟩] 53)=w1 at *;have HX:=lj hx;have HBl:=lj hbl;have HC:=lj (H w1 hbl);clear hx hbl H
 go_wp2_with fail
 refine HC.out.mono ?_;intro r w3 hg
 obtain rfl:r = .returned (.int .i64 (E:Nat)):=by obtain ⟨_,_,h9,_⟩:=hg; exact h9
 have hst:=pc_stored HH.out HBl.out HX.out hg E;have HS:=lj hst.2;have f0:=hst.1.free 0;have f1:=hst.1.free 1;have o0:=hst.1.cell 0 (.int .i64 0) rfl;have o1:=hst.1.cell 1 (.string ⟨#[]⟩) rfl;clear hst hg HC;go_wp2
 try simp only [show (⟨#[]⟩:ByteArray)=str [] from rfl]
 generalize (w3.setCell ⟨w.heap.size,0,none⟩ (.int .i64 (E:Nat))).setCell ⟨w.heap.size,1,none⟩ (.string (str []))=w9 at *;have c0:=HS.out.1.cell 0 (.int .i64 (E:Nat)) rfl;have c1:=HS.out.1.cell 1 (.string (str [])) rfl;exact bodyPost_ret (v:=outv E []) (by unfold outv; simp [results,Tryz.results50,go_sem,c0,c1]) rfl HS.out.2
theorem pcall_cut {F:Fp} {g:Nat} {rs:List (Int×Int)} {w:World} {b b2:Br} (hb:BrIs F g rs w b) (id:Int) (E:Nat) (H:∀ w1,Below w.heap.size w w1→Calls Tryz.prog 58 #[.pointer (some (at0 g)),.int .i64 id] w1 fun e w'=>EGives F g w1 b2 (.int .i64 (E:Nat)) e w') :
  Calls Tryz.prog 50 #[.func (.func 58) #[.pointer (some (at0 g))] #[],.int .i64 id] w fun r w'=>EGives F g w b2 (outv E []) r w':=by
 have HH:=lj hb;have hx:=Bx.new w _ rfl #[.int .i64 0,.string ⟨#[]⟩] 53;have hbl:Below w.heap.size w (w.alloc (.cells #[.int .i64 0,.string ⟨#[]⟩] 53)):=(Below.refl _ _).alloc (Nat.le_refl _) _;clear hb
 go_enter Tryz.func50,Tryz.ntmps50
 go_upto_region 1 with fail
 generalize w.alloc (.cells #[.int .i64 0,.string ⟨#[]⟩] 53)=w1 at *;have HX:=lj hx;have HBl:=lj hbl;have HC:=lj (H w1 hbl);clear hx hbl H
 go_wp2_with fail
 refine HC.out.mono ?_;intro r w3 hg
 obtain rfl:r = .returned (.int .i64 (E:Nat)):=by obtain ⟨_,_,h9,_⟩:=hg; exact h9
 have hst:=pc_stored HH.out HBl.out HX.out hg E;have HS:=lj hst.2;have f0:=hst.1.free 0;have f1:=hst.1.free 1;have o0:=hst.1.cell 0 (.int .i64 0) rfl;have o1:=hst.1.cell 1 (.string ⟨#[]⟩) rfl;clear hst hg HC;go_wp2
 try simp only [show (⟨#[]⟩:ByteArray)=str [] from rfl]
 generalize (w3.setCell ⟨w.heap.size,0,none⟩ (.int .i64 (E:Nat))).setCell ⟨w.heap.size,1,none⟩ (.string (str []))=w9 at *;have c0:=HS.out.1.cell 0 (.int .i64 (E:Nat)) rfl;have c1:=HS.out.1.cell 1 (.string (str [])) rfl;exact bodyPost_ret (v:=outv E []) (by unfold outv; simp [results,Tryz.results50,go_sem,c0,c1]) rfl HS.out.2
theorem pcall_out {F:Fp} {g:Nat} {rs:List (Int×Int)} {w:World} {b b2:Br} (hb:BrIs F g rs w b) (A:Option Addr) (n c:Nat) (E:Nat) (H:∀ w1,Below w.heap.size w w1→Calls Tryz.prog 55 #[.pointer (some (at0 g)),.slice A n c] w1 fun e w'=>EGives F g w1 b2 (.int .i64 (E:Nat)) e w') :
  Calls Tryz.prog 54 #[.func (.func 55) #[.pointer (some (at0 g))] #[],.slice A n c] w fun r w'=>EGives F g w b2 (outv E []) r w':=by
 have HH:=lj hb;have hx:=Bx.new w _ rfl #[.int .i64 0,.string ⟨#[]⟩] 53;have hbl:Below w.heap.size w (w.alloc (.cells #[.int .i64 0,.string ⟨#[]⟩] 53)):=(Below.refl _ _).alloc (Nat.le_refl _) _;clear hb
 go_enter Tryz.func54,Tryz.ntmps54
 go_upto_region 1 with fail
 generalize w.alloc (.cells #[.int .i64 0,.string ⟨#[]⟩] 53)=w1 at *;have HX:=lj hx;have HBl:=lj hbl;have HC:=lj (H w1 hbl);clear hx hbl H
 go_wp2_with fail
 refine HC.out.mono ?_;intro r w3 hg
 obtain rfl:r = .returned (.int .i64 (E:Nat)):=by obtain ⟨_,_,h9,_⟩:=hg; exact h9
 have hst:=pc_stored HH.out HBl.out HX.out hg E;have HS:=lj hst.2;have f0:=hst.1.free 0;have f1:=hst.1.free 1;have o0:=hst.1.cell 0 (.int .i64 0) rfl;have o1:=hst.1.cell 1 (.string ⟨#[]⟩) rfl;clear hst hg HC;go_wp2
 try simp only [show (⟨#[]⟩:ByteArray)=str [] from rfl]
 generalize (w3.setCell ⟨w.heap.size,0,none⟩ (.int .i64 (E:Nat))).setCell ⟨w.heap.size,1,none⟩ (.string (str []))=w9 at *;have c0:=HS.out.1.cell 0 (.int .i64 (E:Nat)) rfl;have c1:=HS.out.1.cell 1 (.string (str [])) rfl;exact bodyPost_ret (v:=outv E []) (by unfold outv; simp [results,Tryz.results54,go_sem,c0,c1]) rfl HS.out.2
theorem pcall_end {F:Fp} {g:Nat} {rs:List (Int×Int)} {w:World} {b b2:Br} (hb:BrIs F g rs w b) (id:Int) (E:Nat) (H:∀ w1,Below w.heap.size w w1→Calls Tryz.prog 60 #[.pointer (some (at0 g)),.int .i64 id] w1 fun e w'=>EGives F g w1 b2 (.int .i64 (E:Nat)) e w') :
  Calls Tryz.prog 59 #[.func (.func 60) #[.pointer (some (at0 g))] #[],.int .i64 id] w fun r w'=>EGives F g w b2 (outv E []) r w':=by
 have HH:=lj hb;have hx:=Bx.new w _ rfl #[.int .i64 0,.string ⟨#[]⟩] 53;have hbl:Below w.heap.size w (w.alloc (.cells #[.int .i64 0,.string ⟨#[]⟩] 53)):=(Below.refl _ _).alloc (Nat.le_refl _) _;clear hb
 go_enter Tryz.func59,Tryz.ntmps59
 go_upto_region 1 with fail
 generalize w.alloc (.cells #[.int .i64 0,.string ⟨#[]⟩] 53)=w1 at *;have HX:=lj hx;have HBl:=lj hbl;have HC:=lj (H w1 hbl);clear hx hbl H
 go_wp2_with fail
 refine HC.out.mono ?_;intro r w3 hg
 obtain rfl:r = .returned (.int .i64 (E:Nat)):=by obtain ⟨_,_,h9,_⟩:=hg; exact h9
 have hst:=pc_stored HH.out HBl.out HX.out hg E;have HS:=lj hst.2;have f0:=hst.1.free 0;have f1:=hst.1.free 1;have o0:=hst.1.cell 0 (.int .i64 0) rfl;have o1:=hst.1.cell 1 (.string ⟨#[]⟩) rfl;clear hst hg HC;go_wp2
 try simp only [show (⟨#[]⟩:ByteArray)=str [] from rfl]
 generalize (w3.setCell ⟨w.heap.size,0,none⟩ (.int .i64 (E:Nat))).setCell ⟨w.heap.size,1,none⟩ (.string (str []))=w9 at *;have c0:=HS.out.1.cell 0 (.int .i64 (E:Nat)) rfl;have c1:=HS.out.1.cell 1 (.string (str [])) rfl;exact bodyPost_ret (v:=outv E []) (by unfold outv; simp [results,Tryz.results59,go_sem,c0,c1]) rfl HS.out.2
set_option maxHeartbeats 1000000 in
theorem pdo_5 {F:Fp} {g:Nat} {rs:List (Int×Int)} {w:World} {b:Br} {i T m:Nat} (h:BrIs F g rs w b) (he:EvOk b i T m) (hi:i≤1000000000) (hT:T≤100000000) (e:Sc.Ev) (hm:m+e.t.length≤1000000) (hr:Sc.rtE e=true) (hk:e.k=5) :
  Calls Tryz.prog 27 #[.pointer (some (at0 g)),evv e] w fun r w'=>EGives F g w (tickB b) (outv (0) ([])) r w':=by
 have HR:=lj hr;have HH:=lj h;have HE:=lj he;have HP:=lj (pd_worlds w e);obtain ⟨_,_,hi0,hi1,hn0,hn1,ht1⟩:=Sc.rtE_in hr;have HI:=lj hi;have HTt:=lj hT;have HM:=lj hm;have HN:=lj (And.intro hi0 (And.intro hi1 (And.intro hn0 (And.intro hn1 ht1))));have hwi:wf64 e.i:=wf_few (by omega);have HK:=lj hk;clear h hr he hi hT hm hi0 hi1 hn0 hn1 ht1 hk;unfold evv
 go_enter Tryz.func27,Tryz.ntmps27
 go_upto_region 1 with fail
 generalize (w.alloc (.cells #[.int .i64 e.k,.int .i64 e.i,.int .i64 e.n,.string (str e.t)] 30)).alloc (.cells #[.int .i64 0,.string ⟨#[]⟩] 53)=w1 at *;have x0:=HP.out.ev.cell 0 _ rfl;have x1:=HP.out.ev.cell 1 _ rfl;have x2:=HP.out.ev.cell 2 _ rfl;have x3:=HP.out.ev.cell 3 _ rfl
 go_wp2_with fail
 refine (right16_any e w1).mono ?_;rintro r w2 ⟨rfl,hb2⟩;rw [HR.out];have HP2:=lj (HP.out.go hb2);have y0:w2.cell? ⟨w.heap.size,0,none⟩=some (.int .i64 e.k):=HP2.out.ev.cell 0 _ rfl;have y1:w2.cell? ⟨w.heap.size,1,none⟩=some (.int .i64 e.i):=HP2.out.ev.cell 1 _ rfl;have y2:w2.cell? ⟨w.heap.size,2,none⟩=some (.int .i64 e.n):=HP2.out.ev.cell 2 _ rfl;have y3:w2.cell? ⟨w.heap.size,3,none⟩=some (.string (str e.t)):=HP2.out.ev.cell 3 _ rfl;clear hb2 HP x0 x1 x2 x3;rw [HK.out] at y0;have HC:=lj (btick_any (HH.out.quiet (only_of_below HP2.out.b)) HE.out.ok (fun k c hc=>(HE.out.cn k c hc).1) HI.out)
 go_wp2_with fail
 refine HC.out.mono ?_;intro r w3 hg
 obtain rfl:r = .returned (.tuple #[]):=by obtain ⟨_,_,h9,_⟩:=hg; exact h9
 have HG:=lj hg;have HO:=lj (pd_kept HH.out HP2.out hg);clear hg HC;have hst:=pd_stored HH.out HP2.out HG.out (0) [] (0);have HS:=lj hst;have f0:=HO.out.free 0;have f1:=HO.out.free 1;have o0:=HO.out.cell 0 (.int .i64 0) rfl;have o1:=HO.out.cell 1 (.string ⟨#[]⟩) rfl;clear hst;go_wp2
 try simp only [show (⟨#[]⟩:ByteArray)=str [] from rfl]
 generalize (w3.setCell ⟨w.heap.size+1,0,none⟩ (.int .i64 (0))).setCell ⟨w.heap.size+1,1,none⟩ (.string (str []))=w9 at *;have c0:=HS.out.1.cell 0 (.int .i64 (0)) rfl;have c1:=HS.out.1.cell 1 (.string (str [])) rfl;exact bodyPost_ret (v:=outv (0) []) (by unfold outv; simp [results,Tryz.results27,go_sem,c0,c1]) rfl HS.out.2
set_option maxHeartbeats 1000000 in
theorem pdo_0 {F:Fp} {g:Nat} {rs:List (Int×Int)} {w:World} {b:Br} {i T m:Nat} (h:BrIs F g rs w b) (he:EvOk b i T m) (hi:i≤1000000000) (hT:T≤100000000) (e:Sc.Ev) (hm:m+e.t.length≤1000000) (hr:Sc.rtE e=true) (hk:e.k=0) :
  Calls Tryz.prog 27 #[.pointer (some (at0 g)),evv e] w fun r w'=>EGives F g w (connectB b e.i) (outv (connectE b e.i) ([])) r w':=by
 have HR:=lj hr;have HH:=lj h;have HE:=lj he;have HP:=lj (pd_worlds w e);obtain ⟨_,_,hi0,hi1,hn0,hn1,ht1⟩:=Sc.rtE_in hr;have HI:=lj hi;have HTt:=lj hT;have HM:=lj hm;have HN:=lj (And.intro hi0 (And.intro hi1 (And.intro hn0 (And.intro hn1 ht1))));have hwi:wf64 e.i:=wf_few (by omega);have HK:=lj hk;clear h hr he hi hT hm hi0 hi1 hn0 hn1 ht1 hk;unfold evv
 go_enter Tryz.func27,Tryz.ntmps27
 go_upto_region 1 with fail
 generalize (w.alloc (.cells #[.int .i64 e.k,.int .i64 e.i,.int .i64 e.n,.string (str e.t)] 30)).alloc (.cells #[.int .i64 0,.string ⟨#[]⟩] 53)=w1 at *;have x0:=HP.out.ev.cell 0 _ rfl;have x1:=HP.out.ev.cell 1 _ rfl;have x2:=HP.out.ev.cell 2 _ rfl;have x3:=HP.out.ev.cell 3 _ rfl
 go_wp2_with fail
 refine (right16_any e w1).mono ?_;rintro r w2 ⟨rfl,hb2⟩;rw [HR.out];have HP2:=lj (HP.out.go hb2);have y0:w2.cell? ⟨w.heap.size,0,none⟩=some (.int .i64 e.k):=HP2.out.ev.cell 0 _ rfl;have y1:w2.cell? ⟨w.heap.size,1,none⟩=some (.int .i64 e.i):=HP2.out.ev.cell 1 _ rfl;have y2:w2.cell? ⟨w.heap.size,2,none⟩=some (.int .i64 e.n):=HP2.out.ev.cell 2 _ rfl;have y3:w2.cell? ⟨w.heap.size,3,none⟩=some (.string (str e.t)):=HP2.out.ev.cell 3 _ rfl;clear hb2 HP x0 x1 x2 x3;rw [HK.out] at y0;have HC:=lj (pcall_con (HH.out.quiet (only_of_below HP2.out.b)) e.i (connectE b e.i) (fun _w3 hb3=>bconnect_any ((HH.out.quiet (only_of_below HP2.out.b)).quiet (only_of_below hb3)) HE.out.ok e.i hwi))
 go_wp2_with fail
 refine HC.out.mono ?_;intro r w3 hg
 obtain rfl:r = .returned (outv (connectE b e.i) []):=by obtain ⟨_,_,h9,_⟩:=hg; exact h9
 have HG:=lj hg;have HO:=lj (pd_kept HH.out HP2.out hg);clear hg HC;unfold outv;have hst:=pd_stored HH.out HP2.out HG.out (connectE b e.i) [] (((connectE b e.i:Nat):Int));have HS:=lj hst;have f0:=HO.out.free 0;have f1:=HO.out.free 1;have o0:=HO.out.cell 0 (.int .i64 0) rfl;have o1:=HO.out.cell 1 (.string ⟨#[]⟩) rfl;clear hst;go_wp2
 try simp only [show (⟨#[]⟩:ByteArray)=str [] from rfl]
 generalize (w3.setCell ⟨w.heap.size+1,0,none⟩ (.int .i64 (((connectE b e.i:Nat):Int)))).setCell ⟨w.heap.size+1,1,none⟩ (.string (str []))=w9 at *;have c0:=HS.out.1.cell 0 (.int .i64 (((connectE b e.i:Nat):Int))) rfl;have c1:=HS.out.1.cell 1 (.string (str [])) rfl;exact bodyPost_ret (v:=outv (connectE b e.i) []) (by unfold outv; simp [results,Tryz.results27,go_sem,c0,c1]) rfl HS.out.2
set_option maxHeartbeats 1000000 in
theorem pdo_6 {F:Fp} {g:Nat} {rs:List (Int×Int)} {w:World} {b:Br} {i T m:Nat} (h:BrIs F g rs w b) (he:EvOk b i T m) (hi:i≤1000000000) (hT:T≤100000000) (e:Sc.Ev) (hm:m+e.t.length≤1000000) (hr:Sc.rtE e=true) (hk:e.k=6) :
  Calls Tryz.prog 27 #[.pointer (some (at0 g)),evv e] w fun r w'=>EGives F g w (cutB b e.i) (outv (writeE b e.i) ([])) r w':=by
 have HR:=lj hr;have HH:=lj h;have HE:=lj he;have HP:=lj (pd_worlds w e);obtain ⟨_,_,hi0,hi1,hn0,hn1,ht1⟩:=Sc.rtE_in hr;have HI:=lj hi;have HTt:=lj hT;have HM:=lj hm;have HN:=lj (And.intro hi0 (And.intro hi1 (And.intro hn0 (And.intro hn1 ht1))));have hwi:wf64 e.i:=wf_few (by omega);have HK:=lj hk;clear h hr he hi hT hm hi0 hi1 hn0 hn1 ht1 hk;unfold evv
 go_enter Tryz.func27,Tryz.ntmps27
 go_upto_region 1 with fail
 generalize (w.alloc (.cells #[.int .i64 e.k,.int .i64 e.i,.int .i64 e.n,.string (str e.t)] 30)).alloc (.cells #[.int .i64 0,.string ⟨#[]⟩] 53)=w1 at *;have x0:=HP.out.ev.cell 0 _ rfl;have x1:=HP.out.ev.cell 1 _ rfl;have x2:=HP.out.ev.cell 2 _ rfl;have x3:=HP.out.ev.cell 3 _ rfl
 go_wp2_with fail
 refine (right16_any e w1).mono ?_;rintro r w2 ⟨rfl,hb2⟩;rw [HR.out];have HP2:=lj (HP.out.go hb2);have y0:w2.cell? ⟨w.heap.size,0,none⟩=some (.int .i64 e.k):=HP2.out.ev.cell 0 _ rfl;have y1:w2.cell? ⟨w.heap.size,1,none⟩=some (.int .i64 e.i):=HP2.out.ev.cell 1 _ rfl;have y2:w2.cell? ⟨w.heap.size,2,none⟩=some (.int .i64 e.n):=HP2.out.ev.cell 2 _ rfl;have y3:w2.cell? ⟨w.heap.size,3,none⟩=some (.string (str e.t)):=HP2.out.ev.cell 3 _ rfl;clear hb2 HP x0 x1 x2 x3;rw [HK.out] at y0;have HC:=lj (pcall_cut (HH.out.quiet (only_of_below HP2.out.b)) e.i (writeE b e.i) (fun _w3 hb3=>bcut_any ((HH.out.quiet (only_of_below HP2.out.b)).quiet (only_of_below hb3)) HE.out.ok e.i hwi))
 go_wp2_with fail
 refine HC.out.mono ?_;intro r w3 hg
 obtain rfl:r = .returned (outv (writeE b e.i) []):=by obtain ⟨_,_,h9,_⟩:=hg; exact h9
 have HG:=lj hg;have HO:=lj (pd_kept HH.out HP2.out hg);clear hg HC;unfold outv;have hst:=pd_stored HH.out HP2.out HG.out (writeE b e.i) [] (((writeE b e.i:Nat):Int));have HS:=lj hst;have f0:=HO.out.free 0;have f1:=HO.out.free 1;have o0:=HO.out.cell 0 (.int .i64 0) rfl;have o1:=HO.out.cell 1 (.string ⟨#[]⟩) rfl;clear hst;go_wp2
 try simp only [show (⟨#[]⟩:ByteArray)=str [] from rfl]
 generalize (w3.setCell ⟨w.heap.size+1,0,none⟩ (.int .i64 (((writeE b e.i:Nat):Int)))).setCell ⟨w.heap.size+1,1,none⟩ (.string (str []))=w9 at *;have c0:=HS.out.1.cell 0 (.int .i64 (((writeE b e.i:Nat):Int))) rfl;have c1:=HS.out.1.cell 1 (.string (str [])) rfl;exact bodyPost_ret (v:=outv (writeE b e.i) []) (by unfold outv; simp [results,Tryz.results27,go_sem,c0,c1]) rfl HS.out.2
set_option maxHeartbeats 1000000 in
theorem pdo_7 {F:Fp} {g:Nat} {rs:List (Int×Int)} {w:World} {b:Br} {i T m:Nat} (h:BrIs F g rs w b) (he:EvOk b i T m) (hi:i≤1000000000) (hT:T≤100000000) (e:Sc.Ev) (hm:m+e.t.length≤1000000) (hr:Sc.rtE e=true) (hk:e.k=7) :
  Calls Tryz.prog 27 #[.pointer (some (at0 g)),evv e] w fun r w'=>EGives F g w (endB b e.n) (outv (endE b e.n) ([])) r w':=by
 have HR:=lj hr;have HH:=lj h;have HE:=lj he;have HP:=lj (pd_worlds w e);obtain ⟨_,_,hi0,hi1,hn0,hn1,ht1⟩:=Sc.rtE_in hr;have HI:=lj hi;have HTt:=lj hT;have HM:=lj hm;have HN:=lj (And.intro hi0 (And.intro hi1 (And.intro hn0 (And.intro hn1 ht1))));have hwi:wf64 e.i:=wf_few (by omega);have HK:=lj hk;clear h hr he hi hT hm hi0 hi1 hn0 hn1 ht1 hk;unfold evv
 go_enter Tryz.func27,Tryz.ntmps27
 go_upto_region 1 with fail
 generalize (w.alloc (.cells #[.int .i64 e.k,.int .i64 e.i,.int .i64 e.n,.string (str e.t)] 30)).alloc (.cells #[.int .i64 0,.string ⟨#[]⟩] 53)=w1 at *;have x0:=HP.out.ev.cell 0 _ rfl;have x1:=HP.out.ev.cell 1 _ rfl;have x2:=HP.out.ev.cell 2 _ rfl;have x3:=HP.out.ev.cell 3 _ rfl
 go_wp2_with fail
 refine (right16_any e w1).mono ?_;rintro r w2 ⟨rfl,hb2⟩;rw [HR.out];have HP2:=lj (HP.out.go hb2);have y0:w2.cell? ⟨w.heap.size,0,none⟩=some (.int .i64 e.k):=HP2.out.ev.cell 0 _ rfl;have y1:w2.cell? ⟨w.heap.size,1,none⟩=some (.int .i64 e.i):=HP2.out.ev.cell 1 _ rfl;have y2:w2.cell? ⟨w.heap.size,2,none⟩=some (.int .i64 e.n):=HP2.out.ev.cell 2 _ rfl;have y3:w2.cell? ⟨w.heap.size,3,none⟩=some (.string (str e.t)):=HP2.out.ev.cell 3 _ rfl;clear hb2 HP x0 x1 x2 x3;rw [HK.out] at y0;have HC:=lj (pcall_end (HH.out.quiet (only_of_below HP2.out.b)) e.n (endE b e.n) (fun _w3 hb3=>bend_any ((HH.out.quiet (only_of_below HP2.out.b)).quiet (only_of_below hb3)) HE.out.ok e.n))
 go_wp2_with fail
 refine HC.out.mono ?_;intro r w3 hg
 obtain rfl:r = .returned (outv (endE b e.n) []):=by obtain ⟨_,_,h9,_⟩:=hg; exact h9
 have HG:=lj hg;have HO:=lj (pd_kept HH.out HP2.out hg);clear hg HC;unfold outv;have hst:=pd_stored HH.out HP2.out HG.out (endE b e.n) [] (((endE b e.n:Nat):Int));have HS:=lj hst;have f0:=HO.out.free 0;have f1:=HO.out.free 1;have o0:=HO.out.cell 0 (.int .i64 0) rfl;have o1:=HO.out.cell 1 (.string ⟨#[]⟩) rfl;clear hst;go_wp2
 try simp only [show (⟨#[]⟩:ByteArray)=str [] from rfl]
 generalize (w3.setCell ⟨w.heap.size+1,0,none⟩ (.int .i64 (((endE b e.n:Nat):Int)))).setCell ⟨w.heap.size+1,1,none⟩ (.string (str []))=w9 at *;have c0:=HS.out.1.cell 0 (.int .i64 (((endE b e.n:Nat):Int))) rfl;have c1:=HS.out.1.cell 1 (.string (str [])) rfl;exact bodyPost_ret (v:=outv (endE b e.n) []) (by unfold outv; simp [results,Tryz.results27,go_sem,c0,c1]) rfl HS.out.2
set_option maxHeartbeats 1000000 in
theorem pdo_1 {F:Fp} {g:Nat} {rs:List (Int×Int)} {w:World} {b:Br} {i T m:Nat} (h:BrIs F g rs w b) (he:EvOk b i T m) (hi:i≤1000000000) (hT:T≤100000000) (e:Sc.Ev) (hm:m+e.t.length≤1000000) (hr:Sc.rtE e=true) (hk:e.k=1) :
  Calls Tryz.prog 27 #[.pointer (some (at0 g)),evv e] w fun r w'=>EGives F g w (bytesB b e.i e.t) (outv (bytesE b e.i) ([])) r w':=by
 have HR:=lj hr;have HH:=lj h;have HE:=lj he;have HP:=lj (pd_worlds w e);obtain ⟨_,_,hi0,hi1,hn0,hn1,ht1⟩:=Sc.rtE_in hr;have HI:=lj hi;have HTt:=lj hT;have HM:=lj hm;have HN:=lj (And.intro hi0 (And.intro hi1 (And.intro hn0 (And.intro hn1 ht1))));have hwi:wf64 e.i:=wf_few (by omega);have HK:=lj hk;clear h hr he hi hT hm hi0 hi1 hn0 hn1 ht1 hk;unfold evv
 go_enter Tryz.func27,Tryz.ntmps27
 go_upto_region 1 with fail
 generalize (w.alloc (.cells #[.int .i64 e.k,.int .i64 e.i,.int .i64 e.n,.string (str e.t)] 30)).alloc (.cells #[.int .i64 0,.string ⟨#[]⟩] 53)=w1 at *;have x0:=HP.out.ev.cell 0 _ rfl;have x1:=HP.out.ev.cell 1 _ rfl;have x2:=HP.out.ev.cell 2 _ rfl;have x3:=HP.out.ev.cell 3 _ rfl
 go_wp2_with fail
 refine (right16_any e w1).mono ?_;rintro r w2 ⟨rfl,hb2⟩;rw [HR.out];have HP2:=lj (HP.out.go hb2);have y0:w2.cell? ⟨w.heap.size,0,none⟩=some (.int .i64 e.k):=HP2.out.ev.cell 0 _ rfl;have y1:w2.cell? ⟨w.heap.size,1,none⟩=some (.int .i64 e.i):=HP2.out.ev.cell 1 _ rfl;have y2:w2.cell? ⟨w.heap.size,2,none⟩=some (.int .i64 e.n):=HP2.out.ev.cell 2 _ rfl;have y3:w2.cell? ⟨w.heap.size,3,none⟩=some (.string (str e.t)):=HP2.out.ev.cell 3 _ rfl;clear hb2 HP x0 x1 x2 x3;rw [HK.out] at y0;obtain ⟨cb,wb,hcb,hyb,hbb,hlb,hsb⟩:=conv_tob w2 e.t;have HP3:=lj (HP2.out.go hbb)
 have hne:0<e.t.length→∀ p,some (⟨w2.heap.size,0,none⟩:Addr)=some p→¬ Own1 F p.block:=fun _ p hp hF=>by
  injection hp with hp
  subst hp;obtain ⟨y,_,hy⟩:=_root_.id HH.out;have h1:=hy.lt hF;have h2:=HP2.out.b.size;replace h1:w2.heap.size<w.heap.size:=h1;omega
 have HC:=lj (bbytes_any (HH.out.quiet (only_of_below HP3.out.b)) HE.out HTt.out e.i hwi cb hyb (by have:=HM.out; omega) hne);clear hyb hbb hlb hsb hne
 go_wp2_with fail
 refine HC.out.mono ?_;intro r w3 hg
 obtain rfl:r = .returned (.int .i64 (bytesE b e.i:Nat)):=by obtain ⟨_,_,h9,_⟩:=hg; exact h9
 have HG:=lj hg;have HO:=lj (pd_kept HH.out HP3.out hg);clear hg HC;have hst:=pd_stored HH.out HP3.out HG.out (bytesE b e.i) [] (((bytesE b e.i:Nat):Int));have HS:=lj hst;have f0:=HO.out.free 0;have f1:=HO.out.free 1;have o0:=HO.out.cell 0 (.int .i64 0) rfl;have o1:=HO.out.cell 1 (.string ⟨#[]⟩) rfl;clear hst;go_wp2
 try simp only [show (⟨#[]⟩:ByteArray)=str [] from rfl]
 generalize (w3.setCell ⟨w.heap.size+1,0,none⟩ (.int .i64 (((bytesE b e.i:Nat):Int)))).setCell ⟨w.heap.size+1,1,none⟩ (.string (str []))=w9 at *;have c0:=HS.out.1.cell 0 (.int .i64 (((bytesE b e.i:Nat):Int))) rfl;have c1:=HS.out.1.cell 1 (.string (str [])) rfl;exact bodyPost_ret (v:=outv (bytesE b e.i) []) (by unfold outv; simp [results,Tryz.results27,go_sem,c0,c1]) rfl HS.out.2
set_option maxHeartbeats 1000000 in
theorem pdo_3 {F:Fp} {g:Nat} {rs:List (Int×Int)} {w:World} {b:Br} {i T m:Nat} (h:BrIs F g rs w b) (he:EvOk b i T m) (hi:i≤1000000000) (hT:T≤100000000) (e:Sc.Ev) (hm:m+e.t.length≤1000000) (hr:Sc.rtE e=true) (hk:e.k=3) :
  Calls Tryz.prog 27 #[.pointer (some (at0 g)),evv e] w fun r w'=>EGives F g w (outputB b e.t) (outv (outputE b) ([])) r w':=by
 have HR:=lj hr;have HH:=lj h;have HE:=lj he;have HP:=lj (pd_worlds w e);obtain ⟨_,_,hi0,hi1,hn0,hn1,ht1⟩:=Sc.rtE_in hr;have HI:=lj hi;have HTt:=lj hT;have HM:=lj hm;have HN:=lj (And.intro hi0 (And.intro hi1 (And.intro hn0 (And.intro hn1 ht1))));have hwi:wf64 e.i:=wf_few (by omega);have HK:=lj hk;clear h hr he hi hT hm hi0 hi1 hn0 hn1 ht1 hk;unfold evv
 go_enter Tryz.func27,Tryz.ntmps27
 go_upto_region 1 with fail
 generalize (w.alloc (.cells #[.int .i64 e.k,.int .i64 e.i,.int .i64 e.n,.string (str e.t)] 30)).alloc (.cells #[.int .i64 0,.string ⟨#[]⟩] 53)=w1 at *;have x0:=HP.out.ev.cell 0 _ rfl;have x1:=HP.out.ev.cell 1 _ rfl;have x2:=HP.out.ev.cell 2 _ rfl;have x3:=HP.out.ev.cell 3 _ rfl
 go_wp2_with fail
 refine (right16_any e w1).mono ?_;rintro r w2 ⟨rfl,hb2⟩;rw [HR.out];have HP2:=lj (HP.out.go hb2);have y0:w2.cell? ⟨w.heap.size,0,none⟩=some (.int .i64 e.k):=HP2.out.ev.cell 0 _ rfl;have y1:w2.cell? ⟨w.heap.size,1,none⟩=some (.int .i64 e.i):=HP2.out.ev.cell 1 _ rfl;have y2:w2.cell? ⟨w.heap.size,2,none⟩=some (.int .i64 e.n):=HP2.out.ev.cell 2 _ rfl;have y3:w2.cell? ⟨w.heap.size,3,none⟩=some (.string (str e.t)):=HP2.out.ev.cell 3 _ rfl;clear hb2 HP x0 x1 x2 x3;rw [HK.out] at y0;obtain ⟨cb,wb,hcb,hyb,hbb,hlb,hsb⟩:=conv_tob w2 e.t;have HP3:=lj (HP2.out.go hbb)
 have hne:0<e.t.length→∀ p,some (⟨w2.heap.size,0,none⟩:Addr)=some p→¬ Own1 F p.block:=fun _ p hp hF=>by
  injection hp with hp
  subst hp;obtain ⟨y,_,hy⟩:=_root_.id HH.out;have h1:=hy.lt hF;have h2:=HP2.out.b.size;replace h1:w2.heap.size<w.heap.size:=h1;omega
 have HC:=lj (pcall_out (HH.out.quiet (only_of_below HP3.out.b)) (some ⟨w2.heap.size,0,none⟩) e.t.length cb (outputE b) (fun _w3 hb3=>boutput_any ((HH.out.quiet (only_of_below HP3.out.b)).quiet (only_of_below hb3)) HE.out.ok HE.out.sp _ _ _ _ e.t (hyb.below (hb3.mono hsb)) (Nat.le_trans hsb hb3.size) hlb hne (by have:=HM.out; have:=HE.out.len; omega)));clear hyb hbb hlb hsb hne
 go_wp2_with fail
 refine HC.out.mono ?_;intro r w3 hg
 obtain rfl:r = .returned (outv (outputE b) []):=by obtain ⟨_,_,h9,_⟩:=hg; exact h9
 have HG:=lj hg;have HO:=lj (pd_kept HH.out HP3.out hg);clear hg HC;unfold outv;have hst:=pd_stored HH.out HP3.out HG.out (outputE b) [] (((outputE b:Nat):Int));have HS:=lj hst;have f0:=HO.out.free 0;have f1:=HO.out.free 1;have o0:=HO.out.cell 0 (.int .i64 0) rfl;have o1:=HO.out.cell 1 (.string ⟨#[]⟩) rfl;clear hst;go_wp2
 try simp only [show (⟨#[]⟩:ByteArray)=str [] from rfl]
 generalize (w3.setCell ⟨w.heap.size+1,0,none⟩ (.int .i64 (((outputE b:Nat):Int)))).setCell ⟨w.heap.size+1,1,none⟩ (.string (str []))=w9 at *;have c0:=HS.out.1.cell 0 (.int .i64 (((outputE b:Nat):Int))) rfl;have c1:=HS.out.1.cell 1 (.string (str [])) rfl;exact bodyPost_ret (v:=outv (outputE b) []) (by unfold outv; simp [results,Tryz.results27,go_sem,c0,c1]) rfl HS.out.2
set_option maxHeartbeats 1000000 in
theorem pdo_2 {F:Fp} {g:Nat} {rs:List (Int×Int)} {w:World} {b:Br} {i T m:Nat} (h:BrIs F g rs w b) (he:EvOk b i T m) (hi:i≤1000000000) (hT:T≤100000000) (e:Sc.Ev) (hm:m+e.t.length≤1000000) (hr:Sc.rtE e=true) (hk:e.k=2) :
  Calls Tryz.prog 27 #[.pointer (some (at0 g)),evv e] w fun r w'=>EGives F g w (writeB b e.i e.n) (outv (writeE b e.i) (writeT b e.i e.n)) r w':=by
 have HR:=lj hr;have HH:=lj h;have HE:=lj he;have HP:=lj (pd_worlds w e);obtain ⟨_,_,hi0,hi1,hn0,hn1,ht1⟩:=Sc.rtE_in hr;have HI:=lj hi;have HTt:=lj hT;have HM:=lj hm;have HN:=lj (And.intro hi0 (And.intro hi1 (And.intro hn0 (And.intro hn1 ht1))));have hwi:wf64 e.i:=wf_few (by omega);have HK:=lj hk;clear h hr he hi hT hm hi0 hi1 hn0 hn1 ht1 hk;unfold evv
 go_enter Tryz.func27,Tryz.ntmps27
 go_upto_region 1 with fail
 generalize (w.alloc (.cells #[.int .i64 e.k,.int .i64 e.i,.int .i64 e.n,.string (str e.t)] 30)).alloc (.cells #[.int .i64 0,.string ⟨#[]⟩] 53)=w1 at *;have x0:=HP.out.ev.cell 0 _ rfl;have x1:=HP.out.ev.cell 1 _ rfl;have x2:=HP.out.ev.cell 2 _ rfl;have x3:=HP.out.ev.cell 3 _ rfl
 go_wp2_with fail
 refine (right16_any e w1).mono ?_;rintro r w2 ⟨rfl,hb2⟩;rw [HR.out];have HP2:=lj (HP.out.go hb2);have y0:w2.cell? ⟨w.heap.size,0,none⟩=some (.int .i64 e.k):=HP2.out.ev.cell 0 _ rfl;have y1:w2.cell? ⟨w.heap.size,1,none⟩=some (.int .i64 e.i):=HP2.out.ev.cell 1 _ rfl;have y2:w2.cell? ⟨w.heap.size,2,none⟩=some (.int .i64 e.n):=HP2.out.ev.cell 2 _ rfl;have y3:w2.cell? ⟨w.heap.size,3,none⟩=some (.string (str e.t)):=HP2.out.ev.cell 3 _ rfl;clear hb2 HP x0 x1 x2 x3;rw [HK.out] at y0;have HC:=lj (bwrite_any (HH.out.quiet (only_of_below HP2.out.b)) HE.out.ok e.i e.n hwi)
 go_wp2_with fail
 refine HC.out.mono ?_;rintro r w3 ⟨a2,m2,c2,hg,hy,_,_⟩
 obtain rfl:r = .returned (.tuple #[.slice a2 m2 c2,.int .i64 (writeE b e.i:Nat)]):=by obtain ⟨_,_,h9,_⟩:=hg; exact h9
 have hcv:=conv_str (cap:=c2) hy;have HG:=lj hg;have HO:=lj (pd_kept HH.out HP2.out hg);clear hg HC hy;have hst:=pd_stored HH.out HP2.out HG.out (writeE b e.i) (writeT b e.i e.n) (((writeE b e.i:Nat):Int));have HS:=lj hst;have f0:=HO.out.free 0;have f1:=HO.out.free 1;have o0:=HO.out.cell 0 (.int .i64 0) rfl;have o1:=HO.out.cell 1 (.string ⟨#[]⟩) rfl;clear hst;go_wp2
 try simp only [show (⟨#[]⟩:ByteArray)=str [] from rfl]
 generalize (w3.setCell ⟨w.heap.size+1,0,none⟩ (.int .i64 (((writeE b e.i:Nat):Int)))).setCell ⟨w.heap.size+1,1,none⟩ (.string (str (writeT b e.i e.n)))=w9 at *;have c0:=HS.out.1.cell 0 (.int .i64 (((writeE b e.i:Nat):Int))) rfl;have c1:=HS.out.1.cell 1 (.string (str (writeT b e.i e.n))) rfl;exact bodyPost_ret (v:=outv (writeE b e.i) (writeT b e.i e.n)) (by unfold outv; simp [results,Tryz.results27,go_sem,c0,c1]) rfl HS.out.2
set_option maxHeartbeats 1000000 in
theorem pdo_4 {F:Fp} {g:Nat} {rs:List (Int×Int)} {w:World} {b:Br} {i T m:Nat} (h:BrIs F g rs w b) (he:EvOk b i T m) (hi:i≤1000000000) (hT:T≤100000000) (e:Sc.Ev) (hm:m+e.t.length≤1000000) (hr:Sc.rtE e=true) (hk:e.k=4) :
  Calls Tryz.prog 27 #[.pointer (some (at0 g)),evv e] w fun r w'=>EGives F g w (drainB b e.n) (outv (0) (drainT b e.n)) r w':=by
 have HR:=lj hr;have HH:=lj h;have HE:=lj he;have HP:=lj (pd_worlds w e);obtain ⟨_,_,hi0,hi1,hn0,hn1,ht1⟩:=Sc.rtE_in hr;have HI:=lj hi;have HTt:=lj hT;have HM:=lj hm;have HN:=lj (And.intro hi0 (And.intro hi1 (And.intro hn0 (And.intro hn1 ht1))));have hwi:wf64 e.i:=wf_few (by omega);have HK:=lj hk;clear h hr he hi hT hm hi0 hi1 hn0 hn1 ht1 hk;unfold evv
 go_enter Tryz.func27,Tryz.ntmps27
 go_upto_region 1 with fail
 generalize (w.alloc (.cells #[.int .i64 e.k,.int .i64 e.i,.int .i64 e.n,.string (str e.t)] 30)).alloc (.cells #[.int .i64 0,.string ⟨#[]⟩] 53)=w1 at *;have x0:=HP.out.ev.cell 0 _ rfl;have x1:=HP.out.ev.cell 1 _ rfl;have x2:=HP.out.ev.cell 2 _ rfl;have x3:=HP.out.ev.cell 3 _ rfl
 go_wp2_with fail
 refine (right16_any e w1).mono ?_;rintro r w2 ⟨rfl,hb2⟩;rw [HR.out];have HP2:=lj (HP.out.go hb2);have y0:w2.cell? ⟨w.heap.size,0,none⟩=some (.int .i64 e.k):=HP2.out.ev.cell 0 _ rfl;have y1:w2.cell? ⟨w.heap.size,1,none⟩=some (.int .i64 e.i):=HP2.out.ev.cell 1 _ rfl;have y2:w2.cell? ⟨w.heap.size,2,none⟩=some (.int .i64 e.n):=HP2.out.ev.cell 2 _ rfl;have y3:w2.cell? ⟨w.heap.size,3,none⟩=some (.string (str e.t)):=HP2.out.ev.cell 3 _ rfl;clear hb2 HP x0 x1 x2 x3;rw [HK.out] at y0;have HC:=lj (bdrain_any (HH.out.quiet (only_of_below HP2.out.b)) e.n)
 go_wp2_with fail
 refine HC.out.mono ?_;rintro r w3 ⟨a2,m2,c2,F2,rfl,h1,h2,h3,hy⟩;have hg:EGives F g _ (drainB b e.n) (.slice a2 m2 c2) (.returned (.slice a2 m2 c2)) w3:=⟨F2,rs,rfl,h1,h2,h3⟩;have hcv:=conv_str (cap:=c2) hy;have HG:=lj hg;have HO:=lj (pd_kept HH.out HP2.out hg);clear hg HC hy h1 h2 h3;have hst:=pd_stored HH.out HP2.out HG.out (0) (drainT b e.n) (0);have HS:=lj hst;have f0:=HO.out.free 0;have f1:=HO.out.free 1;have o0:=HO.out.cell 0 (.int .i64 0) rfl;have o1:=HO.out.cell 1 (.string ⟨#[]⟩) rfl;clear hst;go_wp2
 try simp only [show (⟨#[]⟩:ByteArray)=str [] from rfl]
 generalize (w3.setCell ⟨w.heap.size+1,0,none⟩ (.int .i64 (0))).setCell ⟨w.heap.size+1,1,none⟩ (.string (str (drainT b e.n)))=w9 at *;have c0:=HS.out.1.cell 0 (.int .i64 (0)) rfl;have c1:=HS.out.1.cell 1 (.string (str (drainT b e.n))) rfl;exact bodyPost_ret (v:=outv (0) (drainT b e.n)) (by unfold outv; simp [results,Tryz.results27,go_sem,c0,c1]) rfl HS.out.2
theorem pdo_any {F:Fp} {g:Nat} {rs:List (Int×Int)} {w:World} {b:Br} {i T m:Nat} (h:BrIs F g rs w b) (he:EvOk b i T m) (hi:i≤1000000000) (hT:T≤100000000) (e:Sc.Ev) (hm:m+ewt e≤1000000) :
  Calls Tryz.prog 27 #[.pointer (some (at0 g)),evv e] w fun r w'=>EGives F g w (pEv b e) (outv (pE b e) (pT b e)) r w':=by
 unfold pEv pE pT;unfold ewt at hm
 rcases hr:Sc.rtE e with _ | _
 ·rw [if_neg (by decide),if_neg (by decide),if_neg (by decide)]
  exact pdo_no h e hr
 ·rw [if_pos rfl,if_pos rfl,if_pos rfl]
  rw [hr,if_pos rfl] at hm;obtain ⟨h0,h7,_⟩:=Sc.rtE_in hr
  rcases (by omega:e.k=0∨e.k=1∨e.k=2∨e.k=3∨e.k=4∨e.k=5∨e.k=6∨e.k=7) with hk | hk | hk | hk | hk | hk | hk | hk
  ·rw [hk]; exact pdo_0 h he hi hT e hm hr hk
  ·rw [hk]; exact pdo_1 h he hi hT e hm hr hk
  ·rw [hk]; exact pdo_2 h he hi hT e hm hr hk
  ·rw [hk]; exact pdo_3 h he hi hT e hm hr hk
  ·rw [hk]; exact pdo_4 h he hi hT e hm hr hk
  ·rw [hk]; exact pdo_5 h he hi hT e hm hr hk
  ·rw [hk]; exact pdo_6 h he hi hT e hm hr hk
  ·rw [hk]; exact pdo_7 h he hi hT e hm hr hk
end
section
open Go.RowKit
open Fr Bk
noncomputable def prun:Br→List Sc.Ev→Br
 | b,[]=>b
 | b,e :: l=>prun (pEv b e) l
noncomputable def pouts:Br→List Sc.Ev→List Ot
 | _,[]=>[]
 | b,e :: l=>⟨pE b e,pT b e⟩ :: pouts (pEv b e) l
theorem prun_app:∀ (l r:List Sc.Ev) (b:Br),prun b (l ++ r)=prun (prun b l) r
 | [],_,_=>rfl
 | _ :: l,r,_=>prun_app l r _
theorem pouts_app:∀ (l r:List Sc.Ev) (b:Br),pouts b (l ++ r)=pouts b l ++ pouts (prun b l) r
  | [],_,_=>rfl
  | e :: l,r,b=>by
    show _ :: pouts _ (l ++ r)=_ :: (pouts _ l ++ _)
    rw [pouts_app l r];rfl
theorem pouts_len:∀ (l:List Sc.Ev) (b:Br),(pouts b l).length=l.length
 | [],_=>rfl
 | _ :: l,_=>congrArg (· + 1) (pouts_len l _)
def tsum:List Sc.Ev→Nat
 | []=>0
 | e :: l=>ewt e+tsum l
theorem tsum_app:∀ (l r:List Sc.Ev),tsum (l ++ r)=tsum l+tsum r
  | [],r=>(Nat.zero_add _).symm
  | e :: l,r=>by
    show ewt e+tsum (l ++ r)=ewt e+tsum l+tsum r
    rw [tsum_app l r,Nat.add_assoc]
theorem tsum_take (l:List Sc.Ev) (k:Nat):tsum (l.take k)≤tsum l:=by
 have h:=tsum_app (l.take k) (l.drop k);rw [List.take_append_drop] at h;omega
theorem take_next (l:List Sc.Ev) (k:Nat) (e:Sc.Ev) (h:l[k]?=some e):l.take (k+1)=l.take k ++ [e]:=by
 rw [List.take_add_one,h];rfl
theorem tsum_le:∀ l:List Sc.Ev,tsum l≤4000 * l.length
  | []=>Nat.le_refl _
  | e :: l=>by
    have h1:=tsum_le l
    have h2:ewt e≤4000:=by
      unfold ewt
      split
      · next h=>exact (Sc.rtE_in h).2.2.2.2.2.2
      · exact Nat.zero_le _
    show ewt e+tsum l≤4000 * (l.length+1)
    omega
theorem ev_pEv {b:Br} {i T m:Nat} (h:EvOk b i T m) (e:Sc.Ev) (hm:m+ewt e≤1000000):EvOk (pEv b e) (i+1) (T+2052+ewt e) (m+ewt e):=by
 unfold pEv;unfold ewt at hm ⊢
 split
 ·next hr=>rw [if_pos hr] at hm; exact EvOk.doEv h _ _ _ _ hm
 ·exact ⟨h.ok,fun k c hc=>⟨Nat.le_succ_of_le (h.cn k c hc).1,(h.cn k c hc).2⟩,Nat.le_trans h.tot (by omega),Nat.le_trans h.len (by omega),h.sp⟩
theorem ev_prun:∀ (l:List Sc.Ev) {b:Br} {i T m:Nat},EvOk b i T m→m+tsum l≤1000000→EvOk (prun b l) (i+l.length) (T+l.length * 2052+tsum l) (m+tsum l)
  | [],b,i,T,m,h,_=>by
    show EvOk b (i+0) (T+0 * 2052+0) (m+0)
    rw [Nat.zero_mul];exact h
  | e :: l,b,i,T,m,h,hm=>by
    replace hm:m+(ewt e+tsum l)≤1000000:=hm;have h1:=ev_prun l (ev_pEv h e (by omega)) (by omega)
    show EvOk (prun (pEv b e) l) (i+(l.length+1)) (T+(l.length+1) * 2052+(ewt e+tsum l)) (m+(ewt e+tsum l))
    rw [show i+(l.length+1)=i+1+l.length by omega,show T+(l.length+1) * 2052+(ewt e+tsum l)=T+2052+ewt e+l.length * 2052+tsum l by omega,← Nat.add_assoc];exact h1
theorem ev_from {cf:Cf} (h:EvOk (bnew cf) 0 0 0) (l:List Sc.Ev) (hs:tsum l≤1000000):EvOk (prun (bnew cf) l) l.length (l.length * 2052+tsum l) (tsum l):=by
 have:=ev_prun l h (by omega);rw [Nat.zero_add,Nat.zero_add,Nat.zero_add] at this;exact this
theorem ls_pdo {n0 g:Nat} {S:Nat→Prop} {w:World} {b:Br} {i T m:Nat} (h:LS n0 S g w b) (he:EvOk b i T m) (hi:i≤1000000000) (hT:T≤100000000) (e:Sc.Ev) (hm:m+ewt e≤1000000) :
  Calls Tryz.prog 27 #[.pointer (some (at0 g)),evv e] w fun r w'=>r = .returned (outv (pE b e) (pT b e))∧LS n0 S g w' (pEv b e)∧Only (fun x=>n0≤x∧¬ S x) w w':=by
 obtain ⟨F,rs,h,hs⟩:=h
 exact (pdo_any h.is he hi hT e hm).mono fun r w' hg=>h.e2 hs hg
def PGives (cf:Cf) (L:List Sc.Ev) (w:World) (r:Ending) (w':World):Prop:=
 ∃ g n0 a c,r = .returned (.tuple #[.pointer (some (at0 g)),.slice a L.length c])∧w.heap.size≤n0∧LS n0 (In a) g w' (prun (bnew cf) L)∧OtRow w.heap.size w' a L.length c (pouts (bnew cf) L)∧(∀ x,In a x→g<x)∧Below w.heap.size w w'
set_option maxHeartbeats 2000000 in
theorem pevents_any {cf:Cf} (ho:CfOk cf) (hev:EvOk (bnew cf) 0 0 0) (A:Option Addr) (n cap:Nat) (L:List Sc.Ev) (w:World) (ht:TI w) (hl:EvIn w w.heap.size A L) (hn:L.length=n) (h8:n≤8192) (hs:tsum L≤1000000) :
    Calls Tryz.prog 26 #[.agg (cfRow cf),.slice A n cap] w (PGives cf L w):=by
  have HEV:=lj hev;have HL:=lj hl;have HS:=lj hs;have HN:=lj hn;have hxm:=Bx.new w _ rfl (cfRow cf) 23;have hba:Below w.heap.size w (w.alloc (.cells (cfRow cf) 23)):=(Below.refl _ _).alloc (Nat.le_refl _) _;have HNew:=lj (lb_new ho (w.alloc (.cells (cfRow cf) 23)) (ht.below hba));unfold cfRow at hxm hba HNew ⊢;clear hev hl hs ho ht hn
  go_enter Tryz.func26,Tryz.ntmps26
  go_upto_region 1 with fail
  generalize w.alloc _=w1 at *;have z0:=hxm.cell 0 _ rfl;have z1:=hxm.cell 1 _ rfl;have z2:=hxm.cell 2 _ rfl;have z3:=hxm.cell 3 _ rfl;have z4:=hxm.cell 4 _ rfl;have z5:=hxm.cell 5 _ rfl;have z6:=hxm.cell 6 _ rfl;have z7:=hxm.cell 7 _ rfl;have hz1:w.heap.size≤w1.heap.size:=hba.size;have HBa:=lj hba;clear hxm hba
  go_wp2_with fail
  refine HNew.out.mono ?_;rintro r w2 ⟨g,rfl,hl2,hb2⟩;have HL2:=lj (hl2.ls (S:=In none) (Below.refl _ _) (fun x ⟨p,hp,_⟩=>by cases hp));have HB2:=lj (HBa.out.trans (hb2.mono hz1))
  obtain ⟨n0,hn0⟩:∃ n0,w1.heap.size=n0:=⟨_,rfl⟩
  rw [hn0] at HL2 hz1;clear hl2 hb2 HNew hn0 HBa z0 z1 z2 z3 z4 z5 z6 z7;go_wp2
  go_loopw [7,16] (fun s7 s16 wr=>∃ (k c:Nat) (a:Option Addr),s16 = .int .i64 (k:Nat)∧s7 = .slice a k c∧k≤n∧LS n0 (In a) g wr (prun (bnew cf) (L.take k))∧OtRow w.heap.size wr a k c (pouts (bnew cf) (L.take k))∧(∀ x,In a x→g<x)∧Below w.heap.size w wr) (fun _ s _=>n - (intOf s).toNat)
  case atStart=>exact ⟨0,0,none,rfl,rfl,Nat.zero_le _,HL2.out,OtRow.nil _ _,fun x ⟨p,hp,_⟩=>(by cases hp),HB2.out⟩
  case round =>
    obtain ⟨k,c,a,rfl,rfl,hk,hls,hrow,hag,hb⟩:=hrel;have HLs:=lj hls;have HR:=lj hrow;have HA:=lj hag;have HB:=lj hb;have hzr:=hb.size;clear hls hrow hag hb HL2 HB2
    by_cases hkn:k<n
    rotate_left
    · obtain rfl:k=n:=by omega
      have dk:decide ((k:Int)<(k:Int))=false:=by simp
      have hG:PGives cf L w (.returned (.tuple #[.pointer (some (at0 g)),.slice a k c])) wr:=by
        have e1:L.take k=L:=List.take_of_length_le (by rw [HN.out]; exact Nat.le_refl _);have h1:=HLs.out;have h2:=HR.out;rw [e1] at h1 h2;exact ⟨g,n0,a,c,by rw [HN.out],hz1,h1,by rw [HN.out]; exact h2,HA.out,HB.out⟩
      have HG:=lj hG;clear hG HLs HR HA HB;go_wp2;exact bodyPost_ret (v:=.tuple #[.pointer (some (at0 g)),.slice a k c]) (by simp [results,Tryz.results26,go_sem]) rfl HG.out
    have dk:decide ((k:Int)<(n:Int))=true:=decide_eq_true (by omega)
    obtain ⟨e,he⟩:∃ e,L[k]?=some e:=⟨_,List.getElem?_eq_getElem (by rw [HN.out]; exact hkn)⟩
    obtain ⟨bb,off,rfl,hlt,hc⟩:=(HL.out.below HB.out).outer (by rw [HN.out]; omega);obtain ⟨v0,v1,v2,v3⟩:=hc k e he;have hnx:=take_next L k e he;have htk:=tsum_take L (k+1);rw [hnx,tsum_app] at htk;have HNX:=lj hnx;have hts:tsum [e]=ewt e:=Nat.add_zero _
    have hlk:(L.take k).length=k:=by rw [List.length_take,HN.out]; omega
    have hek:=ev_from HEV.out (L.take k) (by have:=HS.out; omega);rw [hlk] at hek;have HE:=lj (Bx.new wr wr.heap.size rfl #[.int .i64 e.k,.int .i64 e.i,.int .i64 e.n,.string (str e.t)] 30);have hbe:Below wr.heap.size wr (wr.alloc (.cells #[.int .i64 e.k,.int .i64 e.i,.int .i64 e.n,.string (str e.t)] 30)):=(Below.refl _ _).alloc (Nat.le_refl _) _;have HEk:=lj (And.intro hek (show k * 2052+tsum (L.take k)≤100000000∧tsum (L.take k)+ewt e≤1000000 by have:=HS.out; omega));clear hc he hnx htk hts hlk hek
    go_upto_region 8 with fail
    have HL5:=lj (HLs.out.quiet (only_of_below hbe));have HR5:=lj (HR.out.below hbe);generalize wr.alloc _=w5 at *;have HB5:=lj (HB.out.trans (hbe.mono hzr));have hz5:w.heap.size≤w5.heap.size:=HB5.out.size;have e0:=HE.out.cell 0 _ rfl;have e1:=HE.out.cell 1 _ rfl;have e2:=HE.out.cell 2 _ rfl;have e3:=HE.out.cell 3 _ rfl;have HDo:=lj (ls_pdo HL5.out HEk.out.1 (by omega) HEk.out.2.1 e HEk.out.2.2);unfold evv at HDo;clear v0 v1 v2 v3 hbe HLs HR HB
    go_wp2_with fail
    refine HDo.out.mono ?_;rintro r w6 ⟨rfl,hl6,ho6⟩;have HL6:=lj hl6;have HR6:=lj (HR5.out.only ho6 fun p hp hx=>hx.2 ⟨p,hp,rfl⟩);have HB6:=lj (HB5.out.trans (ho6.below hz5 fun x hx h=>by have:=h.1; omega));have hz6:w.heap.size≤w6.heap.size:=HB6.out.size
    obtain ⟨o,hoe⟩:∃ o:Ot,(⟨pE (prun (bnew cf) (L.take k)) e,pT (prun (bnew cf) (L.take k)) e⟩:Ot)=o:=⟨_,rfl⟩
    have ho1:pE (prun (bnew cf) (L.take k)) e=o.e:=by rw [← hoe]
    have ho2:pT (prun (bnew cf) (L.take k)) e=o.t:=by rw [← hoe]
    have HOE:=lj hoe;unfold outv;rw [ho1,ho2];have hba2:Below w6.heap.size w6 (w6.alloc (.cells #[.int .i64 (o.e:Nat),.string (str o.t)] 53)):=(Below.refl _ _).alloc (Nat.le_refl _) _;have HR7:=lj (HR6.out.below hba2);have HL7:=lj (HL6.out.quiet (only_of_below hba2));have HB7:=lj (HB6.out.trans (hba2.mono hz6));have hz7:w.heap.size≤(w6.alloc (.cells #[.int .i64 (o.e:Nat),.string (str o.t)] 53)).heap.size:=HB7.out.size;clear hl6 ho6 hoe ho1 ho2 HDo HL5 HR5 HB5 e0 e1 e2 e3 hba2 HE HL6 HR6 HB6
    go_wp2_with (first
      | (at_builtin
         refine wpList_oapp rfl (.tmp 20) (.tmp 24) rfl rfl HR7.out rfl (ot_one w6 o _) rfl (by omega) hz7 ?_;intro A2 c2 w2 hr2 hO2 hA2;have HR2:=lj hr2;have HO2:=lj hO2;have HA2:=lj hA2
         clear hr2 hO2 hA2))
    go_roundw
    case rel =>
      have hg7:=HL7.out.lt.1
      have hT:∀ x,In A2 x→(In a x∨(w6.alloc (.cells #[.int .i64 (o.e:Nat),.string (str o.t)] 53)).heap.size≤x)∧x<w2.heap.size:=fun x ⟨p,hp,hx⟩=>by
        subst hx;exact ⟨HA2.out p hp,(HR2.out.lt hp).2⟩
      refine ⟨k+1,c2,A2,by go_num,by go_num,by omega,?_,?_,fun x hx=>?_,?_⟩
      · rw [HNX.out,prun_app]
        exact HL7.out.turn HO2.out HA.out hT
      · rw [HNX.out,pouts_app]
        show OtRow _ _ _ _ _ (_ ++ [_])
        rw [HOE.out];exact HR2.out
      · rcases (hT x hx).1 with h1 | h1
        · exact HA.out x h1
        · omega
      · exact HB7.out.trans (HO2.out.below hz7 fun x hx ⟨p,hp,h⟩=>by have:=(HR7.out.lt hp).1; omega)
    case measure=>simp [intOf]; omega
end
section
open Go.RowKit
open Fr Bk
theorem conf_ev {c:Cf} (h:CfOk c):EvOk (bnew c) 0 0 0:=
 ⟨⟨h.log,h.data,h.queue,h.input,h.idle,h.strikes,(fok_new c.lease).mono (by decide),fun p hp=>(by cases hp),Nat.zero_le _,⟨Int.le_refl 0,(by decide:(0:Int)≤16)⟩,Nat.zero_le _,fun k c hc=>(by cases hc)⟩,fun k c hc=>(by cases hc),Nat.zero_le _,Nat.zero_le _,Sp.Ok.start (by have:=h.width; omega) (by have:=h.width; omega)⟩
theorem rt_cf {a b c d e f g h:Int} (hr:rt a b c d e f g h=true):∃ cf:Cf,CfOk cf∧EvOk (bnew cf) 0 0 0∧a=(cf.log:Nat)∧b=(cf.data:Nat)∧c=(cf.queue:Nat)∧d=(cf.input:Nat)∧e=(cf.strikes:Nat)∧f=(cf.lease:Nat)∧g=(cf.idle:Nat)∧h=(cf.width:Nat):=by
 unfold rt bw at hr;simp only [Bool.and_eq_true,decide_eq_true_eq] at hr;have ho:CfOk ⟨a.toNat,b.toNat,c.toNat,d.toNat,e.toNat,f.toNat,g.toNat,h.toNat⟩:=⟨by dsimp only; omega,by dsimp only; omega,by dsimp only; omega,by dsimp only; omega,by dsimp only; omega,by dsimp only; omega,by dsimp only; omega,by dsimp only; omega⟩;exact ⟨_,ho,conf_ev ho,by dsimp only; omega,by dsimp only; omega,by dsimp only; omega,by dsimp only; omega,by dsimp only; omega,by dsimp only; omega,by dsimp only; omega,by dsimp only; omega⟩
structure AtEv (cf:Cf) (Ln:Nat→Nat) (k:Nat) (b:Br):Prop where
 ev:EvOk b k (k * 2052+sumL Ln k) (sumL Ln k)
 r3:R3 b
 cf:b.cf=cf
end
end Go.Proofs.YtalichkdeekdcaaGreatDoor
