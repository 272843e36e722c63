/- PJo PHe PRe PBy PLb PLe PLf -/
import Derived.Test.YtdpagmcickkbmaaGreatDoorZd19
import Derived.Test.YtdpagmcickkbmaaGreatDoorZd28
import Derived.Test.YtdpagmcickkbmaaGreatDoorZd44
namespace Go.Proofs.YtdpagmcickkbmaaGreatDoor
set_option maxRecDepth 100000
open Go.Lib renaming hid → lj
section
open Go.RowKit Go.Shelf Go.Maps
open Fr Bk
section
variable {F:Fp} {g:Nat} {y:Ly} {w w':World} {b:Br}
theorem BrAt.cnOpen (h:BrAt F g y w b) {k gc gv p:Nat} {c:Cn} {t:Bs} (h1:1≤k) (_h2:k≤16) (hgc:rrole y.rs k=(gc:Int)+1) (hcn:CnAt F k gc (y.cy k) b.cf.queue w c) (hgv:w.heap.size≤gv) (hO:Only (fun x=>x=gc) w w')
  (hbx:Bx gc w' (crow k (opened c t p) { y.cy k with gv:=some gv })) (hv:Bx gv w' (VV p 0)):BrAt (upF F (10 * k+4) (fun x=>x=gv)) g (ycy y k { y.cy k with gv:=some gv }) w' (setc b k (some (opened c t p))):=by
 have hO1:∀ {s:Nat},s≠10 * k→∀ x,F s x→¬ x=gc:=fun hs x hx e=>by subst e; exact h.fit.ne hx hs hcn.own
 have hG:∀ x,x=gv→F (10 * k+4) x∨w.heap.size≤x:=fun x e=>.inr (by omega)
 refine ⟨h.fit.up hG (fun x e=>by have:=hv.room; omega) hO.size,fun x=>by rw [upF_other (by omega)]; exact h.me x,h.row.keep hO (hO1 (by omega) _ h.gow),?_,h.spot,?_,?_,?_,h.rsok,fun j j1 j2=>?_,?_⟩
 ·rw [upF_other (by omega)]; exact h.ring.keep hO (hO1 (by omega))
 ·rw [upF_other (by omega)]; exact h.tab.keep hO (hO1 (by omega))
 ·rw [upF_other (by omega)]; exact h.inp.keep hO (hO1 (by omega))
 ·rw [upF_other (by omega)]; exact h.map.keep hO (hO1 (by omega))
 ·show CnOpt _ j (ycy y k { y.cy k with gv:=some gv }) b.cf.queue w' (if j=k then some (opened c t p) else b.cs j)
  by_cases e:j=k
  ·subst e
   rw [if_pos rfl];refine ⟨gc,hgc,?_⟩
   show CnAt _ j gc (if j=j then { y.cy j with gv:=some gv } else y.cy j) _ _ _
   rw [if_pos rfl];refine ⟨hbx,by rw [upF_other (by omega)]; exact hcn.own,?_,?_,?_,?_,fun _=>by simp⟩
   ·rw [upF_other (by omega)]; exact hcn.fd.keep hO (hO1 (by omega))
   ·rw [upF_other (by omega)]; exact hcn.lx.keep hO (hO1 (by omega))
   ·rw [upF_other (by omega)]; exact hcn.qu.keep hO (hO1 (by omega))
   ·intro gv2 e2
    rw [upF_same]
    injection e2 with e2
    subst e2;exact ⟨hv,rfl⟩
  ·rw [if_neg e]
   refine (h.cns j j1 j2).keep hO (fun i2 x h5 hx=>hO1 (by omega) x hx) (fun i2 h5=>upF_other (by omega)) rfl ?_
   show (if j=k then { y.cy k with gv:=some gv } else y.cy j)=y.cy j
   rw [if_neg e]
 ·exact h.base.step (hO.mono fun x _ hx=>⟨10 * k,by rw [hx]; exact hcn.own⟩) (upF_own hG)
end
theorem Bx.drew1 {g:Nat} {w:World} {vs:Array Value} (h:Bx g w vs):Bx g w.drew vs:=h.keep ((Only.refl Nay w).drew) (fun h=>h)
theorem joined_ok {k:Nat} {t:Bs} (hk:k≤16) (ht:t.length≤20):(joined k t).ok=true:=by
 refine notice_ok ?_;have:=Dgs.dgs_len k 2 (by omega);unfold wJoined;simp;omega
theorem welcome_ok {k p:Nat} (r:Int) (hk:k≤16) (hp:p≤1099511627776):(welcome k p r).ok=true:=by
 unfold M.ok;rw [Ms.rt_iff];refine ⟨rfl,?_,?_,?_⟩
 ·show Ms.okN ((k:Nat):Int) true=true
  unfold Ms.okN; simp; omega
 ·show Ms.okN ((p:Nat):Int) true=true
  unfold Ms.okN; simp; omega
 ·have:=role_len r
  show (Bk.roleWord r).length≤20
  omega
theorem bit2 (a:Int) (h0:0≤a) (h1:a≤1099511627776):(bits .and .i64 a 2 != 0)=decide (a % 4=2∨a % 4=3):=by
 obtain ⟨n,rfl⟩:=Int.eq_ofNat_of_zero_le h0
 have e:bits .and .i64 (n:Int) 2=((n &&& 2:Nat):Int):=by
  show IntKind.i64.wrap ((BitVec.ofInt 64 (n:Int) &&& BitVec.ofInt 64 2).toNat:Int)=_
  rw [BitVec.toNat_and]
  have h2:(BitVec.ofInt 64 (n:Int)).toNat=n:=by rw [BitVec.ofInt_natCast,BitVec.toNat_ofNat]; omega
  have h3:(BitVec.ofInt 64 2).toNat=2:=by decide
  rw [h2,h3];have:n &&& 2≤2:=Nat.and_le_right;rw [IntKind.wrap_i64];omega
 rw [e]
 have h4:n &&& 2=if n % 4=2∨n % 4=3 then 2 else 0:=by
  have hd:n &&& 2=(n % 4) &&& 2:=by
   rw [show n % 4=n &&& 3 from (Nat.and_two_pow_sub_one_eq_mod n 2).symm,Nat.and_assoc];rfl
  rw [hd];have:n % 4<4:=Nat.mod_lt _ (by decide);generalize n % 4=r at *
  rcases (show r=0∨r=1∨r=2∨r=3 by omega) with rfl | rfl | rfl | rfl <;> decide
 rw [h4]
 by_cases hq:n % 4=2∨n % 4=3
 ·rw [if_pos hq,decide_eq_true (by omega)]; decide
 ·rw [if_neg hq,decide_eq_false (by omega)]; decide
theorem bit1 (a:Int) (h0:0≤a) (h1:a≤1099511627776):(bits .and .i64 a 1 != 0)=decide (a % 2=1):=by
 obtain ⟨n,rfl⟩:=Int.eq_ofNat_of_zero_le h0
 have e:bits .and .i64 (n:Int) 1=((n &&& 1:Nat):Int):=by
  show IntKind.i64.wrap ((BitVec.ofInt 64 (n:Int) &&& BitVec.ofInt 64 1).toNat:Int)=_
  rw [BitVec.toNat_and]
  have h2:(BitVec.ofInt 64 (n:Int)).toNat=n:=by rw [BitVec.ofInt_natCast,BitVec.toNat_ofNat]; omega
  have h3:(BitVec.ofInt 64 1).toNat=1:=by decide
  rw [h2,h3];have:n &&& 1≤1:=Nat.and_le_right;rw [IntKind.wrap_i64];omega
 rw [e,Nat.and_one_is_mod]
 by_cases hq:n % 2=1
 ·rw [hq,decide_eq_true (by omega)]; decide
 ·rw [show n % 2=0 by omega,decide_eq_false (by omega)]; decide
set_option maxHeartbeats 1000000 in
theorem bjoin_any {F:Fp} {g:Nat} {rs:List (Int×Int)} {w:World} {b:Br} {k gc:Nat} {c:Cn} (h:BrIs F g rs w b) (hk:BOk b) (h1:1≤k) (h2:k≤16) (hgc:rrole rs k=(gc:Int)+1) (hc:b.cs k=some c) (hst:c.st=0) (m:M) (hm:m.ok=true) (hm1:m.k=1) (hnm:isName m.t=true) :
  Calls Tryz.prog 105 #[.pointer (some (at0 g)),.pointer (some (at0 gc)),MV m] w fun e w'=>BGives F g rs w (joinB b k m) (.tuple #[]) e w':=by
 obtain ⟨y,rfl,hb0⟩:=h
 have hml:m.t.length≤20:=by have:=Ms.rt_n hm; rw [hm1] at this; exact this
 have hma:=Ms.rt_a hm;have hmb:=Ms.rt_b hm
 have ho:opn b k=false:=by unfold opn; rw [hc]; simp [hst]
 have hc1:(Bk.tell (joined k m.t) b).cs k=some c:=(tell_shut (joined k m.t) ho).trans hc;have hk1:=hk.tell (joined k m.t);rw [joinB_eq,hc1]
 show Calls _ _ _ _ fun e w'=>BGives F g y.rs w (joinR (Bk.tell (joined k m.t) b) k c m) (.tuple #[]) e w'
 have hTell:=fun (W:World) (hO:Only Nay w W)=>btell_any (joined k m.t) (show BrIs F g y.rs W b from ⟨y,rfl,hb0.quiet hO⟩) hk.fok (joined_ok h2 hml)
 obtain ⟨c00,hc00,hcn0⟩:=BrIs.cn hb0 h1 h2 hgc;rw [hc] at hc00
 injection hc00 with hc00
 subst hc00;have hl:=Dgs.dgs_len k 2 (by omega)
 have hs1:(str (Dgs.dgs k)).size≤3:=by rw [str_size]; exact hl
 have hs2:(str m.t).size≤20:=by rw [str_size]; exact hml
 have hj:joined k m.t=notice (wJoined ++ (Dgs.dgs k ++ 32#8 :: m.t)):=by unfold joined; simp
 have hstr:(⟨#[106,111,105,110,101,100,32]⟩:ByteArray) ++ str (Dgs.dgs k) ++ ⟨#[32]⟩ ++ str m.t=str (wJoined ++ (Dgs.dgs k ++ 32#8 :: m.t)):=by
  rw [show wJoined ++ (Dgs.dgs k ++ 32#8 :: m.t)=wJoined ++ Dgs.dgs k ++ [32#8] ++ m.t by simp,str_app,str_app,str_app];rfl
 obtain ⟨b1,hb1e⟩:∃ b1,Bk.tell (joined k m.t) b=b1:=⟨_,rfl⟩
 have hln:b1.L.length≤1099511627776:=by rw [← hb1e]; exact hk1.len
 simp only [hb1e] at hTell hc1 hk1 ⊢;have HT:=lj hTell
 have hO0:∀ o,Only Nay w (w.alloc o):=fun o=>(Only.refl Nay w).alloc o
 have HX:=lj (Bx.new w _ rfl #[.int .i64 m.k,.int .i64 m.a,.int .i64 m.b,.string (str m.t)] 38);have HO:=lj (hO0 (.cells #[.int .i64 m.k,.int .i64 m.a,.int .i64 m.b,.string (str m.t)] 38));have HS:=lj (show ∀ W,Only Nay w W→W.cell? ⟨gc,0,none⟩=some (.int .i64 (k:Nat)) from fun W hW=>(hcn0.keep hW (fun _ _ _ _ h=>h)).bx.cell 0 _ rfl);have HF:=lj (And.intro hb0.fit (show ∀ x,Own1 F x→x<w.heap.size from fun x hx=>hb0.lt hx));have HM:=lj (And.intro hma (And.intro hmb (And.intro hm1 (And.intro hml hnm))));have HC:=lj (And.intro hc1 (And.intro hk1 (And.intro hgc (And.intro hst hln))))
 have hitoa:=fun W=>itoa_any k (by omega) W
 clear hTell hO0 hma hmb hm1 hml ho hc1 hk1 hb0 hcn0 hc hk hgc hm hst hl hb1e hnm hln
 have hmix:Tryz.prog.follows .mixedOrders=true:=by kernel_rfl
 go_enter Tryz.func105,Tryz.ntmps105
 go_upto_region 1 with fail
 generalize w.alloc (.cells #[.int .i64 m.k,.int .i64 m.a,.int .i64 m.b,.string (str m.t)] 38)=w0 at *;go_wp2;refine wp_region_held (S:=fun W=>W.cell? ⟨gc,0,none⟩=some (.int .i64 (k:Nat))∧W.cell? ⟨w.heap.size,3,none⟩=some (.string (str m.t))) hmix ?_
 change wpAnyH _ _ _ _ _ _ _ _ (World.drew _)
 have hS0:w0.drew.cell? ⟨gc,0,none⟩=some (.int .i64 (k:Nat))∧w0.drew.cell? ⟨w.heap.size,3,none⟩=some (.string (str m.t)):=⟨HS.out _ HO.out.drew,HX.out.cell 3 _ rfl⟩;refine wpAnyH_take (i:=0) (v:=.pointer (some (at0 g))) rfl (by kernel_rfl) (by kernel_rfl) (by kernel_rfl) (fun _ _ _ h=>h) (.inl ⟨by kernel_rfl,fun W hW=>?_⟩) hS0 ?_
 ·go_simp
 refine wpAnyH_take (i:=1) (v:=.pointer (some (at0 gc))) rfl (by kernel_rfl) (by kernel_rfl) (by kernel_rfl) (fun _ _ _ h=>h) (.inl ⟨by kernel_rfl,fun W hW=>?_⟩) hS0 ?_
 ·go_simp
 refine wpAnyH_take (i:=2) (v:=.pointer (some (at0 gc))) rfl (by kernel_rfl) (by kernel_rfl) (by kernel_rfl) (fun _ _ _ h=>h) (.inl ⟨by kernel_rfl,fun W hW=>?_⟩) hS0 ?_
 ·go_simp
 refine wpAnyH_take (i:=3) (v:=.pointer (some ⟨gc,0,none⟩)) rfl (by kernel_rfl) (by kernel_rfl) (by kernel_rfl) (fun _ _ _ h=>h) (.inl ⟨by kernel_rfl,fun W hW=>?_⟩) hS0 ?_
 ·go_simp
 refine wpAnyH_take (i:=4) (v:=.int .i64 (k:Nat)) rfl (by kernel_rfl) (by kernel_rfl) (by kernel_rfl) (fun _ _ _ h=>h) (.inl ⟨by kernel_rfl,fun W hW=>?_⟩) hS0 ?_
 ·obtain ⟨e0,e1⟩:=hW; go_simp
 refine wpAnyH_take (i:=8) (v:=.pointer (some ⟨w.heap.size,3,none⟩)) rfl (by kernel_rfl) (by kernel_rfl) (by kernel_rfl) (fun _ _ _ h=>h) (.inl ⟨by kernel_rfl,fun W hW=>?_⟩) hS0 ?_
 ·go_simp
 refine wpAnyH_take (i:=9) (v:=.string (str m.t)) rfl (by kernel_rfl) (by kernel_rfl) (by kernel_rfl) (fun _ _ _ h=>h) (.inl ⟨by kernel_rfl,fun W hW=>?_⟩) hS0 ?_
 ·obtain ⟨e0,e1⟩:=hW; go_simp
 refine wpAnyH_all (rs:=[5]) (by kernel_rfl) (by simp) ?_;intro z hz;rw [List.mem_singleton.1 hz];clear hz;unfold wpOp
 go_simp
 refine .inl ((hitoa _).mono ?_);rintro e wz ⟨rfl,rfl⟩
 go_simp
 refine wpAnyH_take (i:=6) (v:=.string ((⟨#[106,111,105,110,101,100,32]⟩:ByteArray) ++ str (Dgs.dgs k))) rfl (by kernel_rfl) (by kernel_rfl) (by kernel_rfl) (fun _ _ _ h=>h) (.inl ⟨by kernel_rfl,fun W hW=>?_⟩) hS0 ?_
 ·go_simp; omega
 refine wpAnyH_take (i:=7) (v:=.string ((⟨#[106,111,105,110,101,100,32]⟩:ByteArray) ++ str (Dgs.dgs k) ++ ⟨#[32]⟩)) rfl (by kernel_rfl) (by kernel_rfl) (by kernel_rfl) (fun _ _ _ h=>h) (.inl ⟨by kernel_rfl,fun W hW=>?_⟩) hS0 ?_
 ·go_simp; omega
 refine wpAnyH_take (i:=10) (v:=.string ((⟨#[106,111,105,110,101,100,32]⟩:ByteArray) ++ str (Dgs.dgs k) ++ ⟨#[32]⟩ ++ str m.t)) rfl (by kernel_rfl) (by kernel_rfl) (by kernel_rfl) (fun _ _ _ h=>h) (.inl ⟨by kernel_rfl,fun W hW=>?_⟩) hS0 ?_
 ·go_simp; omega
 refine wpAnyH_all (rs:=[11]) (by kernel_rfl) (by simp) ?_;intro z hz;rw [List.mem_singleton.1 hz];clear hz;unfold wpOp
 go_simp
 refine .inl ((notice_any _ _).mono ?_);rintro e wn ⟨rfl,hon⟩;have hO2:Only Nay w wn:=HO.out.trans (((Only.refl Nay w0).drew).trans hon);have hS1:wn.cell? ⟨gc,0,none⟩=some (.int .i64 (k:Nat))∧wn.cell? ⟨w.heap.size,3,none⟩=some (.string (str m.t)):=⟨HS.out _ hO2,(HX.out.keep (((Only.refl Nay w0).drew).trans hon) (fun h=>h)).cell 3 _ rfl⟩;have HX2:=lj (HX.out.keep (((Only.refl Nay w0).drew).trans hon) (fun h=>h));have HO2:=lj hO2;clear hS0 hon hO2 hstr hs1 hs2
 go_simp
 have hS0:=hS1;clear hS1;refine wpAnyH_all (rs:=[12]) (by kernel_rfl) (by simp) ?_;intro z hz;rw [List.mem_singleton.1 hz];clear hz;unfold wpOp
 go_simp
 have hT2:=HT.out _ HO2.out;rw [hj] at hT2;refine .inl (hT2.mono ?_);clear hT2 hj;rintro e w1 ⟨F1,rfl,⟨y1,hy1,hb1⟩,hs1,ho1⟩
 have hnb:¬ Own1 F w.heap.size:=fun e=>by have:=HF.out.2 _ e; omega
 have hgc1:rrole y1.rs k=(gc:Int)+1:=by rw [hy1]; exact HC.out.2.2.1
 obtain ⟨c0,hc0,hcn1⟩:=BrIs.cn hb1 h1 h2 hgc1;rw [HC.out.1] at hc0
 injection hc0 with hc0
 subst hc0;have hbx1:Bx w.heap.size w1 #[.int .i64 m.k,.int .i64 m.a,.int .i64 m.b,.string (str m.t)]:=HX2.out.keep ho1 hnb;have hS1:w1.cell? ⟨gc,0,none⟩=some (.int .i64 (k:Nat))∧w1.cell? ⟨w.heap.size,3,none⟩=some (.string (str m.t)):=⟨hcn1.bx.cell 0 _ rfl,hbx1.cell 3 _ rfl⟩;have HB1:=lj hb1;have HCN:=lj hcn1;have HBX:=lj hbx1;have HO1:=lj (And.intro (show ∀ x,Own1 F1 x→Own1 F x∨w.heap.size≤x from fun x hx=>(hs1 x hx).imp id fun h=>Nat.le_trans HO2.out.size h) (show Only (Own1 F) w w1 from (HO2.out.mono fun _ _ h=>h.elim).trans ho1))
 have hbl:¬ Own1 F1 w.heap.size:=fun e=>by
  rcases hs1 _ e with h | h
  ·exact hnb h
  ·have:=cell_lt (HX2.out.cell 3 _ rfl)
   have h9:w.heap.size<wn.heap.size:=this;omega
 have HBL:=lj hbl;clear hb1 hcn1 hbx1 hs1 ho1 hnb hS0 hbl
 go_simp
 refine wpAnyH_done (by kernel_rfl) ?_ _;clear hS1;have hW1:w1.drew.cell? ⟨gc,1,none⟩=some (.int .i64 (c.st:Nat))∧w1.drew.frozen? ⟨gc,1,none⟩=false∧w1.drew.cell? ⟨gc,6,none⟩=some (.string (str c.name))∧w1.drew.frozen? ⟨gc,6,none⟩=false:=⟨HCN.out.bx.cell 1 _ rfl,HCN.out.bx.free 1,HCN.out.bx.cell 6 _ rfl,HCN.out.bx.free 6⟩;have HNE:=lj (show ¬ w.heap.size=gc from fun e=>HBL.out ⟨10 * k,by rw [e]; exact HCN.out.own⟩);have hgw:gc<w1.heap.size:=HCN.out.bx.room;go_wp2;refine wp_region_held (S:=fun W=>W.cell? ⟨w.heap.size,3,none⟩=some (.string (str m.t))) hmix ?_
 change wpAnyH _ _ _ _ _ _ _ _ (World.drew _)
 have hS0:w1.drew.cell? ⟨w.heap.size,3,none⟩=some (.string (str m.t)):=HBX.out.cell 3 _ rfl;refine wpAnyH_take (i:=0) (v:=.pointer (some (at0 gc))) rfl (by kernel_rfl) (by kernel_rfl) (by kernel_rfl) (fun _ _ _ h=>h) (.inl ⟨by kernel_rfl,fun W hW=>?_⟩) hS0 ?_
 ·go_simp
 refine wpAnyH_take (i:=1) (v:=.pointer (some (at0 gc))) rfl (by kernel_rfl) (by kernel_rfl) (by kernel_rfl) (fun _ _ _ h=>h) (.inl ⟨by kernel_rfl,fun W hW=>?_⟩) hS0 ?_
 ·go_simp
 refine wpAnyH_take (i:=2) (v:=.pointer (some ⟨w.heap.size,3,none⟩)) rfl (by kernel_rfl) (by kernel_rfl) (by kernel_rfl) (fun _ _ _ h=>h) (.inl ⟨by kernel_rfl,fun W hW=>?_⟩) hS0 ?_
 ·go_simp
 refine wpAnyH_take (i:=3) (v:=.string (str m.t)) rfl (by kernel_rfl) (by kernel_rfl) (by kernel_rfl) (fun _ _ _ h=>h) (.inl ⟨by kernel_rfl,fun W hW=>?_⟩) hS0 ?_
 ·have e0:=hW; go_simp
 refine wpAnyH_take (i:=4) (v:=.pointer (some (at0 gc))) rfl (by kernel_rfl) (by kernel_rfl) (by kernel_rfl) (fun _ _ _ h=>h) (.inl ⟨by kernel_rfl,fun W hW=>?_⟩) hS0 ?_
 ·go_simp
 refine wpAnyH_take (i:=5) (v:=.pointer (some ⟨gc,1,none⟩)) rfl (by kernel_rfl) (by kernel_rfl) (by kernel_rfl) (fun _ _ _ h=>h) (.inl ⟨by kernel_rfl,fun W hW=>?_⟩) hS0 ?_
 ·go_simp
 obtain ⟨e1,e2,e3,e4⟩:=hW1;have hX1:=HCN.out.bx.set 1 (.int .i64 1);have hS1:(w1.setCell ⟨gc,1,none⟩ (.int .i64 1)).drew.cell? ⟨w.heap.size,3,none⟩=some (.string (str m.t)):=(Bx.only gc w1.drew 1 (.int .i64 1)).keepCell (p:=⟨w.heap.size,3,none⟩) HNE.out hS0;have c6:(w1.setCell ⟨gc,1,none⟩ (.int .i64 1)).drew.cell? ⟨gc,6,none⟩=some (.string (str c.name)):=hX1.cell 6 _ rfl;have f6:(w1.setCell ⟨gc,1,none⟩ (.int .i64 1)).drew.frozen? ⟨gc,6,none⟩=false:=hX1.free 6;refine wpAnyH_all (rs:=[6]) (by kernel_rfl) (by simp) ?_;intro z hz;rw [List.mem_singleton.1 hz];clear hz;unfold wpOp
 go_simp
 refine .inl ?_;refine wpAnyH_take (i:=7) (v:=.pointer (some (at0 gc))) rfl (by kernel_rfl) (by kernel_rfl) (by kernel_rfl) (fun _ _ _ h=>h) (.inl ⟨by kernel_rfl,fun W hW=>?_⟩) hS1 ?_
 ·go_simp
 refine wpAnyH_take (i:=8) (v:=.pointer (some ⟨gc,6,none⟩)) rfl (by kernel_rfl) (by kernel_rfl) (by kernel_rfl) (fun _ _ _ h=>h) (.inl ⟨by kernel_rfl,fun W hW=>?_⟩) hS1 ?_
 ·go_simp
 refine wpAnyH_all (rs:=[9]) (by kernel_rfl) (by simp) ?_;intro z hz;rw [List.mem_singleton.1 hz];clear hz;unfold wpOp
 go_simp
 refine .inl ⟨HBX.out.cell 3 _ rfl,?_⟩;refine wpAnyH_done (by kernel_rfl) ?_ _;clear hS0 hS1 e1 e2 e3 e4 c6 f6 hX1;have hX2:Bx gc (((w1.setCell ⟨gc,1,none⟩ (.int .i64 1)).setCell ⟨gc,6,none⟩ (.string (str m.t))).drew) (((crow k c (y1.cy k)).setIfInBounds 1 (.int .i64 1)).setIfInBounds 6 (.string (str m.t))):=((HCN.out.bx.set 1 (.int .i64 1)).set 6 (.string (str m.t))).drew1;have hO2:Only (fun x=>x=gc) w1 (((w1.setCell ⟨gc,1,none⟩ (.int .i64 1)).setCell ⟨gc,6,none⟩ (.string (str m.t))).drew):=((Bx.only gc w1 1 _).trans (Bx.only gc _ 6 _)).drew;generalize ((w1.setCell ⟨gc,1,none⟩ (.int .i64 1)).setCell ⟨gc,6,none⟩ (.string (str m.t))).drew=w2 at *;have HX2c:=lj hX2;have HO12:=lj hO2;have HBX2:=lj (HBX.out.keep hO2 HNE.out)
 have hng:∀ s x,F1 s x→s≠10 * k→¬ x=gc:=fun s x hx hs e=>by subst e; exact HB1.out.fit.ne hx hs HCN.out.own
 have hring:=(HB1.out.toRing).keep hO2 (hng 1 g HB1.out.gow (by omega)) (hng 2 y1.gk HB1.out.ring.1 (by omega));have hring:=hring.keep ((Only.refl (fun _=>False) w2).drew) (fun h=>h) (fun h=>h)
 have hV:Calls Tryz.prog 119 #[.pointer (some ⟨g,8,none⟩),.int .i64 m.b,.bool (decide (m.a % 4=2∨m.a % 4=3))] w2.drew fun e w'=>e = .returned (.pointer (some ⟨w2.heap.size,0,none⟩))∧Bx w2.heap.size w' (VV (comeAt b1 m) 0)∧Only (fun _=>False) w2.drew w':=by
  have hb63:m.b≤9223372036854775807:=by have:=HM.out.2.1.2; omega
  unfold comeAt
  rcases hln:decide (m.a % 4=2∨m.a % 4=3) with _ | _
  ·exact vnew_no hring m.b hb63
  ·refine (vnew_yes hring m.b hb63).mono ?_
   rintro e w' ⟨r,rfl,hl,hx,ho⟩;refine ⟨rfl,?_,ho⟩;have:Bk.viewAt b1.L b1.cf.log m.b true=r:=lineAt_eq hl;rw [this];exact hx
 have HV:=lj hV;have hbit:=bit2 m.a HM.out.1.1 HM.out.1.2;clear hX2 hO2 hring hV hng
 obtain ⟨ln,hln⟩:∃ ln,decide (m.a % 4=2∨m.a % 4=3)=ln:=⟨_,rfl⟩
 rw [hln] at HV hbit;clear hln;go_wp2;refine wp_region_held (S:=fun W=>W.cell? ⟨w.heap.size,1,none⟩=some (.int .i64 m.a)∧W.cell? ⟨w.heap.size,2,none⟩=some (.int .i64 m.b)) hmix ?_
 change wpAnyH _ _ _ _ _ _ _ _ (World.drew _)
 have hS0:w2.drew.cell? ⟨w.heap.size,1,none⟩=some (.int .i64 m.a)∧w2.drew.cell? ⟨w.heap.size,2,none⟩=some (.int .i64 m.b):=⟨HBX2.out.cell 1 _ rfl,HBX2.out.cell 2 _ rfl⟩;refine wpAnyH_take (i:=0) (v:=.pointer (some (at0 gc))) rfl (by kernel_rfl) (by kernel_rfl) (by kernel_rfl) (fun _ _ _ h=>h) (.inl ⟨by kernel_rfl,fun W hW=>?_⟩) hS0 ?_
 ·go_simp
 refine wpAnyH_take (i:=1) (v:=.pointer (some (at0 g))) rfl (by kernel_rfl) (by kernel_rfl) (by kernel_rfl) (fun _ _ _ h=>h) (.inl ⟨by kernel_rfl,fun W hW=>?_⟩) hS0 ?_
 ·go_simp
 refine wpAnyH_take (i:=2) (v:=.pointer (some (at0 g))) rfl (by kernel_rfl) (by kernel_rfl) (by kernel_rfl) (fun _ _ _ h=>h) (.inl ⟨by kernel_rfl,fun W hW=>?_⟩) hS0 ?_
 ·go_simp
 refine wpAnyH_take (i:=3) (v:=.pointer (some ⟨g,8,none⟩)) rfl (by kernel_rfl) (by kernel_rfl) (by kernel_rfl) (fun _ _ _ h=>h) (.inl ⟨by kernel_rfl,fun W hW=>?_⟩) hS0 ?_
 ·go_simp
 refine wpAnyH_take (i:=4) (v:=.pointer (some ⟨w.heap.size,2,none⟩)) rfl (by kernel_rfl) (by kernel_rfl) (by kernel_rfl) (fun _ _ _ h=>h) (.inl ⟨by kernel_rfl,fun W hW=>?_⟩) hS0 ?_
 ·go_simp
 refine wpAnyH_take (i:=5) (v:=.int .i64 m.b) rfl (by kernel_rfl) (by kernel_rfl) (by kernel_rfl) (fun _ _ _ h=>h) (.inl ⟨by kernel_rfl,fun W hW=>?_⟩) hS0 ?_
 ·obtain ⟨e0,e1⟩:=hW; go_simp
 refine wpAnyH_take (i:=6) (v:=.pointer (some ⟨w.heap.size,1,none⟩)) rfl (by kernel_rfl) (by kernel_rfl) (by kernel_rfl) (fun _ _ _ h=>h) (.inl ⟨by kernel_rfl,fun W hW=>?_⟩) hS0 ?_
 ·go_simp
 refine wpAnyH_take (i:=7) (v:=.int .i64 m.a) rfl (by kernel_rfl) (by kernel_rfl) (by kernel_rfl) (fun _ _ _ h=>h) (.inl ⟨by kernel_rfl,fun W hW=>?_⟩) hS0 ?_
 ·obtain ⟨e0,e1⟩:=hW; go_simp
 refine wpAnyH_take (i:=8) (v:=.int .i64 (bits .and .i64 m.a 2)) rfl (by kernel_rfl) (by kernel_rfl) (by kernel_rfl) (fun _ _ _ h=>h) (.inl ⟨by kernel_rfl,fun W hW=>?_⟩) hS0 ?_
 ·go_simp
 refine wpAnyH_take (i:=9) (v:=.bool ln) rfl (by kernel_rfl) (by kernel_rfl) (by kernel_rfl) (fun _ _ _ h=>h) (.inl ⟨by kernel_rfl,fun W hW=>?_⟩) hS0 ?_
 ·go_simp
 refine wpAnyH_all (rs:=[10]) (by kernel_rfl) (by simp) ?_;intro z hz;rw [List.mem_singleton.1 hz];clear hz;unfold wpOp
 go_simp
 refine .inl (HV.out.mono ?_);rintro e w3 ⟨rfl,hv3,ho3⟩;have ho3:Only Nay w2 w3:=((Only.refl Nay w2).drew).trans ho3;have hx3:=HX2c.out.keep ho3 (fun h=>h);have c7:=hx3.cell 7 (.pointer ((y1.cy k).gv.map at0)) rfl;have f7:=hx3.free 7;have hS1:w3.cell? ⟨w.heap.size,1,none⟩=some (.int .i64 m.a)∧w3.cell? ⟨w.heap.size,2,none⟩=some (.int .i64 m.b):=⟨(HBX2.out.keep ho3 (fun h=>h)).cell 1 _ rfl,(HBX2.out.keep ho3 (fun h=>h)).cell 2 _ rfl⟩;have hbx3:=HBX2.out.keep ho3 (fun h=>h);have hO4:Only (fun x=>x=gc) w1 (w3.setCell ⟨gc,7,none⟩ (.pointer (some ⟨w2.heap.size,0,none⟩))):=(HO12.out.trans (ho3.mono fun _ _ h=>h.elim)).trans (Bx.only gc w3 7 _);have hX4:Bx gc (w3.setCell ⟨gc,7,none⟩ (.pointer (some ⟨w2.heap.size,0,none⟩))) (crow k (opened c m.t (comeAt b1 m)) { y1.cy k with gv:=some w2.heap.size }):=hx3.set 7 _
 have hne2:¬ w2.heap.size=gc:=fun e=>by have:=HX2c.out.room; omega
 have hv4:Bx w2.heap.size (w3.setCell ⟨gc,7,none⟩ (.pointer (some ⟨w2.heap.size,0,none⟩))) (VV (comeAt b1 m) 0):=hv3.keep (Bx.only gc w3 7 _) hne2;have hbx4:=HBX2.out.keep ((ho3.mono (T:=fun x=>x=gc) fun _ _ h=>h.elim).trans (Bx.only gc w3 7 (.pointer (some ⟨w2.heap.size,0,none⟩)))) HNE.out;have hS2:(w3.setCell ⟨gc,7,none⟩ (.pointer (some ⟨w2.heap.size,0,none⟩))).cell? ⟨w.heap.size,1,none⟩=some (.int .i64 m.a)∧(w3.setCell ⟨gc,7,none⟩ (.pointer (some ⟨w2.heap.size,0,none⟩))).cell? ⟨w.heap.size,2,none⟩=some (.int .i64 m.b):=⟨hbx4.cell 1 _ rfl,hbx4.cell 2 _ rfl⟩
 have hgc1:rrole y1.rs k=(gc:Int)+1:=by rw [hy1]; exact HC.out.2.2.1
 have hb4:=HB1.out.cnOpen h1 h2 hgc1 HCN.out (p:=comeAt b1 m) (t:=m.t) (gv:=w2.heap.size) HO12.out.size hO4 hX4 hv4;have HB4:=lj hb4;have HBX4:=lj hbx4
 have HO4:=lj (And.intro (show ∀ x,Own1 (upF F1 (10 * k+4) fun x=>x=w2.heap.size) x→Own1 F x∨w.heap.size≤x from fun x hx=>by
  rcases upF_own (fun x (e:x=w2.heap.size)=>.inr (by rw [e]; exact HO12.out.size)) x hx with h | h
  ·exact HO1.out.1 x h
  ·exact .inr (Nat.le_trans HO1.out.2.size h)) (show Only (Own1 F) w _ from HO1.out.2.trans' hO4 fun x hx=>by
   rw [show x=gc from hx]
   exact HO1.out.1 gc ⟨10 * k,HCN.out.own⟩))
 have HNB:=lj (show ¬ Own1 (upF F1 (10 * k+4) fun x=>x=w2.heap.size) w.heap.size from fun ⟨s,hs⟩=>by
  unfold upF at hs
  by_cases e:s=10 * k+4
  ·rw [if_pos e] at hs
   have h9:w.heap.size=w2.heap.size:=hs;have h8:=cell_lt (HBX2.out.cell 1 _ rfl);have h7:w.heap.size<w2.heap.size:=h8;omega
  ·rw [if_neg e] at hs; exact HBL.out ⟨s,hs⟩)
 clear hS0 ho3 hx3 hv3 hbx3 hO4 hX4 hv4 hbx4 hb4
 go_simp
 refine wpAnyH_take (i:=11) (v:=.pointer (some (at0 gc))) rfl (by kernel_rfl) (by kernel_rfl) (by kernel_rfl) (fun _ _ _ h=>h) (.inl ⟨by kernel_rfl,fun W hW=>?_⟩) hS1 ?_
 ·go_simp
 refine wpAnyH_take (i:=12) (v:=.pointer (some ⟨gc,7,none⟩)) rfl (by kernel_rfl) (by kernel_rfl) (by kernel_rfl) (fun _ _ _ h=>h) (.inl ⟨by kernel_rfl,fun W hW=>?_⟩) hS1 ?_
 ·go_simp
 refine wpAnyH_all (rs:=[13]) (by kernel_rfl) (by simp) ?_;intro z hz;rw [List.mem_singleton.1 hz];clear hz;unfold wpOp
 go_simp
 refine .inl ?_;refine wpAnyH_done (by kernel_rfl) ?_ _;clear hS1 hS2 c7 f7 HV HX2c HBX2 HO12 hbit HCN HBX HO1 HBL HNE hgw hne2;have hcnk:=HC.out.2.1.cn k c HC.out.1;have hk4:=HC.out.2.1.setc k (c:=opened c m.t (comeAt b1 m)) ⟨viewAt_le _ _ _ _,Nat.zero_le _,HM.out.2.2.2.1,by show (1:Nat)≤2; decide⟩;have hk5:=bok_all.join b1 k c m.t (comeAt b1 m) (comeRole b1 m) HC.out.2.1 HC.out.1 h1 h2 HC.out.2.2.2.1 HM.out.2.2.2.1 HM.out.2.2.2.2 (viewAt_le _ _ _ _) (firstRole_in _ _).1 (firstRole_in _ _).2;have hgv:upF F1 (10 * k+4) (fun x=>x=w2.heap.size)=upF F1 (10 * k+4) (fun x=>x=w2.heap.size):=rfl;clear hgv hcnk;generalize (w3.setCell ⟨gc,7,none⟩ (.pointer (some ⟨w2.heap.size,0,none⟩)))=w4 at *
 obtain ⟨F4,hF4⟩:∃ F4,upF F1 (10 * k+4) (fun x=>x=w2.heap.size)=F4:=⟨_,rfl⟩
 obtain ⟨y4,hy4⟩:∃ y4,ycy y1 k { y1.cy k with gv:=some w2.heap.size }=y4:=⟨_,rfl⟩
 have hrs4:y4.rs=y.rs:=by rw [← hy4]; exact hy1
 rw [hF4,hy4] at HB4;rw [hF4] at HO4 HNB;clear hF4 hy4 hgc1
 obtain ⟨at0',hat⟩:∃ p,comeAt b1 m=p:=⟨_,rfl⟩
 have hro:comeRole b1 m=Bk.firstRole (setc b1 k (some (opened c m.t at0'))).fl (decide (m.a % 2=1)):=rfl
 have hpl:at0'≤b1.L.length:=by rw [← hat]; exact viewAt_le _ _ _ _
 have HP:=lj hpl;rw [hat] at HB4 hk4 hk5
 have hJ:joinR b1 k c m=joinX (send (welcome k at0' (comeRole b1 m)) (setFl (setc b1 k (some (opened c m.t at0'))) (fjoin b1.fl k (comeRole b1 m))) k) k:=by unfold joinR; rw [hat]
 have HJ:=lj hJ;clear hJ hat hpl
 obtain ⟨b2,hb2⟩:∃ b2,setc b1 k (some (opened c m.t at0'))=b2:=⟨_,rfl⟩
 rw [hb2] at HB4 hk4 hk5 hro HJ
 have hfl2:b2.fl=b1.fl:=by rw [← hb2]; rfl
 have hL2:b2.L=b1.L:=by rw [← hb2]; rfl
 have hcs2:b2.cs k=some (opened c m.t at0'):=by rw [← hb2,setc_cs]
 have HCS2:=lj hcs2;have HK4:=lj (And.intro hk4 hk5)
 obtain ⟨r,hr⟩:∃ r,comeRole b1 m=r:=⟨_,rfl⟩
 rw [hr] at HK4 hro HJ
 have hr02:0≤r∧r≤2:=by rw [← hr]; exact firstRole_in _ _
 have hwr:wf64 r:=by
  unfold wf64;simp [Lit.wf,IntKind.min,IntKind.max,IntKind.signed,IntKind.bits];omega
 have hbit:=bit1 m.a HM.out.1.1 HM.out.1.2;have c1m:=HBX4.out.cell 1 _ rfl;have HRO:=lj (And.intro hro (And.intro hwr (And.intro hfl2 hL2)))
 obtain ⟨l2,hl2⟩:∃ l2,decide (m.a % 2=1)=l2:=⟨_,rfl⟩
 rw [hl2] at hbit HRO;have HB4':=lj (show BrIs F4 g y.rs w4 b2 from ⟨y4,hrs4,HB4.out⟩);clear hcs2 hb2 hk4 hk5 hro hr hr02 hwr hl2 hfl2 hL2 HB4 hrs4 y4
 go_wp2_with fail
 refine (bfirst_any HB4'.out HK4.out.1 l2).mono ?_;rintro e w5 ⟨F5,rfl,hb5,hs5,ho5⟩;rw [← HRO.out.1]
 have HO5:=lj (And.intro (show ∀ x,Own1 F5 x→Own1 F x∨w.heap.size≤x from fun x hx=>by
  rcases hs5 x hx with h | h
  ·exact HO4.out.1 x h
  ·exact .inr (Nat.le_trans HO4.out.2.size h)) (show Only (Own1 F) w w5 from HO4.out.2.trans' ho5 HO4.out.1))
 have HB5:=lj hb5;clear hb5 hs5 ho5 hbit c1m HBX4 HNB HO4 HB4' HX2 HX;obtain ⟨y5,hy5,hb5⟩:=id HB5.out
 have hgc5:rrole y5.rs k=(gc:Int)+1:=by rw [hy5]; exact HC.out.2.2.1
 obtain ⟨c5,hc5,hcn5⟩:=BrIs.cn hb5 h1 h2 hgc5;have hJn:=tjoin_any (hb5.quiet ((Only.refl Nay w5).drew)).toTab HK4.out.1.fok (by decide) (k:Nat) r (wf_id (k:=k) (by omega)) HRO.out.2.1;have HT5:=lj hJn;have HB5:=lj (And.intro hy5 (hb5.quiet ((Only.refl Nay w5).drew)));have hk0:w5.drew.cell? ⟨gc,0,none⟩=some (.int .i64 (k:Nat)):=hcn5.bx.cell 0 _ rfl;clear hJn hb5 hcn5 hc5 hgc5 hy5;go_wp2;refine wp_region_held (S:=fun W=>W.cell? ⟨gc,0,none⟩=some (.int .i64 (k:Nat))) hmix ?_
 change wpAnyH _ _ _ _ _ _ _ _ (World.drew _)
 refine wpAnyH_take (i:=0) (v:=.pointer (some (at0 g))) rfl (by kernel_rfl) (by kernel_rfl) (by kernel_rfl) (fun _ _ _ h=>h) (.inl ⟨by kernel_rfl,fun W hW=>?_⟩) hk0 ?_
 ·go_simp
 refine wpAnyH_take (i:=1) (v:=.pointer (some (at0 g))) rfl (by kernel_rfl) (by kernel_rfl) (by kernel_rfl) (fun _ _ _ h=>h) (.inl ⟨by kernel_rfl,fun W hW=>?_⟩) hk0 ?_
 ·go_simp
 refine wpAnyH_take (i:=2) (v:=.pointer (some ⟨g,13,none⟩)) rfl (by kernel_rfl) (by kernel_rfl) (by kernel_rfl) (fun _ _ _ h=>h) (.inl ⟨by kernel_rfl,fun W hW=>?_⟩) hk0 ?_
 ·go_simp
 refine wpAnyH_take (i:=3) (v:=.pointer (some (at0 gc))) rfl (by kernel_rfl) (by kernel_rfl) (by kernel_rfl) (fun _ _ _ h=>h) (.inl ⟨by kernel_rfl,fun W hW=>?_⟩) hk0 ?_
 ·go_simp
 refine wpAnyH_take (i:=4) (v:=.pointer (some (at0 gc))) rfl (by kernel_rfl) (by kernel_rfl) (by kernel_rfl) (fun _ _ _ h=>h) (.inl ⟨by kernel_rfl,fun W hW=>?_⟩) hk0 ?_
 ·go_simp
 refine wpAnyH_take (i:=5) (v:=.pointer (some ⟨gc,0,none⟩)) rfl (by kernel_rfl) (by kernel_rfl) (by kernel_rfl) (fun _ _ _ h=>h) (.inl ⟨by kernel_rfl,fun W hW=>?_⟩) hk0 ?_
 ·go_simp
 refine wpAnyH_take (i:=6) (v:=.int .i64 (k:Nat)) rfl (by kernel_rfl) (by kernel_rfl) (by kernel_rfl) (fun _ _ _ h=>h) (.inl ⟨by kernel_rfl,fun W hW=>?_⟩) hk0 ?_
 ·have e0:=hW; go_simp
 refine wpAnyH_take (i:=7) (v:=.int .i64 r) rfl (by kernel_rfl) (by kernel_rfl) (by kernel_rfl) (fun _ _ _ h=>h) (.inl ⟨by kernel_rfl,fun W hW=>?_⟩) hk0 ?_
 ·go_simp
 refine wpAnyH_all (rs:=[8]) (by kernel_rfl) (by simp) ?_;intro z hz;rw [List.mem_singleton.1 hz];clear hz;unfold wpOp
 go_simp
 refine .inl (HT5.out.mono ?_);rintro e w6 ⟨G6,rfl,ht6,hs6,ho6⟩;obtain ⟨F6,hb6,hs6'⟩:=HB5.out.2.ofTab ht6 hs6 ho6;rw [HB5.out.1] at hb6;have ho6':Only (Own1 F5) w5 w6:=((Only.refl _ w5).drew).trans (ho6.mono fun x _ hx=>hx.elim (fun h=>⟨_,h⟩) (fun h=>⟨_,h⟩))
 have hb6':BrIs F6 g y.rs w6 (setFl b2 (fjoin b1.fl k r)):=by rw [← HRO.out.2.2.1]; exact hb6
 have HB6:=lj hb6'
 have HO6:=lj (And.intro (show ∀ x,Own1 F6 x→Own1 F x∨w.heap.size≤x from fun x hx=>by
  rcases hs6' x hx with h | h
  ·exact HO5.out.1 x h
  ·exact .inr (Nat.le_trans HO5.out.2.size h)) (show Only (Own1 F) w w6 from HO5.out.2.trans' ho6' HO5.out.1))
 obtain ⟨y6,hy6,hb66⟩:=id hb6'
 have hgc6:rrole y6.rs k=(gc:Int)+1:=by rw [hy6]; exact HC.out.2.2.1
 obtain ⟨c6,hc6,hcn6⟩:=BrIs.cn hb66 h1 h2 hgc6;have hk1:w6.cell? ⟨gc,0,none⟩=some (.int .i64 (k:Nat)):=hcn6.bx.cell 0 _ rfl;clear ht6 hs6 ho6 hs6' ho6' hb6 hb6' HT5 HB5 HO5 hk0
 go_simp
 refine wpAnyH_done (by kernel_rfl) ?_ _;have hc66:(setFl b2 (fjoin b1.fl k r)).cs k=some (opened c m.t at0'):=HCS2.out;rw [hc66] at hc6
 injection hc6 with hc6
 subst hc6
 obtain ⟨gv,hgv⟩:∃ gv,(y6.cy k).gv=some gv:=by
  rcases e:(y6.cy k).gv with _ | gv
  ·exact absurd e (hcn6.vo rfl)
  ·exact ⟨gv,rfl⟩
 have hvw:=(hcn6.vw gv hgv).1
 have hk7:w6.cell? ⟨gc,7,none⟩=some (.pointer (some (at0 gv))):=by
  have:=hcn6.bx.cell 7 (.pointer ((y6.cy k).gv.map at0)) rfl;rw [hgv] at this;exact this
 have HVA:=lj (vat_any (hvw.drew1));have HRW:=lj (brole_any r w6.drew)
 have HW:=lj (show Hid (Calls Tryz.prog 77 #[.pointer (some (at0 g)),.pointer (some (at0 gc)),MV (welcome k at0' r)] w6.drew fun e w'=>BGives F6 g y.rs w6.drew (send (welcome k at0' r) (setFl b2 (fjoin b1.fl k r)) k) (.tuple #[]) e w') from
  lj (bsend_any (welcome k at0' r) (HB6.out.drew) HK4.out.2.fok h1 h2 HC.out.2.2.1 (welcome_ok r h2 (Nat.le_trans HP.out HC.out.2.2.2.2))))
 clear hcn6 hb66 hgc6 hvw hgv hc66 hy6 y6;go_wp2;refine wp_region_held (S:=fun W=>W.cell? ⟨gc,0,none⟩=some (.int .i64 (k:Nat))) hmix ?_
 change wpAnyH _ _ _ _ _ _ _ _ (World.drew _)
 have hS0:w6.drew.cell? ⟨gc,0,none⟩=some (.int .i64 (k:Nat)):=hk1;have hk7:w6.drew.cell? ⟨gc,7,none⟩=some (.pointer (some (at0 gv))):=hk7;clear hk1;refine wpAnyH_take (i:=0) (v:=.pointer (some (at0 g))) rfl (by kernel_rfl) (by kernel_rfl) (by kernel_rfl) (fun _ _ _ h=>h) (.inl ⟨by kernel_rfl,fun W hW=>?_⟩) hS0 ?_
 ·go_simp
 refine wpAnyH_take (i:=1) (v:=.pointer (some (at0 gc))) rfl (by kernel_rfl) (by kernel_rfl) (by kernel_rfl) (fun _ _ _ h=>h) (.inl ⟨by kernel_rfl,fun W hW=>?_⟩) hS0 ?_
 ·go_simp
 refine wpAnyH_take (i:=2) (v:=.pointer (some (at0 gc))) rfl (by kernel_rfl) (by kernel_rfl) (by kernel_rfl) (fun _ _ _ h=>h) (.inl ⟨by kernel_rfl,fun W hW=>?_⟩) hS0 ?_
 ·go_simp
 refine wpAnyH_take (i:=3) (v:=.pointer (some (at0 gc))) rfl (by kernel_rfl) (by kernel_rfl) (by kernel_rfl) (fun _ _ _ h=>h) (.inl ⟨by kernel_rfl,fun W hW=>?_⟩) hS0 ?_
 ·go_simp
 refine wpAnyH_take (i:=4) (v:=.pointer (some ⟨gc,0,none⟩)) rfl (by kernel_rfl) (by kernel_rfl) (by kernel_rfl) (fun _ _ _ h=>h) (.inl ⟨by kernel_rfl,fun W hW=>?_⟩) hS0 ?_
 ·go_simp
 refine wpAnyH_take (i:=5) (v:=.int .i64 (k:Nat)) rfl (by kernel_rfl) (by kernel_rfl) (by kernel_rfl) (fun _ _ _ h=>h) (.inl ⟨by kernel_rfl,fun W hW=>?_⟩) hS0 ?_
 ·have e0:=hW; go_simp
 refine wpAnyH_take (i:=6) (v:=.pointer (some (at0 gc))) rfl (by kernel_rfl) (by kernel_rfl) (by kernel_rfl) (fun _ _ _ h=>h) (.inl ⟨by kernel_rfl,fun W hW=>?_⟩) hS0 ?_
 ·go_simp
 refine wpAnyH_take (i:=7) (v:=.pointer (some (at0 gc))) rfl (by kernel_rfl) (by kernel_rfl) (by kernel_rfl) (fun _ _ _ h=>h) (.inl ⟨by kernel_rfl,fun W hW=>?_⟩) hS0 ?_
 ·go_simp
 refine wpAnyH_take (i:=8) (v:=.pointer (some ⟨gc,7,none⟩)) rfl (by kernel_rfl) (by kernel_rfl) (by kernel_rfl) (fun _ _ _ h=>h) (.inl ⟨by kernel_rfl,fun W hW=>?_⟩) hS0 ?_
 ·go_simp
 refine wpAnyH_take (i:=11) (v:=.int .i64 r) rfl (by kernel_rfl) (by kernel_rfl) (by kernel_rfl) (fun _ _ _ h=>h) (.inl ⟨by kernel_rfl,fun W hW=>?_⟩) hS0 ?_
 ·go_simp
 refine wpAnyH_all (rs:=[9]) (by kernel_rfl) (by simp) ?_;intro z hz;rw [List.mem_singleton.1 hz];clear hz;unfold wpOp
 go_simp
 refine .inl ?_;refine wpAnyH_all (rs:=[10]) (by kernel_rfl) (by simp) ?_;intro z hz;rw [List.mem_singleton.1 hz];clear hz;unfold wpOp
 go_simp
 refine .inl ((HVA.out).mono ?_);rintro e wz ⟨rfl,rfl⟩
 go_simp
 refine wpAnyH_all (rs:=[12]) (by kernel_rfl) (by simp) ?_;intro z hz;rw [List.mem_singleton.1 hz];clear hz;unfold wpOp
 go_simp
 refine .inl ((HRW.out).mono ?_);rintro e wz ⟨rfl,rfl⟩
 go_simp
 refine wpAnyH_take (i:=13) (v:=MV (welcome k at0' r)) rfl (by kernel_rfl) (by kernel_rfl) (by kernel_rfl) (fun _ _ _ h=>h) (.inl ⟨by kernel_rfl,fun W hW=>?_⟩) hS0 ?_
 ·go_simp; exact ⟨rfl,rfl,rfl,rfl⟩
 refine wpAnyH_all (rs:=[14]) (by kernel_rfl) (by simp) ?_;intro z hz;rw [List.mem_singleton.1 hz];clear hz;unfold wpOp
 go_simp
 refine .inl (HW.out.out.mono ?_);rintro e w7 ⟨F7,rfl,hb7,hs7,ho7⟩;have hS1:=hS0;clear hS1;have HB7:=lj hb7
 have HO7:=lj (And.intro (show ∀ x,Own1 F7 x→Own1 F x∨w.heap.size≤x from fun x hx=>by
  rcases hs7 x hx with h | h
  ·exact HO6.out.1 x h
  ·exact .inr (Nat.le_trans HO6.out.2.size h)) (show Only (Own1 F) w w7 from HO6.out.2.trans' (((Only.refl _ w6).drew).trans ho7) HO6.out.1))
 obtain ⟨y7,hy7,hb77⟩:=id hb7
 have hgc7:rrole y7.rs k=(gc:Int)+1:=by rw [hy7]; exact HC.out.2.2.1
 obtain ⟨c7,hc7,hcn7⟩:=BrIs.cn hb77 h1 h2 hgc7;have hS1:w7.cell? ⟨gc,0,none⟩=some (.int .i64 (k:Nat)):=hcn7.bx.cell 0 _ rfl;have HK7:=lj (HK4.out.2.send (welcome k at0' r) k);clear hb7 hs7 ho7
 go_simp
 refine wpAnyH_done (by kernel_rfl) ?_ _
 obtain ⟨b7,hb7e⟩:∃ b7,send (welcome k at0' r) (setFl b2 (fjoin b1.fl k r)) k=b7:=⟨_,rfl⟩
 rw [hb7e] at HB7 HK7 HJ hb77;have t7:=hb77.row.cell 23 (.int .i64 b7.told) rfl;have HS7:=lj (bsend_any (mfloor b7.told) HB7.out HK7.out.fok h1 h2 HC.out.2.2.1 (floor_ok HK7.out.told.1 HK7.out.told.2));clear hS0 hS1 hcn7 hc7 hgc7 hb77 hy7 y7 hb7e HVA HRW HW HB6 HO6
 go_wp2_with fail
 refine HS7.out.mono ?_;rintro e w8 ⟨F8,rfl,hb8,hs8,ho8⟩;have HK8:=lj (HK7.out.send (mfloor b7.told) k)
 have HO8:=lj (And.intro (show ∀ x,Own1 F8 x→Own1 F x∨w.heap.size≤x from fun x hx=>by
  rcases hs8 x hx with h | h
  ·exact HO7.out.1 x h
  ·exact .inr (Nat.le_trans HO7.out.2.size h)) (show Only (Own1 F) w w8 from HO7.out.2.trans' ho8 HO7.out.1))
 have HB8:=lj hb8;obtain ⟨y8,hy8,hb88⟩:=id hb8;have hjx:joinX b7 k=joinY (send (mfloor b7.told) b7 k) k:=rfl
 obtain ⟨b8,hb8e⟩:∃ b8,send (mfloor b7.told) b7 k=b8:=⟨_,rfl⟩
 rw [hb8e] at HB8 HK8 hb88 hjx;have t8:=hb88.row.cell 25 (.bool b8.ended) rfl;have HX8:=lj (bexit_any hb88)
 have hfin:joinR b1 k c m=if b8.ended then send (mexit b8.code) b8 k else b8:=by rw [HJ.out,hjx]; rfl
 have HFI:=lj hfin;clear hb8 hs8 ho8 hb88 hb8e hjx HJ HS7 HB7 HO7 t7 hfin
 rcases hen:b8.ended with _ | _
 ·rw [hen] at t8
  go_wp2;refine bodyPost_ret (v:=.tuple #[]) (by simp [results,Tryz.results105,go_sem]) rfl ?_;have hf:=HFI.out;rw [hen,if_neg (by decide)] at hf;rw [hf];exact ⟨F8,rfl,HB8.out,HO8.out.1,HO8.out.2⟩
 ·rw [hen] at t8
  go_wp2_with fail
  refine HX8.out.mono ?_;rintro e w9 ⟨rfl,ho9⟩;have HS9:=lj (bsend_any (mexit b8.code) (HB8.out.quiet ho9) HK8.out.fok h1 h2 HC.out.2.2.1 (exit_ok HK8.out.code));have HO9:=lj (HO8.out.2.trans (ho9.mono fun _ _ h=>h.elim));clear ho9 t8
  go_wp2_with fail
  refine HS9.out.mono ?_;rintro e w10 hg;have HG:=lj (BrIs.step HO9.out HO8.out.1 hg (v2:=.tuple #[]) rfl);obtain ⟨F10,rfl,_⟩:=hg;go_wp2;refine bodyPost_ret (v:=.tuple #[]) (by simp [results,Tryz.results105,go_sem]) rfl ?_;have hf:=HFI.out;rw [hen,if_pos rfl] at hf;rw [hf];exact HG.out
end
section
open Go.RowKit Go.Shelf Go.Maps
open Fr Bk
set_option maxHeartbeats 1000000 in
theorem bhello_any {F:Fp} {g:Nat} {rs:List (Int×Int)} {w:World} {b:Br} {k gc:Nat} {c:Cn} (h:BrIs F g rs w b) (hk:BOk b) (h1:1≤k) (h2:k≤16) (hgc:rrole rs k=(gc:Int)+1) (hc:b.cs k=some c) (hst:c.st=0) (m:M) (hm:m.ok=true) :
  Calls Tryz.prog 89 #[.pointer (some (at0 g)),.pointer (some (at0 gc)),MV m] w fun e w'=>BGives F g rs w (Bk.hello b k m) (.tuple #[]) e w':=by
 have hma:=Ms.rt_a hm
 have hml:m.t.length≤3000:=by
  have:=Ms.rt_n hm;have:=Ms.tx_le m.k;omega
 have hO:Only Nay w (w.alloc (.cells #[.int .i64 m.k,.int .i64 m.a,.int .i64 m.b,.string (str m.t)] 38)):=(Only.refl Nay w).alloc _;have hX:=Bx.new w _ rfl #[.int .i64 m.k,.int .i64 m.a,.int .i64 m.b,.string (str m.t)] 38
 have hShut:=fun (why:Nat) (W:World) (hW:Only Nay w W) (hy:why≤100)=>bshut_any why (h.quiet hW) hk.fok h1 h2 hgc hy
 have hJoin:=fun (W:World) (hW:Only Nay w W) (hm1:m.k=1) (hn:isName m.t=true)=>bjoin_any (h.quiet hW) hk h1 h2 hgc hc hst m hm hm1 hn
 have hBack:∀ (W W':World) (b2:Br) (e:Ending),Only Nay w W→BGives F g rs W b2 (.tuple #[]) e W'→BGives F g rs w b2 (.tuple #[]) e W':=fun _ _ _ _ hW hg=>BrIs.step (hW.mono fun _ _ h=>h.elim) (fun _ h=>.inl h) hg rfl
 have HR:=lj hBack;have HS:=lj hShut;have HJ:=lj hJoin;have HO:=lj hO;have c0:=hX.cell 0 _ rfl;have c1:=hX.cell 1 _ rfl;have c2:=hX.cell 2 _ rfl;have c3:=hX.cell 3 _ rfl;clear hBack hShut hJoin h hk hgc hc hst hm hO hX;unfold Bk.hello
 by_cases hk1:m.k≠1
 ·have d1:(m.k != 1)=true:=by simpa using hk1
  rw [if_pos hk1];clear hk1
  go_enter Tryz.func89,Tryz.ntmps89
  go_upto_region 2 with fail
  generalize w.alloc (.cells #[.int .i64 m.k,.int .i64 m.a,.int .i64 m.b,.string (str m.t)] 38)=w0 at *
  go_wp2_with fail
  refine (HS.out 4 _ HO.out (by decide)).mono ?_;rintro e w1 hg;have HG:=lj (HR.out _ _ _ _ HO.out hg);obtain ⟨F7,rfl,_⟩:=hg;go_wp2;exact bodyPost_ret (v:=.tuple #[]) (by simp [results,Tryz.results89,go_sem]) rfl HG.out
 ·have d1:(m.k != 1)=false:=by simpa using hk1
  have hkk:=lj (show m.k=1 by omega);rw [if_neg hk1];clear hk1
  have hq:wrap64 (m.a.tdiv 4)=m.a / 4:=by
   have h0:0≤m.a:=hma.1;have h9:m.a≤1099511627776:=hma.2;rw [Int.tdiv_eq_ediv_of_nonneg h0,IntWalk.wrap64_in _ (by omega)]
  by_cases ha:m.a / 4≠1
  ·have d2:(m.a / 4 != 1)=true:=by simpa using ha
   rw [if_pos ha];clear ha
   go_enter Tryz.func89,Tryz.ntmps89
   go_upto_region 2 with fail
   generalize w.alloc (.cells #[.int .i64 m.k,.int .i64 m.a,.int .i64 m.b,.string (str m.t)] 38)=w0 at *
   go_wp2_with fail
   refine (HS.out 2 _ HO.out (by decide)).mono ?_;rintro e w1 hg;have HG:=lj (HR.out _ _ _ _ HO.out hg);obtain ⟨F7,rfl,_⟩:=hg;go_wp2;exact bodyPost_ret (v:=.tuple #[]) (by simp [results,Tryz.results89,go_sem]) rfl HG.out
  ·have d2:(m.a / 4 != 1)=false:=by simpa using ha
   rw [if_neg ha];clear ha
   rcases hn:isName m.t with _ | _
   ·rw [if_pos rfl]
    go_enter Tryz.func89,Tryz.ntmps89
    go_upto_region 2 with fail
    generalize w.alloc (.cells #[.int .i64 m.k,.int .i64 m.a,.int .i64 m.b,.string (str m.t)] 38)=w0 at *
    go_wp2_with fail
    refine (bname_any m.t _ (by omega)).mono ?_;rintro e wn ⟨rfl,hon⟩;rw [hn];have HO2:=lj (HO.out.trans hon);clear hon
    go_wp2_with fail
    refine (HS.out 3 _ HO2.out (by decide)).mono ?_;rintro e w1 hg;have HG:=lj (HR.out _ _ _ _ HO2.out hg);obtain ⟨F7,rfl,_⟩:=hg;go_wp2;exact bodyPost_ret (v:=.tuple #[]) (by simp [results,Tryz.results89,go_sem]) rfl HG.out
   ·rw [if_neg (by decide)]
    go_enter Tryz.func89,Tryz.ntmps89
    go_upto_region 2 with fail
    generalize w.alloc (.cells #[.int .i64 m.k,.int .i64 m.a,.int .i64 m.b,.string (str m.t)] 38)=w0 at *
    go_wp2_with fail
    refine (bname_any m.t _ (by omega)).mono ?_;rintro e wn ⟨rfl,hon⟩;rw [hn];have HO2:=lj (HO.out.trans hon);have e0:=hon.keepCell (p:=⟨w.heap.size,0,none⟩) (fun h=>h) c0;have e1:=hon.keepCell (p:=⟨w.heap.size,1,none⟩) (fun h=>h) c1;have e2:=hon.keepCell (p:=⟨w.heap.size,2,none⟩) (fun h=>h) c2;have e3:=hon.keepCell (p:=⟨w.heap.size,3,none⟩) (fun h=>h) c3;clear hon c0 c1 c2 c3
    go_wp2_with fail
    refine (HJ.out _ HO2.out hkk.out hn).mono ?_;rintro e w1 hg;have HG:=lj (HR.out _ _ _ _ HO2.out hg);obtain ⟨F7,rfl,_⟩:=hg;go_wp2;exact bodyPost_ret (v:=.tuple #[]) (by simp [results,Tryz.results89,go_sem]) rfl HG.out
def mval:Option M→Value
 | some m=>MV m
 | none=>.agg #[.int .i64 0,.int .i64 0,.int .i64 0,.string ByteArray.empty]
theorem pong_ok:(⟨14,0,0,[]⟩:M).ok=true:=by decide
set_option maxHeartbeats 2000000 in
theorem btake_no {F:Fp} {g:Nat} {rs:List (Int×Int)} {w:World} {b:Br} {k gc:Nat} (h:BrIs F g rs w b) (hk:BOk b) (h1:1≤k) (h2:k≤16) (hgc:rrole rs k=(gc:Int)+1) :
  Calls Tryz.prog 69 #[.pointer (some (at0 g)),.pointer (some (at0 gc)),mval none,.bool false] w fun e w'=>BGives F g rs w (takeB b k none) (.tuple #[]) e w':=by
 have hO:Only Nay w (w.alloc (.cells #[.int .i64 0,.int .i64 0,.int .i64 0,.string ByteArray.empty] 38)):=(Only.refl Nay w).alloc _;have HS:=lj (bshut_any 4 (h.quiet hO) hk.fok h1 h2 hgc (by decide));have HR:=lj (fun (b2:Br) (e:Ending) (W:World) (hg:BGives F g rs (w.alloc (.cells #[.int .i64 0,.int .i64 0,.int .i64 0,.string ByteArray.empty] 38)) b2 (.tuple #[]) e W)=>(BrIs.step (hO.mono fun _ _ h=>h.elim) (fun _ h=>.inl h) hg rfl:BGives F g rs w b2 (.tuple #[]) e W));clear h hk hgc hO;unfold mval takeB
 go_enter Tryz.func69,Tryz.ntmps69
 go_upto_region 2 with fail
 generalize w.alloc (.cells #[.int .i64 0,.int .i64 0,.int .i64 0,.string ByteArray.empty] 38)=w0 at *
 go_wp2_with fail
 refine HS.out.mono ?_;rintro e w1 hg;have HG:=lj (HR.out _ _ _ hg);obtain ⟨F7,rfl,_⟩:=hg;go_wp2;exact bodyPost_ret (v:=.tuple #[]) (by simp [results,Tryz.results69,go_sem]) rfl HG.out
set_option maxHeartbeats 2000000 in
theorem btake_some {F:Fp} {g:Nat} {rs:List (Int×Int)} {w:World} {b:Br} {k gc:Nat} (h:BrIs F g rs w b) (hk:BOk b) (h1:1≤k) (h2:k≤16) (hgc:rrole rs k=(gc:Int)+1) (m:M) (hm:m.ok=true) (htot:b.tot≤1000000000) :
  Calls Tryz.prog 69 #[.pointer (some (at0 g)),.pointer (some (at0 gc)),MV m,.bool true] w fun e w'=>BGives F g rs w (takeB b k (some m)) (.tuple #[]) e w':=by
 have hO:Only Nay w (w.alloc (.cells #[.int .i64 m.k,.int .i64 m.a,.int .i64 m.b,.string (str m.t)] 38)):=(Only.refl Nay w).alloc _;have hX:=Bx.new w _ rfl #[.int .i64 m.k,.int .i64 m.a,.int .i64 m.b,.string (str m.t)] 38;have hB0:=h.quiet hO;obtain ⟨y,rfl,hy⟩:=id hB0;obtain ⟨c,hc,hcn⟩:=BrIs.cn hy h1 h2 hgc;have g1:=hcn.bx.cell 1 (.int .i64 (c.st:Nat)) rfl
 have hShut:=fun (why:Nat) (hy:why≤100)=>bshut_any why hB0 hk.fok h1 h2 hgc hy
 have hHello:=fun (hst:c.st=0)=>bhello_any hB0 hk h1 h2 hgc hc hst m hm
 have hKeys:=fun (h2k:m.k=2)=>bkeys_any hB0 hk h1 h2 hgc m hm h2k htot
 have hSend:=bsend_any ⟨14,0,0,[]⟩ hB0 hk.fok h1 h2 hgc pong_ok
 have hR:∀ (b2:Br) (e:Ending) (W:World),BGives F g y.rs (w.alloc (.cells #[.int .i64 m.k,.int .i64 m.a,.int .i64 m.b,.string (str m.t)] 38)) b2 (.tuple #[]) e W→BGives F g y.rs w b2 (.tuple #[]) e W:=fun _ _ _ hg=>BrIs.step (hO.mono fun _ _ h=>h.elim) (fun _ h=>.inl h) hg rfl
 have htk:takeB b k (some m)=if c.st=0 then Bk.hello b k m else if m.k=2 then keysB b k m else if m.k=3 then Bk.send ⟨14,0,0,[]⟩ b k else if m.k=4 then Bk.shut b k 0 else Bk.shut b k 4:=by
  unfold takeB;rw [hc]
  by_cases e:c.st=0
  ·simp [e]
  ·simp [e]
 have HR:=lj hR;have HS:=lj hShut;have HH:=lj hHello;have HK:=lj hKeys;have HP:=lj hSend;have c0:=hX.cell 0 _ rfl;have c1:=hX.cell 1 _ rfl;have c2:=hX.cell 2 _ rfl;have c3:=hX.cell 3 _ rfl;rw [htk];clear hR hShut hHello hKeys hSend h hk hgc hm hO hX hB0 hy hc hcn htot htk
 by_cases hst:c.st=0
 ·have d0:((c.st:Int) == 0)=true:=by simp [hst]
  rw [if_pos hst];have HST:=lj hst;clear hst
  go_enter Tryz.func69,Tryz.ntmps69
  go_upto_region 2 with fail
  generalize w.alloc (.cells #[.int .i64 m.k,.int .i64 m.a,.int .i64 m.b,.string (str m.t)] 38)=w0 at *
  go_wp2_with fail
  refine (HH.out HST.out).mono ?_;rintro e w1 hg;have HG:=lj (HR.out _ _ _ hg);obtain ⟨F7,rfl,_⟩:=hg;go_wp2;exact bodyPost_ret (v:=.tuple #[]) (by simp [results,Tryz.results69,go_sem]) rfl HG.out
 ·have d0:((c.st:Int) == 0)=false:=by simp; omega
  rw [if_neg hst];clear hst HH
  by_cases e2:m.k=2
  ·have d2:(m.k == 2)=true:=by simpa using e2
   rw [if_pos e2];have E2:=lj e2;clear e2
   go_enter Tryz.func69,Tryz.ntmps69
   go_upto_region 2 with fail
   generalize w.alloc (.cells #[.int .i64 m.k,.int .i64 m.a,.int .i64 m.b,.string (str m.t)] 38)=w0 at *
   go_wp2_with fail
   refine (HK.out E2.out).mono ?_;rintro e w1 hg;have HG:=lj (HR.out _ _ _ hg);obtain ⟨F7,rfl,_⟩:=hg;go_wp2;exact bodyPost_ret (v:=.tuple #[]) (by simp [results,Tryz.results69,go_sem]) rfl HG.out
  ·have d2:(m.k == 2)=false:=by simpa using e2
   rw [if_neg e2];clear e2 HK
   by_cases e3:m.k=3
   ·have d3:(m.k == 3)=true:=by simpa using e3
    rw [if_pos e3];clear e3
    go_enter Tryz.func69,Tryz.ntmps69
    go_upto_region 2 with fail
    generalize w.alloc (.cells #[.int .i64 m.k,.int .i64 m.a,.int .i64 m.b,.string (str m.t)] 38)=w0 at *
    go_wp2_with fail
    refine (HP.out).mono ?_;rintro e w1 hg;have HG:=lj (HR.out _ _ _ hg);obtain ⟨F7,rfl,_⟩:=hg;go_wp2;exact bodyPost_ret (v:=.tuple #[]) (by simp [results,Tryz.results69,go_sem]) rfl HG.out
   ·have d3:(m.k == 3)=false:=by simpa using e3
    rw [if_neg e3];clear e3 HP
    by_cases e4:m.k=4
    ·have d4:(m.k == 4)=true:=by simpa using e4
     rw [if_pos e4];clear e4
     go_enter Tryz.func69,Tryz.ntmps69
     go_upto_region 2 with fail
     generalize w.alloc (.cells #[.int .i64 m.k,.int .i64 m.a,.int .i64 m.b,.string (str m.t)] 38)=w0 at *
     go_wp2_with fail
     refine (HS.out 0 (by decide)).mono ?_;rintro e w1 hg;have HG:=lj (HR.out _ _ _ hg);obtain ⟨F7,rfl,_⟩:=hg;go_wp2;exact bodyPost_ret (v:=.tuple #[]) (by simp [results,Tryz.results69,go_sem]) rfl HG.out
    ·have d4:(m.k == 4)=false:=by simpa using e4
     rw [if_neg e4];clear e4
     go_enter Tryz.func69,Tryz.ntmps69
     go_upto_region 2 with fail
     generalize w.alloc (.cells #[.int .i64 m.k,.int .i64 m.a,.int .i64 m.b,.string (str m.t)] 38)=w0 at *
     go_wp2_with fail
     refine (HS.out 4 (by decide)).mono ?_;rintro e w1 hg;have HG:=lj (HR.out _ _ _ hg);obtain ⟨F7,rfl,_⟩:=hg;go_wp2;exact bodyPost_ret (v:=.tuple #[]) (by simp [results,Tryz.results69,go_sem]) rfl HG.out
end
section
open Go.RowKit Go.Shelf Go.Maps
open Fr Bk
section
variable {F:Fp} {g:Nat} {y:Ly} {w w':World} {b:Br}
theorem BrAt.cnFeed (h:BrAt F g y w b) {k gc:Nat} {c:Cn} (h1:1≤k) (h2:k≤16) (hgc:rrole y.rs k=(gc:Int)+1) (hcn:CnAt F k gc (y.cy k) b.cf.queue w c) {G:Nat→Prop} {s:Fs} (hq:FdIs G (y.cy k).gf w' s)
  (hG:∀ x,G x→F (10 * k+1) x∨w.heap.size≤x) (hl:∀ x,G x→x<w'.heap.size) (hO:Only (F (10 * k+1)) w w'):BrAt (upF F (10 * k+1) G) g y w' (setc b k (some { c with fd:=s })):=by
 have hd:∀ j x,j≠1→j<5→F (10 * k+j) x→¬ F (10 * k+1) x:=fun j x hj _ hx=>h.fit.ne hx (by omega)
 have hy:ycy y k (y.cy k)=y:=by
  unfold ycy
  congr 1
  funext j
  by_cases e:j=k <;> simp [e]
 have hr:=h.setCn (i:=1) h1 h2 hgc (by decide) hG hl (cy:=y.cy k) (c:={ c with fd:=s }) hO (by
  refine ⟨hcn.bx.keep hO (hd 0 _ (by decide) (by decide) hcn.own),by rw [upF_other (by omega)]; exact hcn.own,?_,?_,?_,?_,hcn.vo⟩
  ·rw [upF_same]; exact hq
  ·rw [upF_other (by omega)]; exact hcn.lx.keep hO (fun x hx=>hd 2 x (by decide) (by decide) hx)
  ·rw [upF_other (by omega)]; exact hcn.qu.keep hO (fun x hx=>hd 3 x (by decide) (by decide) hx)
  ·intro gv e
   rw [upF_other (by omega)]
   exact ⟨(hcn.vw gv e).1.keep hO (hd 4 _ (by decide) (by decide) (hcn.vw gv e).2),(hcn.vw gv e).2⟩)
 rwa [hy] at hr
end
structure FedJ (F1 F:Fp) (g:Nat) (rs:List (Int×Int)) (w0 w:World) (b1:Br) (R:Option Addr) (rn rc:Nat) (es:List Ent):Prop where
 is:BrIs F1 g rs w b1
 own:∀ x,Own1 F1 x→Own1 F x∨w0.heap.size≤x
 only:Only (Own1 F) w0 w
 row:FrRow 0 w R rn rc es
 ar:∀ p,R=some p→¬ Own1 F1 p.block
 ae:Off (Own1 F1) es
 caps:∀ e∈es,e.n≤e.c
theorem bpush_any {F:Fp} {g:Nat} {y:Ly} {w:World} {b:Br} {k gc:Nat} {c:Cn} (hy:BrAt F g y w b) (h1:1≤k) (h2:k≤16) (hgc:rrole y.rs k=(gc:Int)+1) (hcs:b.cs k=some c) (hcn:CnAt F k gc (y.cy k) b.cf.queue w c) {B:Nat} {A:Option Addr} {n:Nat} (c2:Nat) {t:Bs} (ht:Bytes w B A n t) (hn:n≤100000000) (hfl:c.fd.l.length≤100000000) :
  Calls Tryz.prog 68 #[.pointer (some ⟨(y.cy k).gf,0,none⟩),.slice A n c2] w fun e w'=>∃ F1 R rn rc es,e = .returned (.slice R rn rc)∧kl es=fgot c.fd t∧FedJ F1 F g y.rs w w' (setc b k (some { c with fd:=fpush c.fd t })) R rn rc es:=by
 obtain ⟨a,m,cc,hfd,hgg,hin⟩:=hcn.fd;have hml:c.fd.l.length=m:=hfd.mid.len
 by_cases he:c.fd.e=0
 ·rw [he] at hfd
  refine (push_live w hfd B A n c2 t ht (Nat.zero_le _) (by omega)).mono ?_;rintro e w' ⟨R,rn,rc,es,r,a2,n2,c3,rfl,htl,hrow,hfd2,hoff,hRa,ha2,ho,hcaps⟩;obtain ⟨e1,e2⟩:=tells_eq htl
  have hO:Only (F (10 * k+1)) w w':=ho.mono fun x _ hx=>by
   rcases hx with rfl | hx
   ·exact hgg
   ·exact hin x hx
  have hG:∀ x,(x=(y.cy k).gf∨In a2 x)→F (10 * k+1) x∨w.heap.size≤x:=fun x hx=>by
   rcases hx with rfl | ⟨p,hp,rfl⟩
   ·exact .inl hgg
   ·rcases ha2 p hp with h | h
    ·exact .inl (hin _ h)
    ·exact .inr h
  have hpu:fpush c.fd t=⟨keep r,broke r⟩:=by unfold fpush; rw [if_pos he,e2]
  have hgt:kl es=fgot c.fd t:=by unfold fgot; rw [if_pos he,e1]
  have hb:=hy.cnFeed (s:=⟨keep r,broke r⟩) (G:=fun x=>x=(y.cy k).gf∨In a2 x) h1 h2 hgc hcn ⟨a2,n2,c3,hfd2,.inl rfl,fun x hx=>.inr hx⟩ hG (fun x hx=>by
   rcases hx with rfl | ⟨p,hp,rfl⟩
   ·exact feed_lt hfd2.head
   ·exact (hfd2.mid.lt hp).2) hO
  have hne:∀ x,w.heap.size≤x→¬ In a2 x→¬ Own1 (upF F (10 * k+1) (fun x=>x=(y.cy k).gf∨In a2 x)) x:=by
   rintro x hx hna ⟨s,hs⟩;unfold upF at hs
   by_cases e:s=10 * k+1
   ·rw [if_pos e] at hs
    rcases hs with rfl | hs
    ·have:=hy.fit.lt _ _ hgg; omega
    ·exact hna hs
   ·rw [if_neg e] at hs; have:=hy.fit.lt _ _ hs; omega
  refine ⟨upF F (10 * k+1) (fun x=>x=(y.cy k).gf∨In a2 x),R,rn,rc,es,rfl,hgt,?_⟩;rw [hpu];refine ⟨⟨y,rfl,hb⟩,fun x hx=>upF_own hG x hx,hO.mono fun x _ hx=>⟨_,hx⟩,hrow.mono (Nat.zero_le _),fun p hp=>hne _ (hrow.lt hp).1 (hRa p hp),(fun e hm hn p hp=>?_),hcaps⟩;have:=hoff e hm hn p hp;refine hne _ ?_ (fun h=>this (.inr h))
  rcases Nat.lt_or_ge p.block w.heap.size with h | h
  ·exact absurd (.inl h) this
  ·exact h
 ·refine (push_dead w hfd he A n c2).mono ?_
  rintro e w' ⟨rfl,rfl⟩
  have hpu:fpush c.fd t=c.fd:=by unfold fpush; rw [if_neg he]
  have hgt:kl []=fgot c.fd t:=by unfold fgot; rw [if_neg he]; rfl
  refine ⟨F,none,0,0,[],rfl,hgt,?_⟩;rw [hpu,show ({ c with fd:=c.fd }:Cn)=c from rfl,setc_as hcs];exact ⟨⟨y,rfl,hy⟩,fun x hx=>.inl hx,Only.refl _ _,FrRow.nil _ _,fun p hp=>(by cases hp),fun e hm=>(by cases hm),fun e hm=>(by cases hm)⟩
theorem FedJ.at {F1 F:Fp} {g:Nat} {rs:List (Int×Int)} {w0 w wr:World} {b1:Br} {R:Option Addr} {rn rc:Nat} {es:List Ent} (h:FedJ F1 F g rs w0 w b1 R rn rc es) (ho:Only (Own1 F1) w wr) {j:Nat} (hj:j<rn) :
  ∃ rb off,R=some ⟨rb,off,none⟩∧wr.cell? ⟨rb,off+j * 2,none⟩=some (.int .u8 (es.getD j ent0).k.toNat)∧wr.cell? ⟨rb,off+j * 2+1,none⟩=some (.slice (es.getD j ent0).A (es.getD j ent0).n (es.getD j ent0).c) ∧
   Bytes wr wr.heap.size (es.getD j ent0).A (es.getD j ent0).n (es.getD j ent0).l∧(es.getD j ent0).n≤(es.getD j ent0).c∧(kl es)[j]?=some ((es.getD j ent0).k,(es.getD j ent0).l):=by
 have hr:=h.row.only ho h.ar h.ae;have hl:=hr.len;obtain ⟨rb,off,e1,_,e3⟩:=hr.view.outer (by omega);have hm:=getD_mem (es:=es) (r:=j) (by omega);refine ⟨rb,off,e1,(e3 j hj).1,(e3 j hj).2,hr.ents _ hm,h.caps _ hm,?_⟩
 have hk:j<(kl es).length:=by unfold kl; rw [List.length_map]; omega
 have hg:=getD_kl es j;rw [List.getD_eq_getElem?_getD,List.getElem?_eq_getElem hk] at hg;rw [List.getElem?_eq_getElem hk];exact congrArg some hg
set_option maxHeartbeats 2000000 in
theorem breceive_any {F:Fp} {g:Nat} {rs:List (Int×Int)} {w:World} {b:Br} {k gc:Nat} {c:Cn} (h:BrIs F g rs w b) (hk:BOk b) (h1:1≤k) (h2:k≤16) (hgc:rrole rs k=(gc:Int)+1) (hc:b.cs k=some c) (hfl:c.fd.l.length≤1000000) {B:Nat} {A:Option Addr} {n:Nat} (c2:Nat) {t:Bs} (ht:Bytes w B A n t) (hn:n≤1000000) (htot:b.tot≤100000000) :
  Calls Tryz.prog 44 #[.pointer (some (at0 g)),.pointer (some (at0 gc)),.slice A n c2] w fun e w'=>BGives F g rs w (recvB b k t) (.tuple #[]) e w':=by
 obtain ⟨y,rfl,hy⟩:=h;obtain ⟨c0,hc0,hcn⟩:=BrIs.cn hy h1 h2 hgc;rw [hc] at hc0
 injection hc0 with hc0
 subst hc0;have htl:t.length=n:=ht.1;have hP:=bpush_any hy h1 h2 hgc hc hcn c2 ht (by omega) (by omega);have g3:=hcn.bx.cell 3 (.pointer (some (at0 (y.cy k).gf))) rfl
 have hkept:=fun j=>takesTo_kept (t:=t) hk hc h1 h2 htot j
 rw [recvB_eq hc]
 obtain ⟨s,hs⟩:∃ s,fpush c.fd t=s:=⟨_,rfl⟩
 obtain ⟨fs,hfs⟩:∃ fs,fgot c.fd t=fs:=⟨_,rfl⟩
 have hcount:=fgot_count c.fd t;rw [hfs] at hcount;have HN:=lj (show fs.length≤2000000 by omega);have hsum:=fgot_sum c.fd t;rw [hfs] at hsum;have HFS:=lj (show fsum fs≤2000000 by omega);have HLT:=lj (show c.fd.l.length+t.length≤2000000 by omega);clear hsum;clear hcount
 obtain ⟨b1,hb1⟩:∃ b1,setc b k (some { c with fd:=s })=b1:=⟨_,rfl⟩
 simp only [hs,hfs,hb1] at hP hkept ⊢;have HP:=lj hP;have HKT:=lj hkept;have HG:=lj hgc;clear hP hkept hs hfs hb1 hy hcn hk hc hgc ht htl hn htot hfl
 go_enter Tryz.func44,Tryz.ntmps44
 go_wp2_with fail
 refine HP.out.mono ?_;rintro e w1 ⟨F1,R,rn,rc,es,rfl,hkl,hfj⟩
 have hrn:rn=fs.length:=by rw [← hkl]; unfold kl; rw [List.length_map]; exact hfj.row.len.symm
 have HF:=lj hfj;have HKL:=lj hkl;have HRN:=lj hrn
 have hrnl:rn≤2000000:=by rw [hrn]; exact HN.out
 have HRL:=lj hrnl;clear hfj hkl hrn hrnl HP g3;go_wp2
 go_loopw [17] (fun p wr=>∃ j:Nat,p = .int .i64 (j:Nat)∧j≤rn∧∃ F3,BrIs F3 g y.rs wr (takesTo b1 k fs j)∧(∀ x,Own1 F3 x→Own1 F1 x∨w1.heap.size≤x)∧Only (Own1 F1) w1 wr)
  (fun p _=>match p with | .int _ i=>((rn:Int) - i).toNat | _=>0)
 case atStart =>
  exact ⟨0,rfl,Nat.zero_le _,F1,HF.out.is,fun _ h=>.inl h,Only.refl _ _⟩
 case round =>
  obtain ⟨j,rfl,hj,F3,hb3,hs3,ho3⟩:=hrel;have HB3:=lj (And.intro hb3 (And.intro hs3 ho3))
  have hFin:∀ {W:World} {F4:Fp} {b4:Br},BrIs F4 g y.rs W b4→(∀ x,Own1 F4 x→Own1 F1 x∨w1.heap.size≤x)→Only (Own1 F1) w1 W→BGives F g y.rs w b4 (.tuple #[]) (.returned (.tuple #[])) W:=fun hb hs ho =>
   ⟨_,rfl,hb,fun x hx=>by
    rcases hs x hx with h | h
    ·exact HF.out.own x h
    ·exact .inr (Nat.le_trans HF.out.only.size h),HF.out.only.trans' ho HF.out.own⟩
  have HFI:=lj (fun (W:World) (F4:Fp) (b4:Br) h1 h2 h3=>@hFin W F4 b4 h1 h2 h3);obtain ⟨y3,hy3,hb33⟩:=id hb3
  have hgc3:rrole y3.rs k=(gc:Int)+1:=by rw [hy3]; exact HG.out
  obtain ⟨c3,hc3,hcn3⟩:=BrIs.cn hb33 h1 h2 hgc3;clear hb3 hs3 ho3 hFin
  by_cases hjn:j=rn
  ·subst hjn
   have hall:takesTo b1 k fs j=Bk.takes b1 k fs:=by rw [HRN.out,takesTo_all]
   have hfd3:c3.fd=s:=(HKT.out j).2.2 c3 hc3;obtain ⟨a3,n3,cc3,hf3,_,_⟩:=hcn3.fd;rw [hfd3] at hf3;have g3:=hcn3.bx.cell 3 (.pointer (some (at0 (y3.cy k).gf))) rfl;have HE:=lj (feed_err _ hf3);have HALL:=lj hall
   have hcl:closing (Bk.takes b1 k fs) k=decide (c3.st=2):=by rw [← hall]; unfold closing; rw [hc3]
   have HCL:=lj (And.intro hcl hc3);clear hall hfd3 hf3 hb33 hcn3 hcl hc3 hgc3 hy3 hj
   by_cases he:s.e=0
   ·have hd:((s.e:Int) != 0)=false:=by simp [he]
    go_wp2_with fail
    refine HE.out.mono ?_;rintro e w5 ⟨rfl,rfl⟩;go_wp2;refine bodyPost_ret (v:=.tuple #[]) (by simp [results,Tryz.results44,go_sem]) rfl ?_;rw [recvX_same (.inl he),← HALL.out];exact HFI.out _ _ _ HB3.out.1 HB3.out.2.1 HB3.out.2.2
   ·have hd:((s.e:Int) != 0)=true:=by simp; omega
    have hks:=(HKT.out j).1;have HSH:=lj (bshut_any 1 HB3.out.1 hks.fok h1 h2 HG.out (by decide));clear hks
    go_wp2_with fail
    refine HE.out.mono ?_;rintro e w5 ⟨rfl,rfl⟩
    go_wp2_with fail
    refine HSH.out.mono ?_;rintro e w6 ⟨F6,rfl,hb6,hs6,ho6⟩;have H6:=lj (own_then HB3.out.2.1 HB3.out.2.2 hs6 ho6);have HB6:=lj hb6;clear hb6 hs6 ho6;go_wp2;refine bodyPost_ret (v:=.tuple #[]) (by simp [results,Tryz.results44,go_sem]) rfl ?_;have hb:=HFI.out _ _ _ HB6.out H6.out.1 H6.out.2
    by_cases hst:c3.st=2
    ·rw [recvX_same (.inr (by rw [HCL.out.1]; simpa using hst)),← HALL.out]
     rwa [shut_closing HCL.out.2 hst] at hb
    ·rw [recvX_shut he (by rw [HCL.out.1]; simpa using hst),← HALL.out]
     exact hb
  ·have hlt:j<rn:=by omega
   have hgl:=HRL.out;obtain ⟨rb,off,rfl,q0,q1,q2,q3,q4⟩:=HF.out.at HB3.out.2.2 hlt;rw [HKL.out] at q4
   obtain ⟨E,hE⟩:∃ E,es.getD j ent0=E:=⟨_,rfl⟩
   rw [hE] at q0 q1 q2 q3 q4;have d1:=hcn3.bx.cell 1 (.int .i64 (c3.st:Nat)) rfl;have hgw:gc<wr.heap.size:=hcn3.bx.room;have HQ:=lj (And.intro q2 (And.intro q3 q4));clear hE q2 q3 q4
   have hO1:∀ o,Only Nay wr (wr.alloc o):=fun o=>(Only.refl Nay wr).alloc o
   have hX1:=Bx.new wr _ rfl #[.int .u8 E.k.toNat,.slice E.A E.n E.c] 96;have D1:=lj (show ∀ o,(wr.alloc o).cell? ⟨gc,1,none⟩=some (.int .i64 (c3.st:Nat)) from fun o=>(hO1 o).keepCell (fun h=>h) d1)
   by_cases hst:c3.st=2
   ·have hop:closing (takesTo b1 k fs j) k=true:=by unfold closing; rw [hc3]; simpa using hst
    have hd2:((c3.st:Int) == 2)=true:=by simp [hst]
    have hst1:=takesTo_stop hop;have HGG:=lj (HFI.out _ _ _ (HB3.out.1.quiet (hO1 (.cells #[.int .u8 E.k.toNat,.slice E.A E.n E.c] 96))) HB3.out.2.1 (HB3.out.2.2.trans ((hO1 (.cells #[.int .u8 E.k.toNat,.slice E.A E.n E.c] 96)).mono fun _ _ h=>h.elim)));rw [← hst1] at HGG;have dd:=D1.out (.cells #[.int .u8 E.k.toNat,.slice E.A E.n E.c] 96);have HOP:=lj (show closing (Bk.takes b1 k fs) k=true by rw [hst1]; exact hop);clear hst1 hop hst hb33 hcn3 hc3 hO1 hX1 hgc3 hy3;go_wp2;refine bodyPost_ret (v:=.tuple #[]) (by simp [results,Tryz.results44,go_sem]) rfl ?_;rw [recvX_same (.inr HOP.out)];exact HGG.out
   ·have hop:closing (takesTo b1 k fs j) k=false:=by unfold closing; rw [hc3]; simpa using hst
    have hd2:((c3.st:Int) == 2)=false:=by simp; omega
    have HNX:=lj (takesTo_next HQ.out.2.2 hop);have HO1:=lj (hO1 (.cells #[.int .u8 E.k.toNat,.slice E.A E.n E.c] 96));have x0:=hX1.cell 0 _ rfl;have x1:=hX1.cell 1 _ rfl
    have hen:E.n≤1000000000:=by
     have h9:=fsum_get HQ.out.2.2;have h8:=HFS.out;have h7:E.l.length=E.n:=HQ.out.1.1;have h6:(E.k,E.l).2.length=E.l.length:=rfl;omega
    have HOf:=lj (mof_any E.k E.A E.n E.c wr.heap.size E.l (wr.alloc (.cells #[.int .u8 E.k.toNat,.slice E.A E.n E.c] 96)) (HQ.out.1.onlyo HO1.out (fun _ _ _ h=>h)) HO1.out.size HQ.out.2.1 hen);have dd:=D1.out (.cells #[.int .u8 E.k.toNat,.slice E.A E.n E.c] 96);clear hop hst hb33 hcn3 hc3 hO1 hX1 hgc3 hy3 hen
    go_wp2_with fail
    refine HOf.out.mono ?_;rintro e w2 ⟨hpost,hb2⟩;obtain rfl:=of_mof (f:=(E.k,E.l)) hpost;have HO2:=lj (HO1.out.trans (only_of_below hb2));clear hb2 hpost x0 x1 HOf HO1 dd D1 d1 q0 q1
    rcases hmo:Bk.mof (E.k,E.l) with _ | m
    ·have hmv:mvalo none = .agg #[.int .i64 0,.int .i64 0,.int .i64 0,.string ByteArray.empty]:=rfl
     have his:(none:Option M).isSome=false:=rfl;rw [hmv,his];have hx2:=Bx.new w2 _ rfl #[.int .i64 0,.int .i64 0,.int .i64 0,.string ByteArray.empty] 38;have z0:=hx2.cell 0 _ rfl;have z1:=hx2.cell 1 _ rfl;have z2:=hx2.cell 2 _ rfl;have z3:=hx2.cell 3 _ rfl;have hks:=(HKT.out j).1;have hkl:=HLT.out;have HT:=lj (btake_no ((HB3.out.1.quiet HO2.out).quiet ((Only.refl Nay w2).alloc (.cells #[.int .i64 0,.int .i64 0,.int .i64 0,.string ByteArray.empty] 38))) hks h1 h2 HG.out);have HO3:=lj (HO2.out.alloc (.cells #[.int .i64 0,.int .i64 0,.int .i64 0,.string ByteArray.empty] 38));have hk4:=bok_all.toKTake.takeB (mo:=none) hks h1 h2 (fun m' hm'=>(by cases hm'));have HK4:=lj hk4;have hnx:=HNX.out;rw [hmo] at hnx;have HNX2:=lj hnx;clear hx2 hks hk4 hnx hmv his hkl;unfold mval at HT
     go_wp2_with fail
     refine HT.out.mono ?_;rintro e w4 ⟨F4,rfl,hb4,hs4,ho4⟩;have H4:=lj (own_then HB3.out.2.1 HB3.out.2.2 (fun x hx=>(hs4 x hx).imp id fun h=>Nat.le_trans HO3.out.size h) ((HO3.out.mono fun _ _ h=>h.elim).trans ho4));have HH:=lj (bholder_any hb4 HK4.out.fok HK4.out.rin);clear hb4 hs4 ho4 HT z0 z1 z2 z3
     go_wp2_with fail
     refine HH.out.mono ?_;rintro e w5 ⟨F5,rfl,hb5,hs5,ho5⟩;have H5:=lj (own_then H4.out.1 H4.out.2 hs5 ho5);have HB5:=lj hb5;clear hb5 hs5 ho5 HH
     have hj1:j+1≤2000000:=by omega
     go_wp2;go_roundw
     case rel =>
      refine ⟨j+1,by go_num,by omega,F5,?_,H5.out.1,H5.out.2⟩;rw [HNX2.out];exact HB5.out
     case measure=>simp; omega
    ·have hmv:mvalo (some m) = .agg #[.int .i64 m.k,.int .i64 m.a,.int .i64 m.b,.string (str m.t)]:=rfl
     have his:(some m).isSome=true:=rfl;rw [hmv,his];have hx2:=Bx.new w2 _ rfl #[.int .i64 m.k,.int .i64 m.a,.int .i64 m.b,.string (str m.t)] 38;have z0:=hx2.cell 0 _ rfl;have z1:=hx2.cell 1 _ rfl;have z2:=hx2.cell 2 _ rfl;have z3:=hx2.cell 3 _ rfl;have hks:=(HKT.out j).1;have hkl:=HLT.out;have HT:=lj (btake_some ((HB3.out.1.quiet HO2.out).quiet ((Only.refl Nay w2).alloc (.cells #[.int .i64 m.k,.int .i64 m.a,.int .i64 m.b,.string (str m.t)] 38))) hks h1 h2 HG.out m (mof_ok hmo).1 (Nat.le_trans (HKT.out j).2.1 (by omega)));have HO3:=lj (HO2.out.alloc (.cells #[.int .i64 m.k,.int .i64 m.a,.int .i64 m.b,.string (str m.t)] 38));have hk4:=bok_all.toKTake.takeB (mo:=(some m)) hks h1 h2 (fun m' hm'=>(mof_ok (hmo.trans hm')).1);have HK4:=lj hk4;have hnx:=HNX.out;rw [hmo] at hnx;have HNX2:=lj hnx;clear hx2 hks hk4 hnx hmv his hkl
     go_wp2_with fail
     refine HT.out.mono ?_;rintro e w4 ⟨F4,rfl,hb4,hs4,ho4⟩;have H4:=lj (own_then HB3.out.2.1 HB3.out.2.2 (fun x hx=>(hs4 x hx).imp id fun h=>Nat.le_trans HO3.out.size h) ((HO3.out.mono fun _ _ h=>h.elim).trans ho4));have HH:=lj (bholder_any hb4 HK4.out.fok HK4.out.rin);clear hb4 hs4 ho4 HT z0 z1 z2 z3
     go_wp2_with fail
     refine HH.out.mono ?_;rintro e w5 ⟨F5,rfl,hb5,hs5,ho5⟩;have H5:=lj (own_then H4.out.1 H4.out.2 hs5 ho5);have HB5:=lj hb5;clear hb5 hs5 ho5 HH
     have hj1:j+1≤2000000:=by omega
     go_wp2;go_roundw
     case rel =>
      refine ⟨j+1,by go_num,by omega,F5,?_,H5.out.1,H5.out.2⟩;rw [HNX2.out];exact HB5.out
     case measure=>simp; omega
end
section
open Go.RowKit Go.Shelf Go.Maps
open Fr Bk
set_option maxHeartbeats 1000000 in
theorem bbytes_any {F:Fp} {g:Nat} {rs:List (Int×Int)} {w:World} {b:Br} {i T mm:Nat} (h:BrIs F g rs w b) (he:EvOk b i T mm) (hT:T≤100000000) (id:Int) (hid:wf64 id) {B:Nat} {A:Option Addr} {n:Nat} (c2:Nat) {t:Bs} (ht:Bytes w B A n t) (hn:n≤1000000) (hne:0<n→∀ p,A=some p→¬ Own1 F p.block) :
  Calls Tryz.prog 26 #[.pointer (some (at0 g)),.int .i64 id,.slice A n c2] w fun e w'=>EGives F g w (bytesB b id t) (.int .i64 (bytesE b id:Nat)) e w':=by
 obtain ⟨y,rfl,h⟩:=h;have hm:=h.row.cell 24 (.map y.cm) rfl;have hk:=he.ok
 rcases h.there id with ⟨h1,h2⟩ | ⟨k,c,gc,h3,h4,h5,h6,h7,h8,h9,h10⟩
 ·have e2:bytesE b id=2:=by unfold bytesE; rw [h1]; rfl
  have e1:bytesB b id t=b:=by unfold bytesB; rw [if_neg (by rw [e2]; decide)]
  have hl:=h.lookN hid h2;rw [e1,e2];have HG:=lj (h.gives (.int .i64 (2:Nat)));clear h hk he h1 h2 e1 e2
  go_enter Tryz.func26,Tryz.ntmps26
  go_wp2;go_ret;obtain ⟨F2,he,hb2,hs2,ho2⟩:=HG.out;exact ⟨F2,y.rs,rfl,hb2,hs2,ho2⟩
 ·subst h3
  have hl:=h.lookS hid h7;have d1:=h8.bx.cell 1 (.int .i64 (c.st:Nat)) rfl
  have hkk:((k:Nat):Int).toNat=k:=by omega
  by_cases hst:c.st=2
  ·have hcl:closing b k=true:=by unfold closing; rw [h6]; simpa using hst
   have e2:bytesE b ((k:Nat):Int)=3:=by unfold bytesE; rw [h9,hkk,hcl]; rfl
   have e1:bytesB b ((k:Nat):Int) t=b:=by unfold bytesB; rw [if_neg (by rw [e2]; decide)]
   have hd:((c.st:Int) == 2)=true:=by simp [hst]
   rw [e1,e2];have HG:=lj (h.gives (.int .i64 (3:Nat)));clear h hk he h6 h7 h8 h9 h10 e1 e2 hcl
   go_enter Tryz.func26,Tryz.ntmps26
   go_wp2;go_ret;obtain ⟨F2,he,hb2,hs2,ho2⟩:=HG.out;exact ⟨F2,y.rs,rfl,hb2,hs2,ho2⟩
  ·have hcl:closing b k=false:=by unfold closing; rw [h6]; simpa using hst
   have e2:bytesE b ((k:Nat):Int)=0:=by unfold bytesE; rw [h9,hkk,hcl]; rfl
   have hd:((c.st:Int) == 2)=false:=by simp; omega
   have htl:t.length=n:=ht.1
   by_cases hn0:n=0
   ·have ht0:t=[]:=List.eq_nil_of_length_eq_zero (by omega)
    have e1:bytesB b ((k:Nat):Int) t=Bk.settle (recvB b k t):=by
     unfold bytesB;rw [if_pos e2,hkk]
     show Bk.settle (recvB (match b.cs k with | some c=>(if t=[] then b else setc b k (some { c with idle:=0 })) | none=>b) k t)=_
     rw [h6]
     show Bk.settle (recvB (if t=[] then b else setc b k (some { c with idle:=0 })) k t)=_
     rw [if_pos ht0]
    have hR:=breceive_any ⟨y,rfl,h⟩ hk h4 h5 h7 h6 (Nat.le_trans (he.cn k c h6).2 (by decide)) c2 ht hn (Nat.le_trans he.tot hT);have HR:=lj hR;have HK:=lj (bok_all.recv hk h4 h5 t);have dg:decide ((0:Nat) > 0)=false:=rfl;have dg2:decide (0<(0:Nat))=false:=rfl;rw [e1,e2];subst hn0;clear h hk he h6 h7 h8 h9 h10 e1 e2 hcl hR ht ht0 htl hne
    go_enter Tryz.func26,Tryz.ntmps26
    go_wp2_with fail
    refine HR.out.mono ?_;rintro e w2 ⟨F2,rfl,hb2,hs2,ho2⟩;have HS:=lj (bsettle_any hb2 HK.out);have HO:=lj (And.intro hs2 ho2);clear hb2 hs2 ho2 HR
    go_wp2_with fail
    refine HS.out.mono ?_;rintro e w3 ⟨F3,rs3,rfl,hb3,hs3,ho3⟩;have H3:=lj (own_then HO.out.1 HO.out.2 hs3 ho3);have HB3:=lj hb3;clear hb3 hs3 ho3;go_wp2;go_ret;exact ⟨F3,rs3,rfl,HB3.out,H3.out.1,H3.out.2⟩
   ·have ht0:t≠[]:=fun e=>by rw [e] at htl; exact hn0 htl.symm
    have e1:bytesB b ((k:Nat):Int) t=Bk.settle (recvB (setc b k (some { c with idle:=0 })) k t):=by
     unfold bytesB;rw [if_pos e2,hkk]
     show Bk.settle (recvB (match b.cs k with | some c=>(if t=[] then b else setc b k (some { c with idle:=0 })) | none=>b) k t)=_
     rw [h6]
     show Bk.settle (recvB (if t=[] then b else setc b k (some { c with idle:=0 })) k t)=_
     rw [if_neg ht0]
    have hk1:=bok_all.idle0 b k c hk h6;have d2:=h8.bx.cell 2 (.int .i64 (c.idle:Nat)) rfl;have f2:=h8.bx.free 2;have hb1:=h.cnCell (c':={ c with idle:=0 }) (cy:=y.cy k) h4 h5 h7 h8 2 (.int .i64 0) rfl rfl rfl rfl rfl rfl rfl h8.vw h8.vo;have hO1:Only (fun x=>x=gc) w (w.setCell ⟨gc,2,none⟩ (.int .i64 0)):=Bx.only gc w 2 _
    have hO1':Only (Own1 F) w (w.setCell ⟨gc,2,none⟩ (.int .i64 0)):=hO1.mono fun x _ hx=>⟨10 * k,by rw [show x=gc from hx]; exact h8.own⟩
    have ht1:Bytes (w.setCell ⟨gc,2,none⟩ (.int .i64 0)) B A n t:=ht.onlyo hO1 (fun hp p hA e=>hne hp p hA ⟨10 * k,by rw [show p.block=gc from e]; exact h8.own⟩);have hR:=breceive_any (c:={ c with idle:=0 }) ⟨ycy y k (y.cy k),rfl,hb1⟩ hk1 h4 h5 h7 (setc_cs _ _ _) (Nat.le_trans (he.cn k c h6).2 (by decide)) c2 ht1 hn (Nat.le_trans he.tot hT);have HR:=lj hR;have HK:=lj (bok_all.recv hk1 h4 h5 t);have HO1:=lj hO1'
    have dg:decide (n > 0)=true:=by simp; omega
    have dg2:decide (0<n)=true:=by simp; omega
    rw [e1,e2];clear h hk he h6 h7 h8 h9 h10 e1 e2 hcl hR ht ht0 htl hne hk1 hb1 hO1 hO1' ht1 hn0
    go_enter Tryz.func26,Tryz.ntmps26
    go_wp2_with fail
    refine HR.out.mono ?_;rintro e w2 ⟨F2,rfl,hb2,hs2,ho2⟩;have HS:=lj (bsettle_any hb2 HK.out);have HO:=lj (And.intro (show ∀ x,Own1 F2 x→Own1 F x∨w.heap.size≤x from fun x hx=>(hs2 x hx).imp id fun h=>Nat.le_trans HO1.out.size h) (show Only (Own1 F) w w2 from HO1.out.trans ho2));clear hb2 hs2 ho2 HR
    go_wp2_with fail
    refine HS.out.mono ?_;rintro e w3 ⟨F3,rs3,rfl,hb3,hs3,ho3⟩;have H3:=lj (own_then HO.out.1 HO.out.2 hs3 ho3);have HB3:=lj hb3;clear hb3 hs3 ho3;go_wp2;go_ret;exact ⟨F3,rs3,rfl,HB3.out,H3.out.1,H3.out.2⟩
end
section
open Go.RowKit Go.Shelf Go.Maps
open Fr Bk
structure LB (n0:Nat) (F:Fp) (g:Nat) (rs:List (Int×Int)) (w:World) (b:Br):Prop where
 is:BrIs F g rs w b
 new:∀ x,Own1 F x→n0≤x
 le:n0≤w.heap.size
def LBx (n0 g:Nat) (w:World) (b:Br):Prop:=∃ F rs,LB n0 F g rs w b
section
variable {n0 g:Nat} {w w':World} {b:Br}
theorem LB.e {F:Fp} {rs:List (Int×Int)} (h:LB n0 F g rs w b) {b2:Br} {v:Value} {e:Ending} (hg:EGives F g w b2 v e w'):e = .returned v∧LBx n0 g w' b2∧Below n0 w w':=by
 obtain ⟨F2,rs2,he,h1,h2,h3⟩:=hg;refine ⟨he,⟨F2,rs2,h1,fun x hx=>?_,Nat.le_trans h.le h3.size⟩,h3.below h.le fun x hx hF=>?_⟩
 ·rcases h2 x hx with h4 | h4
  ·exact h.new x h4
  ·exact Nat.le_trans h.le h4
 ·have:=h.new x hF
  omega
theorem LBx.le (h:LBx n0 g w b):n0≤w.heap.size:=by
 obtain ⟨F,rs,h1⟩:=h;exact h1.le
theorem lb_new {cf:Cf} (ho:CfOk cf) (w:World) (ht:TI w):Calls Tryz.prog 14 #[.agg (cfRow cf)] w fun e w'=>∃ g,e = .returned (.pointer (some (at0 g)))∧LBx w.heap.size g w' (bnew cf)∧Below w.heap.size w w':=by
 refine (bnew_any ho w ht).mono ?_;rintro e w' ⟨F,g,rfl,h1,h2,h3⟩;exact ⟨g,rfl,⟨F,[],h1,h2,h3.size⟩,h3.below (Nat.le_refl _) fun _ _ h=>h⟩
theorem lb_write (h:LBx n0 g w b) (hk:BOk b) (id n:Int) (hid:wf64 id):Calls Tryz.prog 16 #[.pointer (some (at0 g)),.int .i64 id,.int .i64 n] w fun e w' =>
  ∃ A m c,e = .returned (.tuple #[.slice A m c,.int .i64 (writeE b id:Nat)])∧LBx n0 g w' (writeB b id n)∧Below n0 w w'∧Bytes w' w'.heap.size A m (writeT b id n)∧m≤c∧(∀ p,A=some p→w.heap.size≤p.block):=by
 obtain ⟨F,rs,h⟩:=h;refine (bwrite_any h.is hk id n hid).mono ?_;rintro e w' ⟨A,m,c,hg,h1,h2,h3⟩;obtain ⟨e1,e2,e3⟩:=h.e hg;exact ⟨A,m,c,e1,e2,e3,h1,h2,h3⟩
def LS (n0:Nat) (S:Nat→Prop) (g:Nat) (w:World) (b:Br):Prop:=∃ F rs,LB n0 F g rs w b∧∀ x,S x→x<w.heap.size∧¬ Own1 F x
variable {S:Nat→Prop}
theorem LS.lbx (h:LS n0 S g w b):LBx n0 g w b:=by
 obtain ⟨F,rs,h,_⟩:=h;exact ⟨F,rs,h⟩
theorem LBx.ls (h:LBx n0 g w b) (hb:Below w.heap.size w w') (hS:∀ x,S x→w.heap.size≤x∧x<w'.heap.size):LS n0 S g w' b:=by
 obtain ⟨F,rs,h⟩:=h;refine ⟨F,rs,⟨h.is.quiet (only_of_below hb),h.new,Nat.le_trans h.le hb.size⟩,fun x hx=>⟨(hS x hx).2,fun hF=>?_⟩⟩;obtain ⟨y,_,hy⟩:=h.is;have:=hy.lt hF;have:=(hS x hx).1;omega
theorem LB.e2 {F:Fp} {rs:List (Int×Int)} (h:LB n0 F g rs w b) (hS:∀ x,S x→x<w.heap.size∧¬ Own1 F x) {b2:Br} {v:Value} {e:Ending} (hg:EGives F g w b2 v e w'):e = .returned v∧LS n0 S g w' b2∧Only (fun x=>n0≤x∧¬ S x) w w':=by
 obtain ⟨e1,_,_⟩:=h.e hg;obtain ⟨F2,rs2,he,h1,h2,h3⟩:=hg;refine ⟨e1,⟨F2,rs2,⟨h1,fun x hx=>?_,Nat.le_trans h.le h3.size⟩,fun x hx=>⟨Nat.lt_of_lt_of_le (hS x hx).1 h3.size,fun hF=>?_⟩⟩,h3.mono fun x _ hF=>⟨h.new x hF,fun hs=>(hS x hs).2 hF⟩⟩
 ·rcases h2 x hx with h4 | h4
  ·exact h.new x h4
  ·exact Nat.le_trans h.le h4
 ·rcases h2 x hF with h4 | h4
  ·exact (hS x hx).2 h4
  ·have:=(hS x hx).1; omega
end
end
section
open Go.RowKit Go.Shelf Go.Maps
open Fr Bk
noncomputable def doEv (q:Nat) (b:Br) (id n:Int) (t:Bs):Br:=
 match q with
 | 0=>connectB b id | 1=>bytesB b id t | 2=>writeB b id n | 3=>outputB b t | 4=>drainB b n | 5=>tickB b | 6=>cutB b id | _=>endB b n
def doTx (q:Nat) (b:Br) (id n:Int):Bs:=match q with | 2=>writeT b id n | 4=>drainT b n | _=>[]
def doEx (q:Nat) (b:Br) (id n:Int):Nat:=match q with | 0=>connectE b id | 1=>bytesE b id | 2=>writeE b id | 3=>outputE b | 6=>writeE b id | 7=>endE b n | _=>0
theorem EGives.from {F:Fp} {g:Nat} {w w1:World} {b2:Br} {v v':Value} {w':World} (h:EGives F g w1 b2 v (.returned v) w') (hb:Below w.heap.size w w1):EGives F g w b2 v' (.returned v') w':=by
 obtain ⟨F2,rs,_,h1,h2,h3⟩:=h;refine ⟨F2,rs,rfl,h1,fun x hx=>?_,((only_of_below hb).mono fun x _ h=>h.elim).trans h3⟩
 rcases h2 x hx with e | e
 ·exact .inl e
 ·exact .inr (Nat.le_trans hb.size e)
theorem ldo0 {F:Fp} {g:Nat} {rs:List (Int×Int)} {w:World} {b:Br} {i T m:Nat} (h:BrIs F g rs w b) (_he:EvOk b i T m) (_hi:i≤1000000000) (_hT:T≤100000000) (k id n:Int) (_hid:wf64 id) {A:Option Addr} {L C B:Nat} {t:Bs} (_ht:Bytes w B A L t) (_hB:B≤w.heap.size) (_hLC:L≤C) (_hne:0<L→∀ p,A=some p→¬ Own1 F p.block) (_hm:m+L≤1000000) (hq:bits .and .i64 k 7=0) :
  Calls Tryz.prog 15 #[.pointer (some (at0 g)),.agg #[.int .i64 k,.int .i64 id,.int .i64 n,.slice A L C]] w fun e w'=>EGives F g w (connectB b id) (.tuple #[.string (str ([])),.int .i64 (connectE b id:Nat)]) e w':=by
 have HB:=lj ((Below.refl w.heap.size w).alloc (Nat.le_refl _) (.cells #[.int .i64 k,.int .i64 id,.int .i64 n,.slice A L C] 43));have HO:=lj (only_of_below HB.out);have HA:=lj HB.out.size;have hx:=Bx.new w _ rfl #[.int .i64 k,.int .i64 id,.int .i64 n,.slice A L C] 43;have x0:=hx.cell 0 _ rfl;have x1:=hx.cell 1 _ rfl;have x2:=hx.cell 2 _ rfl;have x3:=hx.cell 3 _ rfl;clear hx;have HC:=lj (bconnect_any (h.quiet HO.out) _he.ok id _hid);clear h _he _ht _hne _hm _hB
 go_enter Tryz.func15,Tryz.ntmps15
 go_wp2_with fail
 refine HC.out.mono ?_;intro e w' hg
 obtain rfl:e = .returned (.int .i64 (connectE b id:Nat)):=by obtain ⟨_,_,h9,_⟩:=hg; exact h9
 go_wp2;exact bodyPost_ret (by simp [results,Tryz.results15,go_sem]; rfl) rfl (hg.from HB.out)
theorem ldo1 {F:Fp} {g:Nat} {rs:List (Int×Int)} {w:World} {b:Br} {i T m:Nat} (h:BrIs F g rs w b) (_he:EvOk b i T m) (_hi:i≤1000000000) (_hT:T≤100000000) (k id n:Int) (_hid:wf64 id) {A:Option Addr} {L C B:Nat} {t:Bs} (_ht:Bytes w B A L t) (_hB:B≤w.heap.size) (_hLC:L≤C) (_hne:0<L→∀ p,A=some p→¬ Own1 F p.block) (_hm:m+L≤1000000) (hq:bits .and .i64 k 7=1) :
  Calls Tryz.prog 15 #[.pointer (some (at0 g)),.agg #[.int .i64 k,.int .i64 id,.int .i64 n,.slice A L C]] w fun e w'=>EGives F g w (bytesB b id t) (.tuple #[.string (str ([])),.int .i64 (bytesE b id:Nat)]) e w':=by
 have HB:=lj ((Below.refl w.heap.size w).alloc (Nat.le_refl _) (.cells #[.int .i64 k,.int .i64 id,.int .i64 n,.slice A L C] 43));have HO:=lj (only_of_below HB.out);have HA:=lj HB.out.size;have hx:=Bx.new w _ rfl #[.int .i64 k,.int .i64 id,.int .i64 n,.slice A L C] 43;have x0:=hx.cell 0 _ rfl;have x1:=hx.cell 1 _ rfl;have x2:=hx.cell 2 _ rfl;have x3:=hx.cell 3 _ rfl;clear hx;have HC:=lj (bbytes_any (h.quiet HO.out) _he _hT id _hid C (_ht.below (HB.out.mono _hB)) (by have:=_hm; omega) _hne);clear h _he _ht _hne _hm _hB
 go_enter Tryz.func15,Tryz.ntmps15
 go_wp2_with fail
 refine HC.out.mono ?_;intro e w' hg
 obtain rfl:e = .returned (.int .i64 (bytesE b id:Nat)):=by obtain ⟨_,_,h9,_⟩:=hg; exact h9
 go_wp2;exact bodyPost_ret (by simp [results,Tryz.results15,go_sem]; rfl) rfl (hg.from HB.out)
theorem ldo2 {F:Fp} {g:Nat} {rs:List (Int×Int)} {w:World} {b:Br} {i T m:Nat} (h:BrIs F g rs w b) (_he:EvOk b i T m) (_hi:i≤1000000000) (_hT:T≤100000000) (k id n:Int) (_hid:wf64 id) {A:Option Addr} {L C B:Nat} {t:Bs} (_ht:Bytes w B A L t) (_hB:B≤w.heap.size) (_hLC:L≤C) (_hne:0<L→∀ p,A=some p→¬ Own1 F p.block) (_hm:m+L≤1000000) (hq:bits .and .i64 k 7=2) :
  Calls Tryz.prog 15 #[.pointer (some (at0 g)),.agg #[.int .i64 k,.int .i64 id,.int .i64 n,.slice A L C]] w fun e w'=>EGives F g w (writeB b id n) (.tuple #[.string (str (writeT b id n)),.int .i64 (writeE b id:Nat)]) e w':=by
 have HB:=lj ((Below.refl w.heap.size w).alloc (Nat.le_refl _) (.cells #[.int .i64 k,.int .i64 id,.int .i64 n,.slice A L C] 43));have HO:=lj (only_of_below HB.out);have HA:=lj HB.out.size;have hx:=Bx.new w _ rfl #[.int .i64 k,.int .i64 id,.int .i64 n,.slice A L C] 43;have x0:=hx.cell 0 _ rfl;have x1:=hx.cell 1 _ rfl;have x2:=hx.cell 2 _ rfl;have x3:=hx.cell 3 _ rfl;clear hx;have HC:=lj (bwrite_any (h.quiet HO.out) _he.ok id n _hid);clear h _he _ht _hne _hm _hB
 go_enter Tryz.func15,Tryz.ntmps15
 go_wp2_with fail
 refine HC.out.mono ?_;rintro e w' ⟨a2,m2,c2,hg,hy,_,_⟩
 obtain rfl:e = .returned (.tuple #[.slice a2 m2 c2,.int .i64 (writeE b id:Nat)]):=by obtain ⟨_,_,h9,_⟩:=hg; exact h9
 have hcv:=conv_str (cap:=c2) hy;go_wp2;exact bodyPost_ret (by simp [results,Tryz.results15,go_sem]) rfl (hg.from HB.out)
theorem ldo3 {F:Fp} {g:Nat} {rs:List (Int×Int)} {w:World} {b:Br} {i T m:Nat} (h:BrIs F g rs w b) (_he:EvOk b i T m) (_hi:i≤1000000000) (_hT:T≤100000000) (k id n:Int) (_hid:wf64 id) {A:Option Addr} {L C B:Nat} {t:Bs} (_ht:Bytes w B A L t) (_hB:B≤w.heap.size) (_hLC:L≤C) (_hne:0<L→∀ p,A=some p→¬ Own1 F p.block) (_hm:m+L≤1000000) (hq:bits .and .i64 k 7=3) :
  Calls Tryz.prog 15 #[.pointer (some (at0 g)),.agg #[.int .i64 k,.int .i64 id,.int .i64 n,.slice A L C]] w fun e w'=>EGives F g w (outputB b t) (.tuple #[.string (str ([])),.int .i64 (outputE b:Nat)]) e w':=by
 have HB:=lj ((Below.refl w.heap.size w).alloc (Nat.le_refl _) (.cells #[.int .i64 k,.int .i64 id,.int .i64 n,.slice A L C] 43));have HO:=lj (only_of_below HB.out);have HA:=lj HB.out.size;have hx:=Bx.new w _ rfl #[.int .i64 k,.int .i64 id,.int .i64 n,.slice A L C] 43;have x0:=hx.cell 0 _ rfl;have x1:=hx.cell 1 _ rfl;have x2:=hx.cell 2 _ rfl;have x3:=hx.cell 3 _ rfl;clear hx;have HC:=lj (boutput_any (h.quiet HO.out) _he.ok _he.sp A L C B t (_ht.below (HB.out.mono _hB)) (by have:=HA.out; have:=_hB; omega) _hLC _hne (by have:=_he.len; have:=_hm; omega));clear h _he _ht _hne _hm _hB
 go_enter Tryz.func15,Tryz.ntmps15
 go_wp2_with fail
 refine HC.out.mono ?_;intro e w' hg
 obtain rfl:e = .returned (.int .i64 (outputE b:Nat)):=by obtain ⟨_,_,h9,_⟩:=hg; exact h9
 go_wp2;exact bodyPost_ret (by simp [results,Tryz.results15,go_sem]; rfl) rfl (hg.from HB.out)
theorem ldo4 {F:Fp} {g:Nat} {rs:List (Int×Int)} {w:World} {b:Br} {i T m:Nat} (h:BrIs F g rs w b) (_he:EvOk b i T m) (_hi:i≤1000000000) (_hT:T≤100000000) (k id n:Int) (_hid:wf64 id) {A:Option Addr} {L C B:Nat} {t:Bs} (_ht:Bytes w B A L t) (_hB:B≤w.heap.size) (_hLC:L≤C) (_hne:0<L→∀ p,A=some p→¬ Own1 F p.block) (_hm:m+L≤1000000) (hq:bits .and .i64 k 7=4) :
  Calls Tryz.prog 15 #[.pointer (some (at0 g)),.agg #[.int .i64 k,.int .i64 id,.int .i64 n,.slice A L C]] w fun e w'=>EGives F g w (drainB b n) (.tuple #[.string (str (drainT b n)),.int .i64 (0:Nat)]) e w':=by
 have HB:=lj ((Below.refl w.heap.size w).alloc (Nat.le_refl _) (.cells #[.int .i64 k,.int .i64 id,.int .i64 n,.slice A L C] 43));have HO:=lj (only_of_below HB.out);have HA:=lj HB.out.size;have hx:=Bx.new w _ rfl #[.int .i64 k,.int .i64 id,.int .i64 n,.slice A L C] 43;have x0:=hx.cell 0 _ rfl;have x1:=hx.cell 1 _ rfl;have x2:=hx.cell 2 _ rfl;have x3:=hx.cell 3 _ rfl;clear hx;have HC:=lj (bdrain_any (h.quiet HO.out) n);clear h _he _ht _hne _hm _hB
 go_enter Tryz.func15,Tryz.ntmps15
 go_wp2_with fail
 refine HC.out.mono ?_;rintro e w' ⟨a2,m2,c2,F2,rfl,h1,h2,h3,hy⟩;have hg:EGives F g _ (drainB b n) (.slice a2 m2 c2) (.returned (.slice a2 m2 c2)) w':=⟨F2,rs,rfl,h1,h2,h3⟩;have hcv:=conv_str (cap:=c2) hy;go_wp2;exact bodyPost_ret (by simp [results,Tryz.results15,go_sem]) rfl (hg.from HB.out)
theorem ldo5 {F:Fp} {g:Nat} {rs:List (Int×Int)} {w:World} {b:Br} {i T m:Nat} (h:BrIs F g rs w b) (_he:EvOk b i T m) (_hi:i≤1000000000) (_hT:T≤100000000) (k id n:Int) (_hid:wf64 id) {A:Option Addr} {L C B:Nat} {t:Bs} (_ht:Bytes w B A L t) (_hB:B≤w.heap.size) (_hLC:L≤C) (_hne:0<L→∀ p,A=some p→¬ Own1 F p.block) (_hm:m+L≤1000000) (hq:bits .and .i64 k 7=5) :
  Calls Tryz.prog 15 #[.pointer (some (at0 g)),.agg #[.int .i64 k,.int .i64 id,.int .i64 n,.slice A L C]] w fun e w'=>EGives F g w (tickB b) (.tuple #[.string (str ([])),.int .i64 (0:Nat)]) e w':=by
 have HB:=lj ((Below.refl w.heap.size w).alloc (Nat.le_refl _) (.cells #[.int .i64 k,.int .i64 id,.int .i64 n,.slice A L C] 43));have HO:=lj (only_of_below HB.out);have HA:=lj HB.out.size;have hx:=Bx.new w _ rfl #[.int .i64 k,.int .i64 id,.int .i64 n,.slice A L C] 43;have x0:=hx.cell 0 _ rfl;have x1:=hx.cell 1 _ rfl;have x2:=hx.cell 2 _ rfl;have x3:=hx.cell 3 _ rfl;clear hx;have HC:=lj (btick_any (h.quiet HO.out) _he.ok (nn:=i) (fun k c hc=>(_he.cn k c hc).1) _hi);clear h _he _ht _hne _hm _hB
 go_enter Tryz.func15,Tryz.ntmps15
 go_wp2_with fail
 refine HC.out.mono ?_;intro e w' hg
 obtain rfl:e = .returned (.tuple #[]):=by obtain ⟨_,_,h9,_⟩:=hg; exact h9
 go_wp2;exact bodyPost_ret (by simp [results,Tryz.results15,go_sem]; rfl) rfl (hg.from HB.out)
theorem ldo6 {F:Fp} {g:Nat} {rs:List (Int×Int)} {w:World} {b:Br} {i T m:Nat} (h:BrIs F g rs w b) (_he:EvOk b i T m) (_hi:i≤1000000000) (_hT:T≤100000000) (k id n:Int) (_hid:wf64 id) {A:Option Addr} {L C B:Nat} {t:Bs} (_ht:Bytes w B A L t) (_hB:B≤w.heap.size) (_hLC:L≤C) (_hne:0<L→∀ p,A=some p→¬ Own1 F p.block) (_hm:m+L≤1000000) (hq:bits .and .i64 k 7=6) :
  Calls Tryz.prog 15 #[.pointer (some (at0 g)),.agg #[.int .i64 k,.int .i64 id,.int .i64 n,.slice A L C]] w fun e w'=>EGives F g w (cutB b id) (.tuple #[.string (str ([])),.int .i64 (writeE b id:Nat)]) e w':=by
 have HB:=lj ((Below.refl w.heap.size w).alloc (Nat.le_refl _) (.cells #[.int .i64 k,.int .i64 id,.int .i64 n,.slice A L C] 43));have HO:=lj (only_of_below HB.out);have HA:=lj HB.out.size;have hx:=Bx.new w _ rfl #[.int .i64 k,.int .i64 id,.int .i64 n,.slice A L C] 43;have x0:=hx.cell 0 _ rfl;have x1:=hx.cell 1 _ rfl;have x2:=hx.cell 2 _ rfl;have x3:=hx.cell 3 _ rfl;clear hx;have HC:=lj (bcut_any (h.quiet HO.out) _he.ok id _hid);clear h _he _ht _hne _hm _hB
 go_enter Tryz.func15,Tryz.ntmps15
 go_wp2_with fail
 refine HC.out.mono ?_;intro e w' hg
 obtain rfl:e = .returned (.int .i64 (writeE b id:Nat)):=by obtain ⟨_,_,h9,_⟩:=hg; exact h9
 go_wp2;exact bodyPost_ret (by simp [results,Tryz.results15,go_sem]; rfl) rfl (hg.from HB.out)
theorem ldo7 {F:Fp} {g:Nat} {rs:List (Int×Int)} {w:World} {b:Br} {i T m:Nat} (h:BrIs F g rs w b) (_he:EvOk b i T m) (_hi:i≤1000000000) (_hT:T≤100000000) (k id n:Int) (_hid:wf64 id) {A:Option Addr} {L C B:Nat} {t:Bs} (_ht:Bytes w B A L t) (_hB:B≤w.heap.size) (_hLC:L≤C) (_hne:0<L→∀ p,A=some p→¬ Own1 F p.block) (_hm:m+L≤1000000) (hq:bits .and .i64 k 7=7) :
  Calls Tryz.prog 15 #[.pointer (some (at0 g)),.agg #[.int .i64 k,.int .i64 id,.int .i64 n,.slice A L C]] w fun e w'=>EGives F g w (endB b n) (.tuple #[.string (str ([])),.int .i64 (endE b n:Nat)]) e w':=by
 have HB:=lj ((Below.refl w.heap.size w).alloc (Nat.le_refl _) (.cells #[.int .i64 k,.int .i64 id,.int .i64 n,.slice A L C] 43));have HO:=lj (only_of_below HB.out);have HA:=lj HB.out.size;have hx:=Bx.new w _ rfl #[.int .i64 k,.int .i64 id,.int .i64 n,.slice A L C] 43;have x0:=hx.cell 0 _ rfl;have x1:=hx.cell 1 _ rfl;have x2:=hx.cell 2 _ rfl;have x3:=hx.cell 3 _ rfl;clear hx;have HC:=lj (bend_any (h.quiet HO.out) _he.ok n);clear h _he _ht _hne _hm _hB
 go_enter Tryz.func15,Tryz.ntmps15
 go_wp2_with fail
 refine HC.out.mono ?_;intro e w' hg
 obtain rfl:e = .returned (.int .i64 (endE b n:Nat)):=by obtain ⟨_,_,h9,_⟩:=hg; exact h9
 go_wp2;exact bodyPost_ret (by simp [results,Tryz.results15,go_sem]; rfl) rfl (hg.from HB.out)
theorem ldo_any {F:Fp} {g:Nat} {rs:List (Int×Int)} {w:World} {b:Br} {i T m:Nat} (h:BrIs F g rs w b) (he:EvOk b i T m) (hi:i≤1000000000) (hT:T≤100000000) (k id n:Int) (hid:wf64 id) {A:Option Addr} {L C B:Nat} {t:Bs} (ht:Bytes w B A L t) (hB:B≤w.heap.size) (hLC:L≤C) (hne:0<L→∀ p,A=some p→¬ Own1 F p.block) (hm:m+L≤1000000) {q:Nat} (hq:bits .and .i64 k 7=(q:Int)) (hq7:q≤7) :
  Calls Tryz.prog 15 #[.pointer (some (at0 g)),.agg #[.int .i64 k,.int .i64 id,.int .i64 n,.slice A L C]] w fun e w'=>EGives F g w (doEv q b id n t) (.tuple #[.string (str (doTx q b id n)),.int .i64 (doEx q b id n:Nat)]) e w':=by
 rcases (by omega:q=0∨q=1∨q=2∨q=3∨q=4∨q=5∨q=6∨q=7) with rfl | rfl | rfl | rfl | rfl | rfl | rfl | rfl
 ·exact ldo0 h he hi hT k id n hid ht hB hLC hne hm hq
 ·exact ldo1 h he hi hT k id n hid ht hB hLC hne hm hq
 ·exact ldo2 h he hi hT k id n hid ht hB hLC hne hm hq
 ·exact ldo3 h he hi hT k id n hid ht hB hLC hne hm hq
 ·exact ldo4 h he hi hT k id n hid ht hB hLC hne hm hq
 ·exact ldo5 h he hi hT k id n hid ht hB hLC hne hm hq
 ·exact ldo6 h he hi hT k id n hid ht hB hLC hne hm hq
 ·exact ldo7 h he hi hT k id n hid ht hB hLC hne hm hq
theorem EvOk.doEv {b:Br} {i T m:Nat} (h:EvOk b i T m) (q:Nat) (id n:Int) (t:Bs) (hm:m+t.length≤1000000):EvOk (doEv q b id n t) (i+1) (T+2052+t.length) (m+t.length):=by
 have up:∀ {x:Br} {i' T' m':Nat},EvOk x i' T' m'→i'≤i+1→T'≤T+2052+t.length→m'≤m+t.length→EvOk x (i+1) (T+2052+t.length) (m+t.length):=fun h h1 h2 h3=>⟨h.ok,fun k c hc=>⟨Nat.le_trans (h.cn k c hc).1 h1,(h.cn k c hc).2⟩,Nat.le_trans h.tot h2,Nat.le_trans h.len h3,h.sp⟩
 unfold Go.Proofs.YtdpagmcickkbmaaGreatDoor.doEv
 split
 ·exact up (h.connect id) (by omega) (by omega) (by omega)
 ·exact up (h.bytes id t) (by omega) (by omega) (by omega)
 ·exact up (h.write id n) (by omega) (by omega) (by omega)
 ·exact up (h.output t (by omega)) (by omega) (by omega) (by omega)
 ·exact up (h.drain n) (by omega) (by omega) (by omega)
 ·exact up h.tick (by omega) (by omega) (by omega)
 ·exact up (h.cut id) (by omega) (by omega) (by omega)
 ·exact up (h.ends n) (by omega) (by omega) (by omega)
def sumL (Ln:Nat→Nat):Nat→Nat
 | 0=>0
 | j+1=>sumL Ln j+Ln j
theorem sumL_mono {Ln:Nat→Nat}:∀ {a b:Nat},a≤b→sumL Ln a≤sumL Ln b
  | a,0,h=>by
    obtain rfl:a=0:=by omega
    exact Nat.le_refl _
  | a,b+1,h=>by
    by_cases e:a=b+1
    · subst e; exact Nat.le_refl _
    · exact Nat.le_trans (sumL_mono (show a≤b by omega)) (Nat.le_add_right _ _)
end
section
open Go.RowKit
open Fr Bk
theorem sumL_le {Ln:Nat→Nat} {n:Nat}:∀ {k:Nat},k≤n→(∀ r,r<n→Ln r≤most)→sumL Ln k≤k * most
  | 0,_,_=>Nat.zero_le _
  | k+1,hk,h=>by
    have h1:=sumL_le (k:=k) (by omega) h;have h2:=h k (by omega)
    show sumL Ln k+Ln k≤(k+1) * most
    rw [Nat.add_mul];omega
def FewEv (n:Nat) (Ln:Nat→Nat) (w:World) (e:Ending) (w':World):Prop:=∃ f:Bool,e = .returned (.bool f)∧(f=true→n≤120∧sumL Ln n≤6000)∧Below w.heap.size w w'
theorem lfew_any {a:Option Addr} {n cap:Nat} {K I R:Nat→Int} {A:Nat→Option Addr} {Ln Cp:Nat→Nat} {T:Nat→Bs} (w:World) (hl:Ievs w w.heap.size a n K I R A Ln Cp T) (hm:n≤9223372036854775807) :
  Calls Tryz.prog 7 #[.slice a n cap] w (FewEv n Ln w):=by
 have HL:=lj hl;have HLe:=lj (show ∀ r,r<n→Ln r≤most from fun r hr=>Nat.le_trans (hl.inner r hr).2.2.1 (hl.inner r hr).2.2.2);have HB:=lj (Below.refl w.heap.size w);clear hl
 obtain ⟨g,hg⟩:∃ g,w.heap.size=g:=⟨_,rfl⟩
 rw [hg] at HL HB;have HG:=lj hg;clear hg
 go_enter Tryz.func7,Tryz.ntmps7
 go_wp2_with fail
 go_loopw [3,8] (fun s i wr=>∃ (k:Nat) (v:Int),k≤n∧i = .int .i64 (k:Nat)∧s = .int .i64 v∧Hid (k≤120→v=(sumL Ln k:Nat))∧Below g w wr) (fun _ i _=>n - (intOf i).toNat)
 case atStart=>exact ⟨0,0,by omega,rfl,rfl,lj fun _=>rfl,HB.out⟩
 case round =>
  obtain ⟨k,v,hk,rfl,rfl,HV,hb⟩:=hrel;have HBk:=lj hb;have hgw:=hb.size;rw [HG.out] at hgw;clear hb HB
  by_cases hlt:k<n
  ·have dk:decide ((k:Int)<(n:Int))=true:=by simp; omega
   obtain ⟨bb,off,rfl,hbB,hc⟩:=(HL.out.below HBk.out).outer (by omega);obtain ⟨hc0,hc1,hc2,hc3⟩:=hc k hlt
   have HV2:Hid (k+1≤120→wrap64 (v+(Ln k:Nat))=(sumL Ln (k+1):Nat)):=lj fun h=>by
    have h1:=HV.out (by omega);have h2:=sumL_le (k:=k+1) hlt HLe.out;have h3:(k+1) * most≤120 * most:=Nat.mul_le_mul_right _ h
    have h4:120 * most≤9223372036854775807:=by decide
    show _=((sumL Ln k+Ln k:Nat):Int)
    replace h2:sumL Ln k+Ln k≤(k+1) * most:=h2;rw [h1,IntWalk.wrap64_in _ (by omega)];omega
   clear hc;have HE:=lj (Bx.new wr wr.heap.size rfl #[.int .i64 (K k),.int .i64 (I k),.int .i64 (R k),.slice (A k) (Ln k) (Cp k)] 43);have HBe:=lj (HBk.out.alloc (by omega) (.cells #[.int .i64 (K k),.int .i64 (I k),.int .i64 (R k),.slice (A k) (Ln k) (Cp k)] 43))
   go_upto_region 5 with fail
   generalize wr.alloc _=w5 at *;have e3:=HE.out.cell 3 (.slice (A k) (Ln k) (Cp k)) rfl;clear hc0 hc1 hc2 hc3 HBk;go_wp2;exact ⟨⟨k+1,_,by omega,by go_num,rfl,HV2,HBe.out⟩,by simp [intOf]; omega⟩
  ·obtain rfl:k=n:=by omega
   have dk:decide ((k:Int)<(k:Int))=false:=by simp
   by_cases h120:k≤120
   ·have d1:decide ((k:Int)≤120)=true:=by simp; omega
    have hv:=HV.out h120;subst hv
    by_cases h6:sumL Ln k≤6000
    ·have d2:decide (((sumL Ln k:Nat):Int)≤6000)=true:=by simp; omega
     have HR:=lj (And.intro h120 h6);go_wp2;go_ret;exact ⟨true,rfl,fun _=>HR.out,by rw [HG.out]; exact HBk.out⟩
    ·have d2:decide (((sumL Ln k:Nat):Int)≤6000)=false:=by simp; omega
     go_wp2;go_ret;exact ⟨false,rfl,fun h=>(by cases h),by rw [HG.out]; exact HBk.out⟩
   ·have d1:decide ((k:Int)≤120)=false:=by simp; omega
    go_wp2;go_ret;exact ⟨false,rfl,fun h=>(by cases h),by rw [HG.out]; exact HBk.out⟩
end
end Go.Proofs.YtdpagmcickkbmaaGreatDoor
