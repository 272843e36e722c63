/- PSn PTe PTh PSv PSe PHs PEa PEb PNm PEn PTk PUs PCo -/
import Derived.Test.YtdpagmcickkbmaaGreatDoorZd25
import Derived.Test.YtdpagmcickkbmaaGreatDoorZd30
import Derived.Test.YtdpagmcickkbmaaGreatDoorZd42
namespace Go.Proofs.YtdpagmcickkbmaaGreatDoor
set_option maxRecDepth 100000
open Go.Lib renaming hid → lj
section
open Go.RowKit Go.Shelf
open Fr Bk
abbrev MV (m:M):Value:=.agg #[.int .i64 m.k,.int .i64 m.a,.int .i64 m.b,.string (str m.t)]
theorem BrIs.step {F F2:Fp} {g:Nat} {rs:List (Int×Int)} {w w1 w2:World} {b2:Br} {v v2:Value} {e:Ending} (hO:Only (Own1 F) w w1) (hF:∀ x,Own1 F2 x→Own1 F x∨w.heap.size≤x) (h:BGives F2 g rs w1 b2 v e w2) (hv:v2=v) :
  BGives F g rs w b2 v2 e w2:=by
 obtain ⟨F3,he,h1,h2,h3⟩:=h;refine ⟨F3,by rw [hv]; exact he,h1,fun x hx=>?_,hO.trans' h3 hF⟩
 rcases h2 x hx with h4 | h4
 ·exact hF x h4
 ·exact .inr (Nat.le_trans hO.size h4)
theorem notice_any (t:Bs) (w:World):Calls Tryz.prog 79 #[.string (str t)] w fun e w'=>e = .returned (MV (notice t))∧Only Nay w w':=by
 go_enter Tryz.func79,Tryz.ntmps79
 go_wp2;refine bodyPost_ret (v:=.agg #[.int .i64 10,.int .i64 0,.int .i64 0,.string (str t)]) (by simp [results,Tryz.results79,go_sem]) rfl ⟨rfl,?_⟩;exact nay_alloc w _
theorem itoa_any (k:Nat) (hk:k<100) (w:World):Calls Tryz.prog 80 #[.int .i64 (k:Nat)] w fun e w'=>e = .returned (.string (str (Dgs.dgs k)))∧w'=w:=by
 refine (Tryz.strconv_Itoa_small k hk w).mono ?_;rintro e w' ⟨rfl,rfl⟩;refine ⟨?_,rfl⟩;rw [← Dgs.dgs_lib];unfold str;rw [List.map_map]
 show _=Ending.returned (.string (⟨(List.map id (Lib.decDigits k)).toArray⟩:ByteArray))
 simp
theorem BrIs.cn {F:Fp} {g:Nat} {y:Ly} {w:World} {b:Br} (h:BrAt F g y w b) {k gc:Nat} (h1:1≤k) (h2:k≤16) (hgc:rrole y.rs k=(gc:Int)+1):∃ c,b.cs k=some c∧CnAt F k gc (y.cy k) b.cf.queue w c:=by
 rcases hc:b.cs k with _ | c
 ·have:=h.none h1 h2 hc
  omega
 ·obtain ⟨gc2,h3,h4⟩:=h.conn h1 h2 hc
  obtain rfl:gc2=gc:=by omega
  exact ⟨c,rfl,h4⟩
theorem BrAt.gives {F:Fp} {g:Nat} {y:Ly} {w:World} {b:Br} (h:BrAt F g y w b) (v:Value):BGives F g y.rs w b v (.returned v) w:=⟨F,rfl,⟨y,rfl,h⟩,fun _ h=>.inl h,Only.refl _ _⟩
theorem BrIs.quiet {F:Fp} {g:Nat} {rs:List (Int×Int)} {w w':World} {b:Br} (h:BrIs F g rs w b) (hO:Only Nay w w'):BrIs F g rs w' b:=by
 obtain ⟨y,rfl,h⟩:=h;exact ⟨y,rfl,h.quiet hO⟩
theorem BrIs.drew {F:Fp} {g:Nat} {rs:List (Int×Int)} {w:World} {b:Br} (h:BrIs F g rs w b):BrIs F g rs w.drew b:=h.quiet ((Only.refl Nay w).drew)
def SendOK (n:Nat):Prop:=∀ (m:M) (F:Fp) (g:Nat) (rs:List (Int×Int)) (w:World) (b:Br) (k gc:Nat),BrIs F g rs w b→FOk 16 b.fl→1≤k→k≤16→rrole rs k=(gc:Int)+1→opens b≤n+1→m.ok=true →
 Calls Tryz.prog 77 #[.pointer (some (at0 g)),.pointer (some (at0 gc)),MV m] w fun e w'=>BGives F g rs w (sendN n m b k) (.tuple #[]) e w'
def LeaveOK (n:Nat):Prop:=∀ (F:Fp) (g:Nat) (rs:List (Int×Int)) (w:World) (b:Br) (k gc:Nat),BrIs F g rs w b→FOk 16 b.fl→1≤k→k≤16→rrole rs k=(gc:Int)+1→opens b≤n+1 →
 Calls Tryz.prog 50 #[.pointer (some (at0 g)),.pointer (some (at0 gc))] w fun e w'=>BGives F g rs w (leaveN n b k) (.tuple #[]) e w'
def TellOK (n:Nat):Prop:=∀ (m:M) (F:Fp) (g:Nat) (rs:List (Int×Int)) (w:World) (b:Br),BrIs F g rs w b→FOk 16 b.fl→opens b≤n→m.ok=true →
 Calls Tryz.prog 52 #[.pointer (some (at0 g)),MV m] w fun e w'=>BGives F g rs w (tellN n m b) (.tuple #[]) e w'
theorem leave_ok {n:Nat} (ht:TellOK n):LeaveOK n:=by
 intro F g rs w b k gc hb hf h1 h2 hgc hop;obtain ⟨y,rfl,hb⟩:=hb;obtain ⟨c,hc,hcn⟩:=BrIs.cn hb h1 h2 hgc;have d1:=hcn.bx.cell 1 (.int .i64 (c.st:Nat)) rfl;have f1:=hcn.bx.free 1;have hb2:=hb.cnCell (c':={ c with st:=2 }) (cy:=y.cy k) h1 h2 hgc hcn 1 (.int .i64 2) rfl rfl rfl rfl rfl rfl rfl hcn.vw (fun e=>by simp at e)
 by_cases hst:c.st=1
 ·have hop2:opens (setFl (setc b k (some { c with st:=2 })) (fleave (setc b k (some { c with st:=2 })).fl k))≤n:=by
   have hlt:opens (setFl (setc b k (some { c with st:=2 })) (fleave (setc b k (some { c with st:=2 })).fl k))<opens b:=
    opens_lt (b':=(setFl (setc b k (some { c with st:=2 })) (fleave (setc b k (some { c with st:=2 })).fl k))) (fun j hj=>(setc_le b k c { c with st:=2 } hc (cle_shut c)).op j hj) (mem_ids.2 ⟨h1,h2⟩) (by unfold opn; rw [hc]; simpa using hst) (by show opn (setc b k (some { c with st:=2 })) k=false; rw [opn_setc,if_pos rfl]; rfl)
   omega
  have he:leaveN n b k=tellN n (left k) (setFl (setc b k (some { c with st:=2 })) (fleave (setc b k (some { c with st:=2 })).fl k)):=by
   unfold leaveN leaveW;rw [hc];simp [hst];rfl
  rw [he]
  have hok:(left k).ok=true:=by
   have hl:=Dgs.dgs_len k 2 (by omega);unfold M.ok left notice wLeft;rw [Ms.rt_iff];refine ⟨rfl,rfl,rfl,?_⟩;simp [Ms.tx];omega
  rw [hst] at d1
  have hwf:wf64 (k:Int):=by
   unfold wf64;simp [Lit.wf,IntKind.min,IntKind.max,IntKind.signed,IntKind.bits];omega
  have hO1:=(Bx.only gc w 1 (.int .i64 2)).mono (T:=Own1 F) fun x _ hx=>by subst hx; exact ⟨_,hcn.own⟩
  have hb3:=hb2.quiet ((Only.refl (fun _=>False) _).drew);have hO3:=hO1.drew;have HT:=lj (tleave_any hb3.toTab hf (by decide) k hwf);have d0:(w.setCell ⟨gc,1,none⟩ (.int .i64 2)).drew.cell? ⟨gc,0,none⟩=some (.int .i64 (k:Nat)):=(hcn.bx.set 1 (.int .i64 2)).cell 0 (.int .i64 (k:Nat)) rfl;have HD0:=lj d0;have hg0:gc<w.heap.size:=hcn.bx.room;have HG:=lj (show ∀ x,Own1 F x→x<w.heap.size from fun x hx=>hb.lt hx);have HN:=lj (show ¬ (F 1 gc∨F 3 gc) from fun e=>e.elim (hb.fit.ne hcn.own (by omega)) (hb.fit.ne hcn.own (by omega)));have HB3:=lj hb3;have HO3:=lj hO3;clear hb hb2 hb3 hcn he hO1 hO3 d0 hc;have hf2:FOk 16 (fleave (setc b k (some { c with st:=2 })).fl k):=hf.leave k;have HP:=lj (And.intro hop2 (And.intro hok hf2));clear hop2 hok hf2;generalize setc b k (some { c with st:=2 })=b1 at *
  go_enter Tryz.func50,Tryz.ntmps50
  go_wp2
  go_region_held (fun w'=>w'.cell? ⟨gc,0,none⟩=some (.int .i64 (k:Nat))) (first | exact HD0.out | exact HDb.out)
   (first | (go_at_call 78; refine HT.out.mono ?_; rintro e wb ⟨F2,rfl,ht2,hs2,ho2⟩; have HDb:=lj ((ho2.keepCell (p:=⟨gc,0,none⟩) HN.out HD0.out)); obtain ⟨F3,hb4,hs4⟩:=HB3.out.ofTab ht2 hs2 ho2; have HB4:=lj (And.intro hb4 hs4); have HOb:=lj (ho2.mono (T:=Own1 F) fun x _ hx=>hx.elim (fun h=>⟨_,h⟩) (fun h=>⟨_,h⟩)); clear ht2 hs2 ho2 hb4 hs4))
  rename_i hh
  clear hh HD0;have hdb:=HDb.out
  have hsz:¬ (9223372036854775807<(⟨#[108,101,102,116,32]⟩:ByteArray).size+(str (Dgs.dgs k)).size):=by
   have hl:=Dgs.dgs_len k 2 (by omega);rw [str_size]
   show ¬ (9223372036854775807<5+_)
   omega
  go_wp2_with fail
  refine (itoa_any k (by omega) _).mono ?_;rintro e w5 ⟨rfl,rfl⟩
  go_wp2_with fail
  have hstr:(⟨#[108,101,102,116,32]⟩:ByteArray) ++ str (Dgs.dgs k)=str (wLeft ++ Dgs.dgs k):=by rw [str_app]; rfl
  rw [hstr];clear hstr hsz;refine (notice_any _ _).mono ?_;rintro e w6 ⟨rfl,ho6⟩;have HB6:=lj (HB4.out.1.quiet ho6);have HO6:=lj (HO3.out.trans (HOb.out.trans (ho6.mono fun _ _ h=>h.elim)));have HS6:=lj (show ∀ x,Own1 F3 x→Own1 F x∨w.heap.size≤x from fun x hx=>(HB4.out.2 x hx).imp id fun h=>Nat.le_trans HO3.out.size h);clear ho6 hdb HDb HB4 HOb
  go_wp2_with fail
  refine (ht (left k) F3 g _ w6 _ HB6.out HP.out.2.2 HP.out.1 HP.out.2.1).mono ?_;rintro e w7 hg7;have HG7:=lj (BrIs.step HO6.out HS6.out hg7 (v2:=.tuple #[]) rfl);obtain ⟨F7,rfl,_⟩:=hg7;go_wp2;exact bodyPost_ret (v:=.tuple #[]) (by simp [results,Tryz.results50,go_sem]) rfl HG7.out
 ·have hd:((c.st:Int) != 1)=true:=by simp; omega
  have he:leaveN n b k=setc b k (some { c with st:=2 }):=by
   unfold leaveN leaveW;rw [hc];simp [hst]
  rw [he];have HR:=lj hb2;have HO:=lj ((Bx.only gc w 1 (.int .i64 2)).mono (T:=Own1 F) fun x _ hx=>by subst hx; exact ⟨_,hcn.own⟩);clear hb hb2 hcn he hf hop ht
  go_enter Tryz.func50,Tryz.ntmps50
  go_wp2;refine bodyPost_ret (v:=.tuple #[]) (by simp [results,Tryz.results50,go_sem]) rfl ?_;exact ⟨F,rfl,⟨ycy y k (y.cy k),rfl,HR.out⟩,fun _ h=>.inl h,HO.out⟩
theorem enc_len (m:M):(enc m).length=0+(6 * Ms.nu m.k+m.t.length)+5:=by
 unfold enc;rw [fr_len,Ms.body_len];omega
theorem put_nil (m:M) (hm:m.ok=true) (w:World):Calls Tryz.prog 86 #[.slice none 0 0,MV m] w fun e w' =>
  ∃ A c,e = .returned (.slice A (enc m).length c)∧Bytes w' w'.heap.size A (enc m).length (enc m)∧Only Nay w w':=by
 refine (mput_yes none 0 0 0 [] m.k m.a m.b m.t (enc m).length (enc m) (enc_len m).symm (by simp [enc]) w hm (Bytes.nil _) (Nat.zero_le _) (by decide)).mono ?_;rintro e w' ⟨A,c,rfl,ho,hb⟩;exact ⟨A,c,rfl,ho.bytes,only_of_below hb⟩
theorem send_ok {n:Nat} (hlv:LeaveOK n):SendOK n:=by
 intro m F g rs w b k gc hb hf h1 h2 hgc hop hm;obtain ⟨y,rfl,hb⟩:=hb;obtain ⟨c,hc,hcn⟩:=BrIs.cn hb h1 h2 hgc;have hx:Bx w.heap.size (w.alloc (.cells #[.int .i64 m.k,.int .i64 m.a,.int .i64 m.b,.string (str m.t)] 38)) #[.int .i64 m.k,.int .i64 m.a,.int .i64 m.b,.string (str m.t)]:=Bx.new w _ rfl _ _;have hO0:=nay_alloc w (.cells #[.int .i64 m.k,.int .i64 m.a,.int .i64 m.b,.string (str m.t)] 38);have hb0:=hb.quiet hO0;have d1:=(hcn.keep hO0 (fun _ _ _ _ h=>h)).bx.cell 1 (.int .i64 (c.st:Nat)) rfl;have hcn0:=hcn.keep hO0 (fun _ _ _ _ h=>h);have hlt:gc<w.heap.size:=hcn.bx.room
 by_cases hst:c.st=2
 ·have he:sendN n m b k=b:=by
   unfold sendN sendW;rw [hc];simp [hst]
  rw [he];rw [hst] at d1;have HB:=lj hb0;have HO:=lj (hO0.mono (T:=Own1 F) fun _ _ h=>h.elim);clear hb hb0 hcn hcn0 hx hlv he hO0 hf hop
  go_enter Tryz.func77,Tryz.ntmps77
  go_wp2;exact bodyPost_ret (v:=.tuple #[]) (by simp [results,Tryz.results77,go_sem]) rfl ⟨F,rfl,⟨y,rfl,HB.out⟩,fun _ h=>.inl h,HO.out⟩
 ·have hd:((c.st:Int) == 2)=false:=by simp; omega
  obtain ⟨ln,hln⟩:∃ ln,(enc m).length=ln:=⟨_,rfl⟩
  have HPm:=lj (put_nil m hm);have HX:=lj hx;have HC:=lj hcn0;have HB:=lj hb0;have HO:=lj hO0;have HH:=lj (And.intro hgc (And.intro hf hop));have HLV:=lj hlv;have HN:=lj (show ∀ x,F (10 * k+3) x→x<w.heap.size from fun x hx=>hb.fit.lt _ _ hx);have HNG:=lj (show ∀ x,F (10 * k+3) x→x≠gc from fun x hx e=>hb.fit.ne hcn.own (by omega) (e ▸ hx))
  have hmk:∀ {x:Nat},x<w.heap.size→¬ x=w.heap.size:=fun h e=>by omega
  rw [hln] at HPm;have HC0:=lj (hcn.keep (S:=Nay) (w':=w) (Only.refl _ _) (fun _ _ _ _ h=>h));clear hb hb0 hcn hcn0 hx hlv hO0 hgc hf hop hm
  by_cases hfit:c.out.length+ln≤b.cf.queue
  ·have he:sendN n m b k=setc b k (some { c with out:=c.out ++ enc m }):=by
    unfold sendN sendW;rw [hc];simp [hst,hln,hfit]
   rw [he];clear he;have HNX:=lj (show ¬ F (10 * k+3) w.heap.size from fun e=>by have:=HN.out _ e; omega);have HNC:=lj (show ¬ F (10 * k+3) gc from fun e=>HNG.out _ e rfl)
   go_enter Tryz.func77,Tryz.ntmps77
   go_upto_region 1 with fail
   generalize w.alloc (.cells #[.int .i64 m.k,.int .i64 m.a,.int .i64 m.b,.string (str m.t)] 38)=w0 at *;go_wp2
   go_region_held (fun w'=>w'.cell? ⟨gc,5,none⟩=some (.pointer (some (at0 (y.cy k).gq)))∧w'.cell? ⟨w.heap.size,0,none⟩=some (.int .i64 m.k)∧w'.cell? ⟨w.heap.size,1,none⟩=some (.int .i64 m.a)∧w'.cell? ⟨w.heap.size,2,none⟩=some (.int .i64 m.b)∧w'.cell? ⟨w.heap.size,3,none⟩=some (.string (str m.t)))
    (first | exact ⟨HC.out.bx.cell 5 _ rfl,HX.out.cell 0 _ rfl,HX.out.cell 1 _ rfl,HX.out.cell 2 _ rfl,HX.out.cell 3 _ rfl⟩ | exact ⟨HCa.out.bx.cell 5 _ rfl,HXa.out.cell 0 _ rfl,HXa.out.cell 1 _ rfl,HXa.out.cell 2 _ rfl,HXa.out.cell 3 _ rfl⟩ | exact ⟨HCb.out,HXb.out.cell 0 _ rfl,HXb.out.cell 1 _ rfl,HXb.out.cell 2 _ rfl,HXb.out.cell 3 _ rfl⟩)
    (first
     | (go_at_call 86; refine (HPm.out _).mono ?_; rintro e wa ⟨A,cp,rfl,hby,hoa⟩; have hoa:Only Nay w0 wa:=((Only.refl Nay w0).drew).trans hoa; have HBy:=lj hby; have HOa:=lj hoa; have HCa:=lj (HC.out.keep hoa (fun _ _ _ _ h=>h)); have HXa:=lj (HX.out.keep hoa (fun h=>h)); have HBa:=lj (HB.out.quiet hoa); clear hby hoa)
     | (go_at_call 85; refine (q_put_yes HCa.out.qu cp HBy.out (by omega)).mono ?_; rintro e wb ⟨G2,rfl,hq2,hs2,ho2⟩; have HXb:=lj (HXa.out.keep ho2 HNX.out); have HCb:=lj (ho2.keepCell (p:=⟨gc,5,none⟩) HNC.out (HCa.out.bx.cell 5 _ rfl)); have HBb:=lj (HBa.out.cnQueue h1 h2 HH.out.1 HCa.out hq2 hs2 ho2); have HS:=lj hs2; have HOb:=lj (ho2.mono (T:=Own1 F) fun x _ hx=>⟨_,hx⟩); clear hq2 hs2 ho2))
   rename_i hh
   clear hh;go_wp2;refine bodyPost_ret (v:=.tuple #[]) (by simp [results,Tryz.results77,go_sem]) rfl ⟨_,rfl,⟨y,rfl,HBb.out⟩,?_,?_⟩
   ·exact fun x hx=>(upF_own HS.out x hx).imp id fun h=>Nat.le_trans (HO.out.trans HOa.out).size h
   ·exact ((HO.out.trans HOa.out).mono fun _ _ h=>h.elim).trans HOb.out
  ·have he:sendN n m b k=leaveN n b k:=by
    unfold sendN sendW;rw [hc];simp [hst,hln,hfit]
   rw [he];clear he
   go_enter Tryz.func77,Tryz.ntmps77
   go_upto_region 1 with fail
   generalize w.alloc (.cells #[.int .i64 m.k,.int .i64 m.a,.int .i64 m.b,.string (str m.t)] 38)=w0 at *;go_wp2
   go_region_held (fun w'=>w'.cell? ⟨gc,5,none⟩=some (.pointer (some (at0 (y.cy k).gq)))∧w'.cell? ⟨w.heap.size,0,none⟩=some (.int .i64 m.k)∧w'.cell? ⟨w.heap.size,1,none⟩=some (.int .i64 m.a)∧w'.cell? ⟨w.heap.size,2,none⟩=some (.int .i64 m.b)∧w'.cell? ⟨w.heap.size,3,none⟩=some (.string (str m.t)))
    (first | exact ⟨HC.out.bx.cell 5 _ rfl,HX.out.cell 0 _ rfl,HX.out.cell 1 _ rfl,HX.out.cell 2 _ rfl,HX.out.cell 3 _ rfl⟩ | exact ⟨HCa.out.bx.cell 5 _ rfl,HXa.out.cell 0 _ rfl,HXa.out.cell 1 _ rfl,HXa.out.cell 2 _ rfl,HXa.out.cell 3 _ rfl⟩ | exact ⟨HCb.out,HXb.out.cell 0 _ rfl,HXb.out.cell 1 _ rfl,HXb.out.cell 2 _ rfl,HXb.out.cell 3 _ rfl⟩)
    (first
     | (go_at_call 86; refine (HPm.out _).mono ?_; rintro e wa ⟨A,cp,rfl,hby,hoa⟩; have hoa:Only Nay w0 wa:=((Only.refl Nay w0).drew).trans hoa; have HBy:=lj hby; have HOa:=lj hoa; have HCa:=lj (HC.out.keep hoa (fun _ _ _ _ h=>h)); have HXa:=lj (HX.out.keep hoa (fun h=>h)); have HBa:=lj (HB.out.quiet hoa); clear hby hoa)
     | (go_at_call 85; refine (q_put_no HCa.out.qu A ln cp (by omega)).mono ?_; rintro e wb ⟨rfl,kd,rfl⟩; have HXb:=lj (HXa.out.drewN kd); have HCb:=lj ((HCa.out.keep ((Only.refl Nay wa).drewN kd) (fun _ _ _ _ h=>h)).bx.cell 5 _ rfl); have HBb:=lj (HBa.out.drewN kd)))
   rename_i hh
   clear hh
   go_wp2_with fail
   refine (HLV.out F g _ _ b k gc ⟨y,rfl,HBb.out⟩ HH.out.2.1 h1 h2 HH.out.1 HH.out.2.2).mono ?_;rintro e w7 hg7;have HG7:=lj (BrIs.step (((HO.out.trans HOa.out).mono fun _ _ h=>h.elim).drewN kd) (fun x hx=>.inl hx) hg7 (v2:=.tuple #[]) rfl);obtain ⟨F7,rfl,_⟩:=hg7;go_wp2;exact bodyPost_ret (v:=.tuple #[]) (by simp [results,Tryz.results77,go_sem]) rfl HG7.out
end
section
open Go.RowKit Go.Shelf
open Fr Bk
attribute [local go_sem] Oper.semAt_some
theorem BrIs.mine {F:Fp} {g B N:Nat} {rs:List (Int×Int)} {w w':World} {b:Br} (h:BrIs F g rs w b) (hO:Only (Mine B N) w w') (hF:∀ x,Own1 F x→x<B∨N≤x) (hg:g<B):BrIs F g rs w' b:=by
 obtain ⟨y,rfl,h⟩:=h;refine ⟨y,rfl,h.keep hO (fun x hx hs=>?_) fun x hs _ w0 _ _ h3=>?_⟩
 ·have h1:=hs.1
  have h2:=hs.2
  rcases hF x hx with h | h <;> omega
 ·have:=h3 1 g h.gow
  have h1:=hs.1;omega
theorem wf_id {k:Nat} (h:k≤100):wf64 (k:Int):=by
 unfold wf64;simp [Lit.wf,IntKind.min,IntKind.max,IntKind.signed,IntKind.bits];omega
theorem BrAt.look {F:Fp} {g:Nat} {y:Ly} {w:World} {b:Br} (h:BrAt F g y w b) {id:Int} (hw:wf64 id) :
  (Instr.lookup 80 (.map y.cm) (.int .i64 id) false).run Tryz.prog w = .ok (.pointer (ptrOf (rrole y.rs id))) w:=by
 rcases h.map with ⟨h1,h2⟩ | ⟨bm,h1,h2,_⟩
 ·rw [h1,h2,Pm.look_nil w hw]
  rfl
 ·rw [h1]
  exact h2.look hw
theorem BrIs.seeU {F:Fp} {g B N bu:Nat} {rs:List (Int×Int)} {w:World} {b:Br} (h:BrIs F g rs w b) (hu:w.cell? ⟨bu,0,none⟩=some (.pointer (some (at0 g)))) {j:Nat} (hj:j<16) (hF:∀ x,Own1 F x→x<B∨N≤x) :
  (opn b (j+1)=false∧SeeUsers bu g B N j w none)∨(opn b (j+1)=true∧∃ gc:Nat,rrole rs ((j+1:Nat):Int)=(gc:Int)+1∧SeeUsers bu g B N j w (some (.pointer (some (at0 gc))))):=by
 obtain ⟨y,rfl,h⟩:=h;have hc:=h.row.cell 24 (.map y.cm) rfl;have hl:=h.look (wf_id (k:=j+1) (by omega))
 have hlk:(Instr.lookup 80 (.map y.cm) (.int .i64 ((j:Int)+1)) false).run Tryz.prog w = .ok (.pointer (ptrOf (rrole y.rs ((j+1:Nat):Int)))) w:=by
  rw [show ((j:Int)+1)=((j+1:Nat):Int) by omega]; exact hl
 rcases hk:b.cs (j+1) with _ | c
 ·have h0:=h.none (by omega) (by omega) hk
  refine .inl ⟨by unfold opn; rw [hk],y.cm,_,hu,hc,hlk,?_⟩;rw [h0];rfl
 ·obtain ⟨gc,hgc,hcn⟩:=h.conn (by omega) (by omega) hk
  rw [hgc,ptrOf_suc] at hlk
  have hm:¬ Mine B N gc:=fun e=>by
   have h1:=e.1;have h2:=e.2
   rcases hF gc ⟨_,hcn.own⟩ with h | h <;> omega
  have hst:=hcn.bx.cell 1 (.int .i64 (c.st:Nat)) rfl
  by_cases ho:c.st=1
  ·refine .inr ⟨by unfold opn; rw [hk]; simpa using ho,gc,hgc,y.cm,_,hu,hc,hlk,gc,(c.st:Nat),rfl,hm,hst,fun _=>rfl,fun hne=>absurd (by omega) hne⟩
  ·refine .inl ⟨by unfold opn; rw [hk]; simpa using ho,y.cm,_,hu,hc,hlk,gc,(c.st:Nat),rfl,hm,hst,fun he=>absurd (by omega) ho,fun _=>rfl⟩
structure TJ (f:Br→Nat→Br) (F:Fp) (g:Nat) (rs:List (Int×Int)) (w:World) (b:Br) (m:M) (B N j:Nat) (W:World):Prop where
 is:∃ F',BrIs F' g rs W (goes f b (ids.take j))∧(∀ x,Own1 F' x→Own1 F x∨N≤x)
 only:Only (Own1 F) w W
 bb:Bx w.heap.size W #[.pointer (some (at0 g))]
 bm:Bx (w.heap.size+1) W #[.int .i64 m.k,.int .i64 m.a,.int .i64 m.b,.string (str m.t)]
 bu:Bx (w.heap.size+2) W #[.pointer (some (at0 g))]
 nB:B≤N
 nS:N≤W.heap.size
theorem TJ.mine {f:Br→Nat→Br} {F:Fp} {g B N j:Nat} {rs:List (Int×Int)} {w W W':World} {b:Br} {m:M} (h:TJ f F g rs w b m B N j W) (hO:Only (Mine B N) W W') (hB:w.heap.size+3≤B) (hF:∀ x,Own1 F x→x<w.heap.size) (hg:Own1 F g) :
  TJ f F g rs w b m B N j W':=by
 obtain ⟨F',h1,h2⟩:=h.is
 have hnm:∀ {x:Nat},x<B→¬ Mine B N x:=fun hx e=>by have:=e.1; omega
 refine ⟨⟨F',h1.mine hO (fun x hx=>?_) (by have:=hF g hg; omega),h2⟩,?_,h.bb.keep hO (hnm (by omega)),h.bm.keep hO (hnm (by omega)),h.bu.keep hO (hnm (by omega)),h.nB,Nat.le_trans h.nS hO.size⟩
 ·rcases h2 x hx with h3 | h3
  ·have:=hF x h3; omega
  ·exact .inr h3
 ·exact h.only.trans' hO fun x hx=>.inr (by have:=hx.1; omega)
theorem tell_loop (m:M) (f:Br→Nat→Br) (F:Fp) (g:Nat) (rs:List (Int×Int)) (w:World) (b:Br) (hb:BrIs F g rs w b) (hfok:FOk 16 b.fl) (hle:∀ b k,Le (f b k) b) (hff:∀ b k,FOk 16 b.fl→FOk 16 (f b k).fl)
  (hs:∀ (F':Fp) (W:World) (b':Br) (k gc:Nat),Le b' b→FOk 16 b'.fl→opn b' k=true→BrIs F' g rs W b'→1≤k→k≤16→rrole rs k=(gc:Int)+1 →
   Calls Tryz.prog 77 #[.pointer (some (at0 g)),.pointer (some (at0 gc)),MV m] W fun e w'=>BGives F' g rs W (f b' k) (.tuple #[]) e w') :
  Calls Tryz.prog 52 #[.pointer (some (at0 g)),MV m] w fun e w'=>BGives F g rs w (goes f b ids) (.tuple #[]) e w':=by
 have hOwn:∀ x,Own1 F x→x<w.heap.size:=by
  obtain ⟨y,rfl,h⟩:=hb
  exact fun x hx=>h.lt hx
 have hgF:Own1 F g:=by
  obtain ⟨y,rfl,h⟩:=hb;exact ⟨_,h.gow⟩
 refine (callsIn_wide (n:=0)).1 ?_;refine callsIn_of_wp_marks Tryz.func52 rfl trivial ?_ rfl;simp only [Tryz.ntmps52,List.size_toArray,List.length_cons,List.length_nil,Nat.reduceAdd,Nat.reduceSub,Array.replicate_succ,Array.replicate_zero,List.push_toArray,List.append_toArray,List.nil_append,List.cons_append]
 gi_wp2
 refine ⟨trivial,rfl,?_⟩;refine (callsIn_wide.2 (busers_any g _)).mono ?_;rintro e w' ⟨rfl,rfl⟩;have hb1:=(Bx.new w _ rfl #[.pointer (some (at0 g))] 45);have hb2:=(Bx.new (w.alloc (.cells #[.pointer (some (at0 g))] 45)) (w.heap.size+1) (by simp) #[.int .i64 m.k,.int .i64 m.a,.int .i64 m.b,.string (str m.t)] 38);have hb3:=(Bx.new ((w.alloc (.cells #[.pointer (some (at0 g))] 45)).alloc (.cells #[.int .i64 m.k,.int .i64 m.a,.int .i64 m.b,.string (str m.t)] 38)) (w.heap.size+2) (by simp) #[.pointer (some (at0 g))] 45);have hO:Only Nay w (((w.alloc (.cells #[.pointer (some (at0 g))] 45)).alloc (.cells #[.int .i64 m.k,.int .i64 m.a,.int .i64 m.b,.string (str m.t)] 38)).alloc (.cells #[.pointer (some (at0 g))] 45)):=(((Only.refl Nay w).alloc _).alloc _).alloc _
 have hsz:(((w.alloc (.cells #[.pointer (some (at0 g))] 45)).alloc (.cells #[.int .i64 m.k,.int .i64 m.a,.int .i64 m.b,.string (str m.t)] 38)).alloc (.cells #[.pointer (some (at0 g))] 45)).heap.size=w.heap.size+3:=by simp
 replace hb1:=(hb1.keep (nay_alloc _ (.cells #[.int .i64 m.k,.int .i64 m.a,.int .i64 m.b,.string (str m.t)] 38)) (fun h=>h)).keep (nay_alloc _ (.cells #[.pointer (some (at0 g))] 45)) (fun h=>h);replace hb2:=hb2.keep (nay_alloc _ (.cells #[.pointer (some (at0 g))] 45)) (fun h=>h);rw [World.size_alloc,World.size_alloc]
 gi_wp2
 generalize ((w.alloc (.cells #[.pointer (some (at0 g))] 45)).alloc (.cells #[.int .i64 m.k,.int .i64 m.a,.int .i64 m.b,.string (str m.t)] 38)).alloc (.cells #[.pointer (some (at0 g))] 45)=w3 at *
 have hJ0:∀ W1,Only Nay w3 W1→TJ f F g rs w b m w3.heap.size W1.heap.size 0 W1:=fun W1 hi =>
  ⟨⟨F,(hb.quiet hO).quiet hi,fun x hx=>.inl hx⟩,(hO.trans hi).mono fun _ _ h=>h.elim,hb1.keep hi (fun h=>h),hb2.keep hi (fun h=>h),hb3.keep hi (fun h=>h),hi.size,Nat.le_refl _⟩
 clear hb1 hb2 hb3 hb
 refine rf_law (gf:=82) (lb:=#[.pointer (some ⟨w.heap.size+1+1,0,none⟩)]) (See:=SeeUsers (w.heap.size+2) g w3.heap.size) rfl (enters_of Tryz.func82 (by kernel_rfl) rfl)
  (fun W3 _ hs=>users1_ok _ g _ W3 hs) rfl (Own1 F) (TJ f F g rs w b m w3.heap.size) (fun _ _ _=>False)
  (fun N k A B h hi=>h.mine hi (by omega) hOwn hgF) (fun _ _ _ _ h _=>h) (fun x hx=>by have:=hOwn x hx; omega) hJ0
  (fun v=>{ tmps:=#[.pointer (some (at0 g)),MV m,.pointer (some ⟨w.heap.size,0,none⟩),.pointer (some ⟨w.heap.size+1,0,none⟩),v,.pointer (some (at0 g)),.func (.func 82) #[] #[.pointer (some ⟨w.heap.size+1+1,0,none⟩)],v,undef,undef,undef,undef],defers:=[] })
  ?assign ?round ?done ?stop
 case assign =>
  intro l2 v W3 K hK
  gi_wp2
  exact hK
 case round =>
  intro N k W hN hk hj;obtain ⟨F',hF1,hF2⟩:=hj.is
  have hF3:∀ x,Own1 F' x→x<w3.heap.size∨N≤x:=fun x hx=>(hF2 x hx).imp (fun h=>by have:=hOwn x h; omega) id
  rcases hF1.seeU (hj.bu.cell 0 _ rfl) hk hF3 with ⟨h1,h2⟩ | ⟨h1,gc,hgc,h2⟩
  ·refine .inl ⟨h2,⟨⟨F',?_,hF2⟩,hj.only,hj.bb,hj.bm,hj.bu,hj.nB,hj.nS⟩⟩
   rw [goes_take f b k hk,h1];exact hF1
  ·refine .inr ⟨_,h2,fun l W1 hi=>?_⟩
   have hj1:=hj.mine hi (by omega) hOwn hgF;have hF4:=hF1.mine hi hF3 (by have:=hOwn g hgF; omega);have hcall:=lj (hs F' W1 (goes f b (ids.take k)) (k+1) gc (goes_le hle b _) (goes_fok hff b _ hfok) h1 hF4 (by omega) (by omega) hgc);have c0:=hj1.bb.cell 0 _ rfl;have m0:=hj1.bm.cell 0 _ rfl;have m1:=hj1.bm.cell 1 _ rfl;have m2:=hj1.bm.cell 2 _ rfl;have m3:=hj1.bm.cell 3 _ rfl;have HJ:=lj hj1;have HF:=lj (And.intro hF2 (And.intro h1 hF3));clear hj hj1 hF1 hF4 h2 hs hJ0 hF2 hF3
   gi_wp2
   refine ⟨trivial,rfl,?_⟩;refine (CallsIn.inRound l (callsIn_wide.2 hcall.out)).mono ?_;rintro e W2 ⟨F2,rfl,hB2,hS2,hO2⟩
   gi_wp2
   have hno:∀ {x:Nat},w.heap.size≤x→x<N→¬ Own1 F' x:=fun h3 h4 h5=>by
    rcases HF.out.1 _ h5 with h6 | h6
    ·have:=hOwn _ h6; omega
    ·omega
   refine ⟨hO2.mono fun x _ hx=>HF.out.1 x hx,⟨⟨F2,?_,fun x hx=>?_⟩,?_,HJ.out.bb.keep hO2 (hno (by omega) (by omega)),HJ.out.bm.keep hO2 (hno (by omega) (by omega)),HJ.out.bu.keep hO2 (hno (by omega) (by omega)),HJ.out.nB,Nat.le_trans HJ.out.nS hO2.size⟩⟩
   ·rw [goes_take f b k hk,HF.out.2.1]
    exact hB2
   ·rcases hS2 x hx with h | h
    ·exact HF.out.1 x h
    ·exact .inr (Nat.le_trans HJ.out.nS h)
   ·exact HJ.out.only.trans' hO2 fun x hx=>(HF.out.1 x hx).imp id fun h=>by omega
 case done =>
  rintro D N W3 hD hN hj hK
  gi_wp2
  refine ⟨by simp,.inl ⟨_,_,rfl,run_takeDeferred hK,?_⟩⟩;have hO9:Only (Mine w3.heap.size N) W3 (W3.putObj D (.deferred none)):=only_putObj _ ⟨hD,by omega⟩;have hj9:=hj.mine hO9 (by omega) hOwn hgF;obtain ⟨F',h1,h2⟩:=hj9.is;refine ⟨_,results_none rfl _ _ _,F',rfl,h1,fun x hx=>(h2 x hx).imp id fun h=>by omega,hj9.only⟩
 case stop =>
  rintro D N c W3 hD hN h hK;exact h.elim
theorem tell_ok:∀ n,TellOK n
  | 0=>by
    intro m F g rs w b hb hf hop hm;have h0:=opens_zero (Nat.le_zero.1 hop)
    have:=tell_loop m (sendN 0 m) F g rs w b hb hf (sendN_le 0 m) (sendN_fok 0 m) (fun F' W b' k gc hl _ ho _ h1 h2 _=>by
      have:=h0 k (mem_ids.2 ⟨h1,h2⟩);rw [hl.op k ho] at this
      cases this)
    rw [goes_none b ids h0] at this;exact this
  | n+1=>by
    intro m F g rs w b hb hf hop hm
    exact tell_loop m (sendN n m) F g rs w b hb hf (sendN_le n m) (sendN_fok n m) fun F' W b' k gc hl hf' _ hb' h1 h2 hgc =>
      send_ok (leave_ok (tell_ok n)) m F' g rs W b' k gc hb' hf' h1 h2 hgc (Nat.le_trans (opens_le hl.op) hop) hm
theorem bleave_any {F:Fp} {g:Nat} {rs:List (Int×Int)} {w:World} {b:Br} {k gc:Nat} (hb:BrIs F g rs w b) (hf:FOk 16 b.fl) (h1:1≤k) (h2:k≤16) (hgc:rrole rs k=(gc:Int)+1) :
  Calls Tryz.prog 50 #[.pointer (some (at0 g)),.pointer (some (at0 gc))] w fun e w'=>BGives F g rs w (leave b k) (.tuple #[]) e w':=
 leave_ok (tell_ok 16) F g rs w b k gc hb hf h1 h2 hgc (Nat.le_trans (opens_max b) (by decide))
theorem bsend_any {F:Fp} {g:Nat} {rs:List (Int×Int)} {w:World} {b:Br} {k gc:Nat} (m:M) (hb:BrIs F g rs w b) (hf:FOk 16 b.fl) (h1:1≤k) (h2:k≤16) (hgc:rrole rs k=(gc:Int)+1) (hm:m.ok=true) :
  Calls Tryz.prog 77 #[.pointer (some (at0 g)),.pointer (some (at0 gc)),MV m] w fun e w'=>BGives F g rs w (send m b k) (.tuple #[]) e w':=
 send_ok (leave_ok (tell_ok 16)) m F g rs w b k gc hb hf h1 h2 hgc (Nat.le_trans (opens_max b) (by decide)) hm
theorem btell_any {F:Fp} {g:Nat} {rs:List (Int×Int)} {w:World} {b:Br} (m:M) (hb:BrIs F g rs w b) (hf:FOk 16 b.fl) (hm:m.ok=true) :
  Calls Tryz.prog 52 #[.pointer (some (at0 g)),MV m] w fun e w'=>BGives F g rs w (tell m b) (.tuple #[]) e w':=
 tell_ok 17 m F g rs w b hb hf (Nat.le_trans (opens_max b) (by decide)) hm
theorem bshut_any {F:Fp} {g:Nat} {rs:List (Int×Int)} {w:World} {b:Br} {k gc:Nat} (why:Nat) (hb:BrIs F g rs w b) (hf:FOk 16 b.fl) (h1:1≤k) (h2:k≤16) (hgc:rrole rs k=(gc:Int)+1) (hw:why≤100) :
  Calls Tryz.prog 49 #[.pointer (some (at0 g)),.pointer (some (at0 gc)),.int .i64 (why:Nat)] w fun e w'=>BGives F g rs w (shut b k why) (.tuple #[]) e w':=by
 have hm:(closed why).ok=true:=by
  unfold M.ok closed;rw [Ms.rt_iff];refine ⟨rfl,?_,rfl,Nat.zero_le _⟩
  show Ms.okN (why:Int) true=true
  unfold Ms.okN;simp;omega
 have HS:=lj (bsend_any (closed why) hb hf h1 h2 hgc hm);have HL:=lj (fun (F':Fp) (W:World) (hb':BrIs F' g rs W (send (closed why) b k))=>bleave_any hb' (sendN_fok 16 (closed why) b k hf) h1 h2 hgc);clear hb hm
 go_enter Tryz.func49,Tryz.ntmps49
 go_wp2_with fail
 refine HS.out.mono ?_;rintro e w1 ⟨F1,rfl,hb1,hs1,ho1⟩;have HO:=lj (And.intro hs1 ho1);have HC:=lj (HL.out F1 w1 hb1);clear hb1 hs1 ho1
 go_wp2_with fail
 refine HC.out.mono ?_;rintro e w2 hg;have HG:=lj (BrIs.step HO.out.2 HO.out.1 hg (v2:=.tuple #[]) rfl);obtain ⟨F7,rfl,_⟩:=hg;go_wp2;exact bodyPost_ret (v:=.tuple #[]) (by simp [results,Tryz.results49,go_sem]) rfl HG.out
end
section
open Go.RowKit Go.Shelf
open Fr Bk
structure Acc (F:Fp) (g:Nat) (rs:List (Int×Int)) (w:World) (W:World) (b:Br):Prop where
 is:∃ F',BrIs F' g rs W b∧(∀ x,Own1 F' x→Own1 F x∨w.heap.size≤x)
 only:Only (Own1 F) w W
 fok:FOk 16 b.fl
 rin:RIn b.fl
theorem Acc.done {F:Fp} {g:Nat} {rs:List (Int×Int)} {w W:World} {b:Br} (h:Acc F g rs w W b) (v:Value):BGives F g rs w b v (.returned v) W:=by
 obtain ⟨F',h1,h2⟩:=h.is;exact ⟨F',rfl,h1,h2,h.only⟩
theorem Acc.start {F:Fp} {g:Nat} {rs:List (Int×Int)} {w:World} {b:Br} (h:BrIs F g rs w b) (hf:FOk 16 b.fl) (hr:RIn b.fl):Acc F g rs w w b:=⟨⟨F,h,fun _ h=>.inl h⟩,Only.refl _ _,hf,hr⟩
theorem Acc.quiet {F:Fp} {g:Nat} {rs:List (Int×Int)} {w W W':World} {b:Br} (h:Acc F g rs w W b) (hO:Only Nay W W'):Acc F g rs w W' b:=by
 obtain ⟨F',h1,h2⟩:=h.is;exact ⟨⟨F',h1.quiet hO,h2⟩,h.only.trans (hO.mono fun _ _ h=>h.elim),h.fok,h.rin⟩
theorem floor_ok {h:Int} (h0:0≤h) (h1:h≤16):(mfloor h).ok=true:=by
 unfold M.ok mfloor;rw [Ms.rt_iff];refine ⟨rfl,?_,rfl,Nat.zero_le _⟩
 show Ms.okN h true=true
 unfold Ms.okN;simp;omega
theorem bholder_any {F:Fp} {g:Nat} {rs:List (Int×Int)} {w:World} {b:Br} (hb:BrIs F g rs w b) (hf:FOk 16 b.fl) (hr:RIn b.fl) :
    Calls Tryz.prog 54 #[.pointer (some (at0 g))] w fun e w'=>BGives F g rs w (holder b) (.tuple #[]) e w':=by
  have hA:=lj (Acc.start hb hf hr);have hgF:=lj (show Own1 F g by obtain ⟨y,rfl,h⟩:=hb; exact ⟨1,h.gow⟩);clear hb hf hr
  go_enter Tryz.func54,Tryz.ntmps54
  go_wp2
  refine wp_scope_back 0 (fun a' w'=>(∃ u1 u2 u3 u4 u5 u6 u7 u8 u9 u10 u11 u12 u13 u14 u15 u16 u17 u18 u19 u20:Value,a'={ tmps:=#[.pointer (some (at0 g)),u1,u2,u3,u4,u5,u6,u7,u8,u9,u10,u11,u12,u13,u14,u15,u16,u17,u18,u19,u20],defers:=[] })∧∃ n b',Acc F g rs w w' b'∧holder b'=holder b∧mu b'=n)
    (fun _ w'=>leastN fun n=>∃ b',Acc F g rs w w' b'∧holder b'=holder b∧mu b'=n) rfl ?first ?pass
  case first =>
    intro hp;go_wp2
    go_step3
    rename_i hK
    refine hK _ _ (hp _ _ ⟨?_,⟨mu b,b,hA.out,rfl,rfl⟩⟩)
    repeat apply Exists.intro
    rfl
  case pass =>
    rintro a' w1 ⟨⟨u1,u2,u3,u4,u5,u6,u7,u8,u9,u10,u11,u12,u13,u14,u15,u16,u17,u18,u19,u20,rfl⟩,hJ⟩;obtain ⟨b1,hA1,hh1,hmu⟩:=leastN_is hJ;clear hJ hA;obtain ⟨F1,⟨y,rfl,hb1⟩,hs1⟩:=hA1.is;have HA:=lj hA1;have HB:=lj hb1;have HT:=lj (thold_any hb1.toTab hA1.fok);have hin:=hold_in hA1.fok hA1.rin;have hs:=lj hs1;clear hA1 hb1 hs1
    obtain ⟨hd,hhd⟩:∃ hd,fhold b1.fl=hd:=⟨_,rfl⟩
    by_cases heq:hd=b1.told
    · have c23:∀ k,(w1.drewN k).cell? ⟨g,23,none⟩=some (.int .i64 b1.told):=fun k=>(HB.out.drewN k).row.cell 23 (.int .i64 b1.told) rfl
      have hres:holder b=b1:=by rw [← hh1]; exact holder_same (hhd.trans heq)
      have HRES:=lj hres;rw [hhd,heq] at HT;clear hmu hin hhd heq hh1 hres
      go_wp2_with fail
      refine HT.out.mono ?_;rintro e w2 ⟨rfl,k,rfl⟩;have c23:=c23 k;have HA2:=lj (HA.out.quiet ((Only.refl Nay w1).drewN k));clear HA HB HT;go_wp2;simp only [Exit.jump];exact bodyPost_ret (v:=.tuple #[]) (by simp [results,Tryz.results54,go_sem]) rfl (by rw [HRES.out]; exact HA2.out.done _)
    · have hne:fhold b1.fl≠b1.told:=by rw [hhd]; exact heq
      have hst:holder b=holder (tell (mfloor hd) { b1 with told:=hd }):=by rw [← hh1,holder_step hne,← hhd]; rfl
      have hms:mu (tell (mfloor hd) { b1 with told:=hd })<leastN (fun n=>∃ b',Acc F g y.rs w w1 b'∧holder b'=holder b∧mu b'=n):=by rw [← hmu,← hhd]; exact mu_step _ hne
      have HM:=lj (And.intro hst hms)
      have hde:(hd == b1.told)=false:=by simpa using heq
      rw [hhd] at HT hin
      have c23:∀ k,(w1.drewN k).cell? ⟨g,23,none⟩=some (.int .i64 b1.told):=fun k=>(HB.out.drewN k).row.cell 23 (.int .i64 b1.told) rfl
      have f23:∀ k,(w1.drewN k).frozen? ⟨g,23,none⟩=false:=fun k=>(HB.out.drewN k).row.free 23
      have HOK:=lj (floor_ok hin.1 hin.2);clear hst hms hmu hh1 hne hhd hin
      go_wp2_with fail
      refine HT.out.mono ?_;rintro e w2 ⟨rfl,k,rfl⟩;have c23:=c23 k;have f23:=f23 k;have HA2:=lj (HA.out.quiet ((Only.refl Nay w1).drewN k));have HB2:=lj ((HB.out.drewN k).setTold hd);have hg1:g<w1.heap.size:=HB.out.row.room;have HO2:=lj (HA2.out.only.setCell (p:=⟨g,23,none⟩) hgF.out (.int .i64 hd));clear HA HB HT
      go_wp2_with fail
      refine (btell_any (mfloor hd) ⟨y,rfl,HB2.out⟩ HA2.out.fok HOK.out).mono ?_;rintro e w4 ⟨F4,rfl,hb4,hs4,ho4⟩;have hle:=tellN_le 17 (mfloor hd) { b1 with told:=hd }
      have HA4:=lj (show Acc F g y.rs w w4 (tell (mfloor hd) { b1 with told:=hd }) from
        ⟨⟨F4,hb4,fun x hx=>by
          rcases hs4 x hx with h | h
          · exact hs.out x h
          · exact .inr (Nat.le_trans HO2.out.size h)⟩,HO2.out.trans' ho4 hs.out,tellN_fok 17 _ _ HA2.out.fok,hle.rin HA2.out.rin⟩)
      clear hb4 hs4 ho4 hle;go_wp2
      go_step3
      refine ⟨rfl,⟨⟨?_,⟨_,_,HA4.out,HM.out.1.symm,rfl⟩⟩,Nat.lt_of_le_of_lt (leastN_le ⟨_,HA4.out,HM.out.1.symm,rfl⟩) HM.out.2⟩⟩
      repeat apply Exists.intro
      rfl
end
section
open Go.RowKit Go.Shelf
open Fr Bk
def NextGives (o:Option (M×Nat×Nat)) (gv:Nat) (w:World) (e:Ending) (w':World):Prop:=
 match o with
 | none=>e = .returned (.tuple #[MZ,.bool false])∧Only Nay w w'
 | some (m,p,s)=>e = .returned (.tuple #[MV m,.bool true])∧Bx gv w' (VV p s)∧Only (fun x=>x=gv) w w'
theorem bnext_any {z:Zo} {w:World} {gr gk room g p s:Nat} {L:Bs} (hR:Ring z w gr gk room L) (h:Bx g w (VV p s)) (rm:Int) (most strikes:Nat) (hrm:rm≤1000000) (hp:p≤L.length) (hs:s≤9) :
  Calls Tryz.prog 83 #[.pointer (some ⟨g,0,none⟩),.pointer (some ⟨gr,z.o,none⟩),.int .i64 rm,.int .i64 (most:Nat),.int .i64 (strikes:Nat)] w (NextGives (nextOf L room p s rm most strikes) g w):=by
 unfold nextOf
 by_cases h1:p<L.length - room
 ·rw [if_pos h1]
  by_cases h2:strikes≤s∨rm<17
  ·rw [if_pos h2]
   refine (vnext_no hR h rm most strikes h1 (by rcases h2 with h2 | h2; exact .inl (by omega); exact .inr h2)).mono fun e w' ⟨he,ho⟩=>⟨he,h.keep ho (fun h=>h),ho.mono fun _ _ h=>h.elim⟩
  ·rw [if_neg h2]
   exact (vnext_yes hR h rm most strikes h1 (by omega) (by omega) (by omega)).mono fun e w' ⟨he,hb,ho⟩=>⟨he,hb,ho⟩
 ·rw [if_neg h1]
  have hc:Bk.countOf L.length p rm most=countOf L.length p rm most:=rfl
  by_cases h2:Bk.countOf L.length p rm most=0
  ·rw [if_pos h2]
   exact (vnext_send hR h rm most strikes (by omega) (by omega) hp).mono fun e w' hg=>hg.1 h2
  ·rw [if_neg h2]
   exact (vnext_send hR h rm most strikes (by omega) (by omega) hp).mono fun e w' hg=>hg.2 (Nat.pos_of_ne_zero h2)
def putl (q:Nat) (out t:Bs):Bs:=if out.length+t.length≤q then out ++ t else out
theorem putc_out (q:Nat) (c:Cn) (t:Bs):putc q c t={ c with out:=putl q c.out t }:=by
 unfold putc putl
 split <;> rfl
theorem qput_any {G:Nat→Prop} {w:World} {g q:Nat} {l t:Bs} (h:QuIs z0 G [] w g q l) {B:Nat} {A:Option Addr} {n:Nat} (c2:Nat) (ht:Bytes w B A n t) :
  Calls Tryz.prog 85 #[.pointer (some ⟨g,0,none⟩),.slice A n c2] w fun e w'=>∃ r G2,e = .returned (.bool r)∧QuIs z0 G2 [] w' g q (putl q l t)∧(∀ x,G2 x→G x∨w.heap.size≤x)∧Only G w w':=by
 have hn:=ht.1;unfold putl
 by_cases hf:l.length+t.length≤q
 ·rw [if_pos hf]
  exact (q_put_yes h c2 ht (by omega)).mono fun e w' ⟨G2,he,hq,hs,ho⟩=>⟨true,G2,he,hq,hs,ho⟩
 ·rw [if_neg hf]
  refine (q_put_no h A n c2 (by omega)).mono ?_;rintro e w' ⟨he,kk,rfl⟩;exact ⟨false,G,he,h.drewN kk,fun _ h=>.inl h,(Only.refl G w).drewN kk⟩
section
variable {F:Fp} {g k gc q:Nat} {y:Ly} {w w':World} {b:Br} {c:Cn}
theorem BrAt.cnView (h:BrAt F g y w b) (h1:1≤k) (h2:k≤16) (hgc:rrole y.rs k=(gc:Int)+1) (hcn:CnAt F k gc (y.cy k) b.cf.queue w c) {gv:Nat} (hgv:(y.cy k).gv=some gv) {p s:Nat} (hv:Bx gv w' (VV p s)) (hO:Only (fun x=>x=gv) w w') :
  BrAt F g y w' (setc b k (some { c with p:=p,s:=s })):=by
 have hO':Only (F (10 * k+4)) w w':=hO.mono fun x _ hx=>by rw [hx]; exact (hcn.vw gv hgv).2
 have hd:∀ j x,j≠4→j<5→F (10 * k+j) x→¬ F (10 * k+4) x:=fun j x hj _ hx=>h.fit.ne hx (by omega)
 have hy:ycy y k (y.cy k)=y:=by
  unfold ycy
  congr 1
  funext j
  by_cases e:j=k <;> simp [e]
 have hr:=h.setCn (i:=4) h1 h2 hgc (by decide) (G:=F (10 * k+4)) (fun x hx=>.inl hx) (fun x hx=>Nat.lt_of_lt_of_le (h.fit.lt _ _ hx) hO.size) (cy:=y.cy k) (c:={ c with p:=p,s:=s }) hO' (by
  rw [upF_id];refine ⟨hcn.bx.keep hO' (hd 0 _ (by decide) (by decide) hcn.own),hcn.own,hcn.fd.keep hO' (fun x hx=>hd 1 x (by decide) (by decide) hx),hcn.lx.keep hO' (fun x hx=>hd 2 x (by decide) (by decide) hx),hcn.qu.keep hO' (fun x hx=>hd 3 x (by decide) (by decide) hx),fun gv2 e=>?_,hcn.vo⟩
  have e2:gv2=gv:=by
   rw [hgv] at e
   injection e with e
   exact e.symm
  rw [e2]
  exact ⟨hv,(hcn.vw gv hgv).2⟩)
 rwa [upF_id,hy] at hr
end
theorem only_new {S:Nat→Prop} {w W:World} (h:Only S w W) {p:Addr} (hp:w.heap.size≤p.block) (v:Value):Only S w (W.setCell p v):=
  ((h.mono (T:=fun x=>S x∨w.heap.size≤x) fun _ _ h=>.inl h).setCell (.inr hp) v).mono fun x hx h=>by
    rcases h with h | h
    · exact h
    · omega
def nxm (o:Option (M×Nat×Nat)) (p s:Nat):M×Bool×Nat×Nat:=match o with | none=>(⟨0,0,0,[]⟩,false,p,s) | some (m,p,s)=>(m,true,p,s)
abbrev Gv (gv:Nat) (x:Nat):Prop:=x=gv
theorem NextGives.one {o:Option (M×Nat×Nat)} {gv p s:Nat} {w w':World} {e:Ending} (h:NextGives o gv w e w') (hb:Bx gv w (VV p s)) :
  e = .returned (.tuple #[MV (nxm o p s).1,.bool (nxm o p s).2.1])∧Bx gv w' (VV (nxm o p s).2.2.1 (nxm o p s).2.2.2)∧Only (Gv gv) w w':=by
 rcases o with _ | ⟨m,p',s'⟩
 ·exact ⟨h.1,hb.keep h.2 (fun h=>h),h.2.mono fun _ _ h=>h.elim⟩
 ·exact h
theorem q_room {z:Zo} {R:List Value} {G:Nat→Prop} {w:World} {g size:Nat} {l:Bs} (h:QuIs z G R w g size l) :
  Calls Tryz.prog 84 #[.pointer (some ⟨g,z.o,none⟩)] w fun e w'=>e = .returned (.int .i64 ((size:Int) - (l.length:Nat)))∧∃ m,w'=w.drewN m:=by
 obtain ⟨a,c,h,_⟩:=h;exact outq_room w h
theorem setc_same {b:Br} {k:Nat} {c:Cn} (hc:b.cs k=some c):setc b k (some c)=b:=by
 unfold setc
 have:(fun j=>if j=k then some c else b.cs j)=b.cs:=by
  funext j
  by_cases e:j=k
  ·subst e; rw [if_pos rfl,hc]
  ·rw [if_neg e]
 rw [this]
theorem setc_setc (b:Br) (k:Nat) (x y:Option Cn):setc (setc b k x) k y=setc b k y:=by
 unfold setc
 congr 1
 funext j
 by_cases e:j=k <;> simp [e]
set_option maxHeartbeats 4000000 in
theorem bserve_any {F:Fp} {g:Nat} {rs:List (Int×Int)} {w:World} {b:Br} {k gc:Nat} (hb:BrIs F g rs w b) (hk:BOk b) (h1:1≤k) (h2:k≤16) (hgc:rrole rs k=(gc:Int)+1) (ho:opn b k=true) :
  Calls Tryz.prog 56 #[.pointer (some (at0 g)),.pointer (some (at0 gc))] w fun e w'=>BGives F g rs w (Bk.serve b k) (.tuple #[]) e w':=by
 have hA:=lj (And.intro (Acc.start hb hk.fok hk.rin) (And.intro hk ho));clear hb hk ho
 go_enter Tryz.func56,Tryz.ntmps56
 go_wp2
 refine wp_scope_back 0 (fun a' w'=>(∃ u2 u3 u4 u5 u6 u7 u8 u9 u10 u11 u12 u13 u14 u15 u16 u17 u18 u19 u20 u21 u22 u23 u24 u25 u26 u27 u28 u29 u30 u31 u32 u33 u34 u35 u36 u37 u38 u39 u40 u41 u42 u43 u44 u45 u46:Value,a'={ tmps:=#[.pointer (some (at0 g)),.pointer (some (at0 gc)),u2,u3,u4,u5,u6,u7,u8,u9,u10,u11,u12,u13,u14,u15,u16,u17,u18,u19,u20,u21,u22,u23,u24,u25,u26,u27,u28,u29,u30,u31,u32,u33,u34,u35,u36,u37,u38,u39,u40,u41,u42,u43,u44,u45,u46],defers:=[] })∧∃ n b',Acc F g rs w w' b'∧BOk b'∧opn b' k=true∧Bk.serve b' k=Bk.serve b k∧more b' k=n)
  (fun _ w'=>leastN fun n=>∃ b',Acc F g rs w w' b'∧BOk b'∧opn b' k=true∧Bk.serve b' k=Bk.serve b k∧more b' k=n) rfl ?first ?pass
 case first =>
  intro hp;go_wp2
  go_step3
  rename_i hK
  refine hK _ _ (hp _ _ ⟨?_,⟨more b k,b,hA.out.1,hA.out.2.1,hA.out.2.2,rfl,rfl⟩⟩)
  repeat apply Exists.intro
  rfl
 case pass =>
  rintro a' w1 ⟨⟨u2,u3,u4,u5,u6,u7,u8,u9,u10,u11,u12,u13,u14,u15,u16,u17,u18,u19,u20,u21,u22,u23,u24,u25,u26,u27,u28,u29,u30,u31,u32,u33,u34,u35,u36,u37,u38,u39,u40,u41,u42,u43,u44,u45,u46,rfl⟩,hJ⟩;obtain ⟨b1,hA1,hk1,ho1,hh1,hmu⟩:=leastN_is hJ;clear hJ hA;obtain ⟨F1,⟨y,rfl,hb1⟩,hs1⟩:=hA1.is;obtain ⟨c,hc,hcn⟩:=BrIs.cn hb1 h1 h2 hgc
  have hst:c.st=1:=by unfold opn at ho1; rw [hc] at ho1; simpa using ho1
  have hcok:=hk1.cn k c hc
  obtain ⟨gv,hgv⟩:∃ gv,(y.cy k).gv=some gv:=by
   rcases e:(y.cy k).gv with _ | gv
   ·exact absurd e (hcn.vo hst)
   ·exact ⟨gv,rfl⟩
  have hfit:=hcn.qu.fit;have hbq:=hk1.queue;have hv1:=(hcn.vw gv hgv).1
  have hgcv:gc≠gv:=fun e=>hb1.fit.ne hcn.own (by omega) (e ▸ (hcn.vw gv hgv).2)
  have hgv1:g≠gv:=fun e=>hb1.fit.ne hb1.gow (by omega) (e ▸ (hcn.vw gv hgv).2)
  have hgvl:gv<w1.heap.size:=hv1.room
  obtain ⟨mv,r,p,s,hnm⟩:∃ mv r p s,nxm (nextB b1 c) c.p c.s=(mv,r,p,s):=⟨_,_,_,_,rfl⟩
  have HN:=lj (show ∀ W:World,Only Nay w1 W→Calls Tryz.prog 83 #[.pointer (some (at0 gv)),.pointer (some ⟨g,8,none⟩),.int .i64 ((b1.cf.queue:Int) - (c.out.length:Nat) - 200),.int .i64 (b1.cf.data:Nat),.int .i64 (b1.strikes:Nat)] W (fun e w'=>e = .returned (.tuple #[MV mv,.bool r])∧Bx gv w' (VV p s)∧Only (Gv gv) W w') from fun (W:World) (hO:Only Nay w1 W) =>
   (bnext_any ((hb1.quiet hO).toRing) (hv1.keep hO (fun h=>h)) ((b1.cf.queue:Int) - c.out.length - 200) b1.cf.data b1.strikes (by omega) hcok.p hcok.s).mono fun e w' hg=>by
    have:=hg.one (hv1.keep hO (fun h=>h));rw [show nextOf b1.L b1.cf.log c.p c.s ((b1.cf.queue:Int) - c.out.length - 200) b1.cf.data b1.strikes=nextB b1 c from rfl,hnm] at this
    exact this)
  have HRm:=lj (show ∀ W:World,Only Nay w1 W→Calls Tryz.prog 84 #[.pointer (some (at0 (y.cy k).gq))] W (fun e w'=>e = .returned (.int .i64 ((b1.cf.queue:Int) - (c.out.length:Nat)))∧Only Nay W w') from fun (W:World) (hO:Only Nay w1 W)=>(q_room (hcn.qu.keep hO (fun _ _ h=>h))).mono fun e w' ⟨he,m,hm⟩=>⟨he,by rw [hm]; exact (Only.refl Nay W).drewN m⟩)
  have hOa:∀ o,Only Nay w1 (w1.alloc o).drew:=fun o=>((Only.refl Nay w1).alloc o).drew
  have hZa:Bx w1.heap.size (w1.alloc (.cells #[.int .i64 0,.int .i64 0,.int .i64 0,.string ⟨#[]⟩] 38)).drew #[.int .i64 0,.int .i64 0,.int .i64 0,.string ⟨#[]⟩]:=(Bx.new w1 _ rfl _ _).keep ((Only.refl Nay _).drew) (fun h=>h)
  have hZn:∀ W:World,Bx W.heap.size (W.alloc (.cells #[.int .i64 0,.int .i64 0,.int .i64 0,.string ⟨#[]⟩] 38)) #[.int .i64 0,.int .i64 0,.int .i64 0,.string ⟨#[]⟩]:=fun W=>Bx.new W _ rfl _ _
  have HC:=lj (fun (W:World) (hO:Only (Gv gv) w1 W)=>hO.keepCell (p:=⟨gc,5,none⟩) hgcv (hcn.bx.cell 5 _ rfl));have HB:=lj hb1;have HX:=lj (And.intro hA1 (And.intro hh1 (And.intro hmu hs1)));have HK:=lj (And.intro hk1 (And.intro hc (And.intro hst (And.intro ho1 hnm))))
  have d7:w1.cell? ⟨gc,7,none⟩=some (.pointer (some (at0 gv))):=by
   have:=hcn.bx.cell 7 (.pointer ((y.cy k).gv.map at0)) rfl;rw [hgv] at this;exact this
  have HD:=lj (show ∀ W,Only (Gv gv) w1 W→W.cell? ⟨gc,7,none⟩=some (.pointer (some (at0 gv)))∧W.cell? ⟨gc,5,none⟩=some (.pointer (some (at0 (y.cy k).gq)))∧W.cell? ⟨g,1,none⟩=some (.int .i64 (b1.cf.data:Nat))∧W.cell? ⟨g,22,none⟩=some (.int .i64 (b1.strikes:Nat)) from fun W hO =>
   ⟨hO.keepCell hgcv d7,hO.keepCell hgcv (hcn.bx.cell 5 _ rfl),hO.keepCell hgv1 (hb1.row.cell 1 _ rfl),hO.keepCell hgv1 (hb1.row.cell 22 _ rfl)⟩)
  have HG:=lj (And.intro hcok (And.intro hgv (And.intro hcn hgvl)));have hO0:Only Nay w1 w1.drew:=(Only.refl Nay w1).drew
  have hng:∀ {W},Only Nay w1 W→Only (Gv gv) w1 W:=fun h=>h.mono fun _ _ h=>h.elim
  have hwr:IntKind.i64.wrap ((b1.cf.queue:Int) - (c.out.length:Nat) - 200)=(b1.cf.queue:Int) - (c.out.length:Nat) - 200:=IntWalk.i64_in _ (by omega);clear hb1 hcn hA1 hh1 hmu hs1 hk1 hst ho1 hv1 d7 hcok hgcv hgv1 hnm
  dsimp only
  go_upto_region 0 with fail
  go_cut [4,5] (fun s4 s5 wx=>s5 = .bool r∧∃ gm,s4 = .pointer (some (at0 gm))∧Bx gm wx #[.int .i64 mv.k,.int .i64 mv.a,.int .i64 mv.b,.string (str mv.t)]∧w1.heap.size≤gm∧Only (Gv gv) w1 wx∧Bx gv wx (VV p s))
  case first =>
   go_wp2
   go_region_held (fun w'=>w'.cell? ⟨gc,7,none⟩=some (.pointer (some (at0 gv)))∧w'.cell? ⟨gc,5,none⟩=some (.pointer (some (at0 (y.cy k).gq)))∧w'.cell? ⟨g,1,none⟩=some (.int .i64 (b1.cf.data:Nat))∧w'.cell? ⟨g,22,none⟩=some (.int .i64 (b1.strikes:Nat)))
    (exact HD.out _ (by first | with_reducible exact hng hO0 | with_reducible exact hng (hOa _) | with_reducible exact hng HOr.out | with_reducible exact hng (HOr.out.alloc _) | with_reducible exact HOn.out | with_reducible exact HOn.out.alloc _ | with_reducible exact only_new (only_new (only_new (only_new HOn.out hzs _) hzs _) hzs _) hzs _ | with_reducible exact only_new (only_new (only_new (only_new (HOn.out.alloc _) HOn.out.size _) HOn.out.size _) HOn.out.size _) HOn.out.size _))
    (first
     | (go_at_call 84; refine (HRm.out _ (by first | with_reducible exact hO0 | with_reducible exact hOa _)).mono ?_; rintro e wr ⟨rfl,hor⟩; first | (have hor2:Only Nay w1.drew wr:=(by with_reducible exact hor); have HOr:=lj (hO0.trans hor2); clear hor hor2) | (have hor2:Only Nay (w1.alloc (.cells #[.int .i64 0,.int .i64 0,.int .i64 0,.string ⟨#[]⟩] 38)).drew wr:=(by with_reducible exact hor); have HOr:=lj ((hOa _).trans hor2); have HZr:=lj (hZa.keep hor2 (fun h=>h)); clear hor hor2))
     | (go_at_call 83; refine (HN.out _ (by first | with_reducible exact HOr.out | with_reducible exact HOr.out.alloc _)).mono ?_; rintro e wm ⟨rfl,hvm,hon⟩; have HV:=lj hvm; clear hvm; first | (have hon2:Only (Gv gv) (wr.alloc (.cells #[.int .i64 0,.int .i64 0,.int .i64 0,.string ⟨#[]⟩] 38)) wm:=(by with_reducible exact hon); have hzs:=HOr.out.size; have HZm:=lj ((hZn wr).keep hon2 (by show ¬ wr.heap.size=gv; omega)); have HOn:=lj ((hng (HOr.out.alloc _)).trans hon2); have hzf:=HZm.out.free; have hy0:=HZm.out.cell 0 _ rfl; have hy1:=HZm.out.cell 1 _ rfl; have hy2:=HZm.out.cell 2 _ rfl; have hy3:=HZm.out.cell 3 _ rfl; clear hon hon2) | (have hon2:Only (Gv gv) wr wm:=(by with_reducible exact hon); have HZm:=lj (HZr.out.keep hon2 (by show ¬ w1.heap.size=gv; omega)); have HOn:=lj ((hng HOr.out).trans hon2); have hzs:=Nat.le_refl w1.heap.size; have hzf:=HZm.out.free; have hy0:=HZm.out.cell 0 _ rfl; have hy1:=HZm.out.cell 1 _ rfl; have hy2:=HZm.out.cell 2 _ rfl; have hy3:=HZm.out.cell 3 _ rfl; clear hon hon2) | (have hon2:Only (Gv gv) wr wm:=(by with_reducible exact hon); have HOn:=lj ((hng HOr.out).trans hon2); clear hon hon2)))
   all_goals go_wp2
   all_goals go_meet
   ·exact ⟨rfl,_,rfl,Bx.new _ _ rfl _ _,HOn.out.size,HOn.out.alloc _,HV.out.keep (nay_alloc _ _) (fun h=>h)⟩
   ·exact ⟨rfl,_,rfl,(((HZm.out.set 0 _).set 1 _).set 2 _).set 3 _,hzs,only_new (only_new (only_new (only_new HOn.out hzs _) hzs _) hzs _) hzs _,(((HV.out.other (by show ¬ wr.heap.size=gv; omega) _).other (by show ¬ wr.heap.size=gv; omega) _).other (by show ¬ wr.heap.size=gv; omega) _).other (by show ¬ wr.heap.size=gv; omega) _⟩
   ·exact ⟨rfl,_,rfl,(((HZm.out.set 0 _).set 1 _).set 2 _).set 3 _,hzs,only_new (only_new (only_new (only_new HOn.out hzs _) hzs _) hzs _) hzs _,(((HV.out.other (by show ¬ w1.heap.size=gv; omega) _).other (by show ¬ w1.heap.size=gv; omega) _).other (by show ¬ w1.heap.size=gv; omega) _).other (by show ¬ w1.heap.size=gv; omega) _⟩
  case rest =>
   obtain ⟨rfl,gm,rfl,hgm,hgl,hox,hvx⟩:=hcut;have hbv:=HB.out.cnView h1 h2 hgc HG.out.2.2.1 HG.out.2.1 hvx hox
   have hOw:Only (Own1 F) w wc:=HX.out.1.only.trans' hox fun x hx=>by rw [show x=gv from hx]; exact HX.out.2.2.2 gv ⟨_,(HG.out.2.2.1.vw gv HG.out.2.1).2⟩
   have hsw:w.heap.size≤wc.heap.size:=hOw.size;have hnm:=HK.out.2.2.2.2
   rcases hnx:nextB b1 c with _ | ⟨m,p',s'⟩
   ·rw [hnx] at hnm
    injection hnm with e1 e2; injection e2 with e2 e3; injection e3 with e3 e4
    subst e1 e2 e3 e4;rw [show ({ c with p:=c.p,s:=c.s }:Cn)=c from rfl,setc_same hc] at hbv
    have hres:Bk.serve b k=b1:=by rw [← HX.out.2.1]; exact serve_none hc hnx
    have HA:=lj (show Acc F g y.rs w wc b1 from ⟨⟨F1,⟨y,rfl,hbv⟩,HX.out.2.2.2⟩,hOw,HX.out.1.fok,HX.out.1.rin⟩);have HRES:=lj hres;clear hres hbv hgm hvx hox hOw hnx hc;go_wp2;simp only [Exit.jump];exact bodyPost_ret (v:=.tuple #[]) (by simp [results,Tryz.results56,go_sem]) rfl (by rw [HRES.out]; exact HA.out.done _)
   ·rw [hnx] at hnm
    injection hnm with e1 e2; injection e2 with e2 e3; injection e3 with e3 e4
    subst e1 e2 e3 e4;have hno:=next_ok HG.out.1.p HG.out.1.s HK.out.1.strikes HK.out.1.len hnx
    obtain ⟨ln,hln⟩:∃ ln,(enc m).length=ln:=⟨_,rfl⟩
    have HPm:=lj (put_nil m hno.2.2.1);rw [hln] at HPm
    obtain ⟨cv,hcv⟩:∃ cv:Cn,({ c with p:=p',s:=s' }:Cn)=cv:=⟨_,rfl⟩
    rw [hcv] at hbv;obtain ⟨cv2,hcv2,hcnv⟩:=BrIs.cn hbv h1 h2 hgc
    obtain rfl:cv=cv2:=by
     have:(setc b1 k (some cv)).cs k=some cv:=by show (if k=k then _ else _)=_; rw [if_pos rfl]
     rw [this] at hcv2
     injection hcv2
    have hserved:Bk.served b1 k c m p' s'=setc (setc b1 k (some cv)) k (some { cv with out:=putl b1.cf.queue cv.out (enc m) }):=by
     unfold Bk.served;rw [setc_setc,putc_out,hcv]
    have HSd:=lj (And.intro hserved (And.intro hnx hno));have HV:=lj hbv;have HCv:=lj hcnv;have HGm:=lj hgm;have HOw:=lj hOw;have HN3:=lj (show ∀ x,F1 (10 * k+3) x→x<w1.heap.size∧x≠gc from fun x hx=>⟨HB.out.fit.lt _ _ hx,fun e=>HB.out.fit.ne HG.out.2.2.1.own (by omega) (e ▸ hx)⟩)
    have hgmx:∀ {x},F1 (10 * k+3) x→x≠gm:=fun hx e=>by have:=(HN3.out _ hx).1; omega
    have HNX:=lj (show ¬ F1 (10 * k+3) gm from fun e=>hgmx e rfl);have HNC:=lj (show ¬ F1 (10 * k+3) gc from fun e=>(HN3.out _ e).2 rfl);clear hgm hvx hox hOw hnx hno hserved hbv hcnv hcv2 hgmx HN HRm hOa hZa hZn HC HD hng hwr hO0;go_wp2
    go_region_held (fun w'=>w'.cell? ⟨gc,5,none⟩=some (.pointer (some (at0 (y.cy k).gq)))∧w'.cell? ⟨gm,0,none⟩=some (.int .i64 m.k)∧w'.cell? ⟨gm,1,none⟩=some (.int .i64 m.a)∧w'.cell? ⟨gm,2,none⟩=some (.int .i64 m.b)∧w'.cell? ⟨gm,3,none⟩=some (.string (str m.t)))
     (first | exact ⟨HCv.out.bx.cell 5 _ rfl,HGm.out.cell 0 _ rfl,HGm.out.cell 1 _ rfl,HGm.out.cell 2 _ rfl,HGm.out.cell 3 _ rfl⟩ | exact ⟨HCa.out.bx.cell 5 _ rfl,HXa.out.cell 0 _ rfl,HXa.out.cell 1 _ rfl,HXa.out.cell 2 _ rfl,HXa.out.cell 3 _ rfl⟩ | exact ⟨HCb.out,HXb.out.cell 0 _ rfl,HXb.out.cell 1 _ rfl,HXb.out.cell 2 _ rfl,HXb.out.cell 3 _ rfl⟩)
     (first
      | (go_at_call 86; refine (HPm.out _).mono ?_; rintro e wa ⟨A,cp,rfl,hby,hoa⟩; have hoa:Only Nay wc wa:=((Only.refl Nay wc).drew).trans hoa; have HBy:=lj hby; have HOa:=lj hoa; have HCa:=lj (HCv.out.keep hoa (fun _ _ _ _ h=>h)); have HXa:=lj (HGm.out.keep hoa (fun h=>h)); have HBa:=lj (HV.out.quiet hoa); clear hby hoa)
      | (go_at_call 85; refine (qput_any HCa.out.qu cp HBy.out).mono ?_; rintro e wb ⟨rr,G2,rfl,hq2,hs2,ho2⟩; have HXb:=lj (HXa.out.keep ho2 HNX.out); have HCb:=lj (ho2.keepCell (p:=⟨gc,5,none⟩) HNC.out (HCa.out.bx.cell 5 _ rfl)); have HBb:=lj (HBa.out.cnQueue h1 h2 hgc HCa.out hq2 hs2 ho2); have HS:=lj hs2; have HOb:=lj ho2; clear hq2 hs2 ho2))
    rename_i hh
    clear hh;have hm0:=HXb.out.cell 0 (.int .i64 m.k) rfl;have hbb:=HBb.out;rw [show setc (setc b1 k (some cv)) k (some { cv with out:=putl (setc b1 k (some cv)).cf.queue cv.out (enc m) })=Bk.served b1 k c m p' s' from HSd.out.1.symm] at hbb;have hwz:w.heap.size≤wa.heap.size:=Nat.le_trans hsw HOa.out.size
    have hown:∀ x,Own1 (upF F1 (10 * k+3) G2) x→Own1 F x∨w.heap.size≤x:=fun x hx=>by
     rcases upF_own HS.out x hx with h | h
     ·exact HX.out.2.2.2 x h
     ·exact .inr (Nat.le_trans hwz h)
    have hOb:Only (Own1 F) w wb:=(HOw.out.trans (HOa.out.mono fun _ _ h=>h.elim)).trans' HOb.out fun x hx=>HX.out.2.2.2 x ⟨_,hx⟩
    have HAb:=lj (show Acc F g y.rs w wb (Bk.served b1 k c m p' s') from ⟨⟨_,⟨y,rfl,hbb⟩,hown⟩,hOb,HX.out.1.fok,HX.out.1.rin⟩);have HBB:=lj (And.intro hbb (And.intro hown hOb));clear hbb hown hOb hwz HBb HCb HXb HS HOb HBa HCa HXa HOa HBy HGm HCv HV HNX HNC HN3 HPm
    by_cases h12:m.k=12
    ·have hd12:(m.k == 12)=true:=by simpa using h12
     have HRES:=lj (show Bk.serve b k=Bk.leave (Bk.served b1 k c m p' s') k by rw [← HX.out.2.1]; exact serve_gone hc HSd.out.2.1 h12);have HL:=lj (bleave_any (F:=upF F1 (10 * k+3) G2) ⟨y,rfl,HBB.out.1⟩ HAb.out.fok h1 h2 hgc);clear hc h12
     go_wp2_with fail
     refine HL.out.mono ?_;rintro e w7 hg7;have HG7:=lj (BrIs.step HBB.out.2.2 HBB.out.2.1 hg7 (v2:=.tuple #[]) rfl);obtain ⟨F7,rfl,_⟩:=hg7;go_wp2;simp only [Exit.jump];exact bodyPost_ret (v:=.tuple #[]) (by simp [results,Tryz.results56,go_sem]) rfl (by rw [HRES.out]; exact HG7.out)
    ·have hd12:(m.k == 12)=false:=by simpa using h12
     have HM:=lj (And.intro (HK.out.1.served hc HSd.out.2.1) (And.intro (show Bk.serve (Bk.served b1 k c m p' s') k=Bk.serve b k by rw [← HX.out.2.1]; exact (serve_more HK.out.1 hc HSd.out.2.1 h12).symm) (more_step HK.out.1 hc HSd.out.2.1 h12)))
     have hopn:opn (Bk.served b1 k c m p' s') k=true:=by
      unfold Bk.served;rw [opn_setc,if_pos rfl]
      show decide ((putc b1.cf.queue { c with p:=p',s:=s' } (enc m)).st=1)=true
      rw [(putc_same b1.cf.queue { c with p:=p',s:=s' } (enc m)).1]
      simpa using HK.out.2.2.1
     have HOP:=lj hopn;clear hc h12 hopn;go_wp2
     go_step3
     refine ⟨rfl,⟨⟨?_,⟨_,_,HAb.out,HM.out.1,HOP.out,HM.out.2.1,rfl⟩⟩,Nat.lt_of_le_of_lt (leastN_le ⟨_,HAb.out,HM.out.1,HOP.out,HM.out.2.1,rfl⟩) ?_⟩⟩
     ·repeat apply Exists.intro
      rfl
     ·have:=HM.out.2.2
      rw [HX.out.2.2.1] at this;exact this
end
section
open Go.RowKit Go.Shelf
open Fr Bk
attribute [local go_sem] Oper.semAt_some
theorem BrIs.seeA {F:Fp} {g N bu:Nat} {rs:List (Int×Int)} {w:World} {b:Br} (h:BrIs F g rs w b) (hu:w.cell? ⟨bu,0,none⟩=some (.pointer (some (at0 g)))) {j:Nat} (hj:j<16) :
  (b.cs (j+1)=none∧SeeAll bu g N j w none)∨(∃ c gc:_,b.cs (j+1)=some c∧rrole rs ((j+1:Nat):Int)=((gc:Nat):Int)+1∧SeeAll bu g N j w (some (.pointer (some (at0 gc))))):=by
 obtain ⟨y,rfl,h⟩:=h;have hc:=h.row.cell 24 (.map y.cm) rfl;have hl:=h.look (wf_id (k:=j+1) (by omega))
 have hlk:(Instr.lookup 80 (.map y.cm) (.int .i64 ((j:Int)+1)) false).run Tryz.prog w = .ok (.pointer (ptrOf (rrole y.rs ((j+1:Nat):Int)))) w:=by
  rw [show ((j:Int)+1)=((j+1:Nat):Int) by omega]; exact hl
 rcases hk:b.cs (j+1) with _ | c
 ·refine .inl ⟨rfl,y.cm,_,hu,hc,hlk,?_⟩
  rw [h.none (by omega) (by omega) hk];rfl
 ·obtain ⟨gc,hgc,hcn⟩:=h.conn (by omega) (by omega) hk
  rw [hgc,ptrOf_suc] at hlk;exact .inr ⟨c,gc,rfl,hgc,y.cm,_,hu,hc,hlk,rfl⟩
theorem rrole_del {l:List (Int×Int)} (h:Rising l) (k j:Int):rrole (rdel l k) j=if j=k then 0 else rrole l j:=by
 unfold rrole;rw [rget_del h]
 by_cases e:j=k
 ·rw [if_pos e,if_pos e]; rfl
 ·rw [if_neg e,if_neg e]
theorem BrAt.del {F:Fp} {g:Nat} {y:Ly} {w:World} {b:Br} (h:BrAt F g y w b) {k:Nat} {c:Cn} (h1:1≤k) (h2:k≤16) (hc:b.cs k=some c) :
  ∃ bm w',y.cm=some bm∧(∀ ty,(Builtin.delete_ #[80,3] ty #[.map (some bm),.int .i64 (k:Nat)]).run Tryz.prog w = .ok (.tuple #[]) w')∧BrAt F g { y with rs:=rdel y.rs k } w' (setc b k Option.none)∧Only (F 5) w w':=by
 obtain ⟨gc,hgc,hcn⟩:=h.conn h1 h2 hc
 rcases h.map with ⟨e1,e2⟩ | ⟨bm,e1,hp,hb5⟩
 ·rw [e2] at hgc
  have:(0:Int)=(gc:Int)+1:=hgc;omega
 obtain ⟨w',hrun,hp',hO⟩:=hp.drop (wf_id (k:=k) (by omega))
 have hO5:Only (F 5) w w':=hO.mono fun x _ hx=>by rw [show x=bm from hx]; exact hb5
 have hd:∀ {s:Nat},s≠5→∀ x,F s x→¬ F 5 x:=fun hs x hx=>h.fit.ne hx hs
 have hne:∀ j:Nat,j≠k→rrole (rdel y.rs k) j=rrole y.rs j:=fun j hj=>by
  rw [rrole_del hp.rising,if_neg (by omega)]
 refine ⟨bm,w',e1,hrun,⟨⟨h.fit.one,fun s x hx=>Nat.lt_of_lt_of_le (h.fit.lt s x hx) hO.size⟩,h.me,h.row.keep hO5 (hd (by decide) _ h.gow),h.ring.keep hO5 (hd (by decide)),h.spot,h.tab.keep hO5 (hd (by decide)),h.inp.keep hO5 (hd (by decide)),.inr ⟨bm,e1,hp',hb5⟩,fun p hp=>h.rsok p (rdel_mem hp),fun j j1 j2=>?_,h.base.step (hO5.mono fun x _ hx=>⟨5,hx⟩) fun x hx=>.inl hx⟩,hO5⟩
 show CnOpt F j _ b.cf.queue w' (if j=k then Option.none else b.cs j)
 by_cases e:j=k
 ·subst e
  rw [if_pos rfl]
  show rrole (rdel y.rs j) j=0
  rw [rrole_del hp.rising,if_pos rfl]
 ·rw [if_neg e]
  have:=h.cns j j1 j2
  revert this
  rcases b.cs j with _ | c2
  ·intro h0
   show rrole (rdel y.rs k) j=0
   rw [hne j e]; exact h0
  ·rintro ⟨g2,h3,h4⟩
   exact ⟨g2,by show rrole (rdel y.rs k) j=_; rw [hne j e]; exact h3,h4.keep hO5 fun i x _ hx=>hd (by omega) x hx⟩
structure UJ (cur:Nat→Br) (F1:Fp) (g:Nat) (w2:World) (X:World→Prop) (B N j:Nat) (W:World):Prop where
 is:∃ F' rs,BrIs F' g rs W (cur j)∧(∀ x,Own1 F' x→Own1 F1 x∨N≤x)
 only:Only (Own1 F1) w2 W
 ex:X W
 nB:B≤N
 nS:N≤W.heap.size
theorem UJ.mine {cur:Nat→Br} {F1:Fp} {g B N j:Nat} {w2 W W':World} {X:World→Prop} (h:UJ cur F1 g w2 X B N j W) (hO:Only (Mine B N) W W') (hX:∀ A A',X A→Only (fun x=>Own1 F1 x∨B≤x) A A'→X A') (hB:w2.heap.size≤B) (hF:∀ x,Own1 F1 x→x<B) (hg:Own1 F1 g) :
  UJ cur F1 g w2 X B N j W':=by
 obtain ⟨F',rs,h1,h2⟩:=h.is;refine ⟨⟨F',rs,h1.mine hO (fun x hx=>(h2 x hx).imp (hF x) id) (hF g hg),h2⟩,?_,hX _ _ h.ex (hO.mono fun x _ hx=>.inr hx.1),h.nB,Nat.le_trans h.nS hO.size⟩
 exact h.only.trans' hO fun x hx=>.inr (by have:=hx.1; omega)
theorem UJ.next {cur:Nat→Br} {F1:Fp} {g B N j:Nat} {w2 W W':World} {X:World→Prop} (h:UJ cur F1 g w2 X B N j W) {F' F2:Fp} {rs:List (Int×Int)} (hF':∀ x,Own1 F' x→Own1 F1 x∨N≤x) (h2:BrIs F2 g rs W' (cur (j+1))) (hs:∀ x,Own1 F2 x→Own1 F' x∨W.heap.size≤x) (hO:Only (Own1 F') W W')
  (hX:∀ A A',X A→Only (fun x=>Own1 F1 x∨B≤x) A A'→X A') (hB:w2.heap.size≤B):Only (fun x=>Own1 F1 x∨N≤x) W W'∧UJ cur F1 g w2 X B N (j+1) W':=by
 refine ⟨hO.mono fun x _ hx=>hF' x hx,⟨F2,rs,h2,fun x hx=>?_⟩,?_,hX _ _ h.ex (hO.mono fun x _ hx=>(hF' x hx).imp id fun h9=>Nat.le_trans h.nB h9),h.nB,Nat.le_trans h.nS hO.size⟩
 ·rcases hs x hx with h3 | h3
  ·exact hF' x h3
  ·exact .inr (Nat.le_trans h.nS h3)
 ·exact h.only.trans' hO fun x hx=>(hF' x hx).imp id fun h9=>by have:=h.nB; omega
theorem UJ.same {cur:Nat→Br} {F1:Fp} {g B N j:Nat} {w2 W:World} {X:World→Prop} (h:UJ cur F1 g w2 X B N j W) (e:cur (j+1)=cur j):UJ cur F1 g w2 X B N (j+1) W:=
 ⟨by rw [e]; exact h.is,h.only,h.ex,h.nB,h.nS⟩
def EGives (F:Fp) (g:Nat) (w:World) (b2:Br) (v:Value) (e:Ending) (w':World):Prop:=
 ∃ F2 rs,e = .returned v∧BrIs F2 g rs w' b2∧(∀ x,Own1 F2 x→Own1 F x∨w.heap.size≤x)∧Only (Own1 F) w w'
set_option maxHeartbeats 1000000 in
theorem bsettle_any {F:Fp} {g:Nat} {rs:List (Int×Int)} {w:World} {b:Br} (hb:BrIs F g rs w b) (hk:BOk b) :
  Calls Tryz.prog 33 #[.pointer (some (at0 g))] w fun e w'=>EGives F g w (Bk.settle b) (.tuple #[]) e w':=by
 have hOwn:∀ x,Own1 F x→x<w.heap.size:=by
  obtain ⟨y,rfl,h⟩:=hb
  exact fun x hx=>h.lt hx
 have hgF:Own1 F g:=by
  obtain ⟨y,rfl,h⟩:=hb;exact ⟨_,h.gow⟩
 have hgw:=hOwn g hgF;refine (callsIn_wide (n:=0)).1 ?_;refine callsIn_of_wp_marks Tryz.func33 rfl trivial ?_ rfl;simp only [Tryz.ntmps33,List.size_toArray,List.length_cons,List.length_nil,Nat.reduceAdd,Nat.reduceSub,Array.replicate_succ,Array.replicate_zero,List.push_toArray,List.append_toArray,List.nil_append,List.cons_append];have hbx:=Bx.new w _ rfl #[.pointer (some (at0 g))] 45;have hb0:=hb.quiet (nay_alloc w (.cells #[.pointer (some (at0 g))] 45))
 gi_wp2
 refine ⟨trivial,rfl,?_⟩;refine (callsIn_wide.2 (bholder_any hb0 hk.fok hk.rin)).mono ?_;rintro e w1 ⟨F1,rfl,hb1,hs1,ho1⟩
 have hs1':∀ x,Own1 F1 x→Own1 F x∨w.heap.size+1≤x:=fun x hx=>by have:=hs1 x hx; rwa [World.size_alloc] at this
 have hnb:¬ Own1 F w.heap.size:=fun h=>by have:=hOwn _ h; omega
 have hbx1:=hbx.keep ho1 hnb;have hO1:Only (Own1 F) w w1:=((nay_alloc w _).mono fun _ _ h=>h.elim).trans ho1
 have hw1:w.heap.size+1≤w1.heap.size:=by have:=ho1.size; rwa [World.size_alloc] at this
 have hk1:BOk (Bk.holder b):=hk.holder;have hc0:=hbx1.cell 0 _ rfl;clear hb0 hbx ho1 hs1 hb
 gi_wp2
 refine ⟨trivial,rfl,?_⟩;refine (callsIn_wide.2 (busers_any g _)).mono ?_;rintro e w' ⟨rfl,rfl⟩
 gi_wp2
 have hF1:∀ x,Own1 F1 x→x<w1.heap.size:=by
  obtain ⟨y,rfl,h⟩:=hb1
  exact fun x hx=>h.lt hx
 have hg1:Own1 F1 g:=by
  obtain ⟨y,rfl,h⟩:=hb1;exact ⟨_,h.gow⟩
 have hn1:¬ Own1 F1 w.heap.size:=fun h=>by
  rcases hs1' _ h with h | h
  ·exact hnb h
  ·omega
 have hb2:=hb1.quiet (nay_alloc w1 (.cells #[.pointer (some (at0 g))] 45));have hbx2:=hbx1.keep (nay_alloc w1 (.cells #[.pointer (some (at0 g))] 45)) (fun h=>h);have hbu2:=Bx.new w1 _ rfl #[.pointer (some (at0 g))] 45
 have hO2:Only (Own1 F1) w1 (w1.alloc (.cells #[.pointer (some (at0 g))] 45)):=(nay_alloc w1 _).mono fun _ _ h=>h.elim
 have hsz:(w1.alloc (.cells #[.pointer (some (at0 g))] 45)).heap.size=w1.heap.size+1:=by simp
 clear hb1 hc0;generalize w1.alloc (.cells #[.pointer (some (at0 g))] 45)=w2 at *
 have hX:∀ A A',(Bx w.heap.size A #[.pointer (some (at0 g))]∧Bx w1.heap.size A #[.pointer (some (at0 g))])→Only (fun x=>Own1 F1 x∨w2.heap.size≤x) A A'→(Bx w.heap.size A' #[.pointer (some (at0 g))]∧Bx w1.heap.size A' #[.pointer (some (at0 g))]):=fun A A' hx hO =>
  ⟨hx.1.keep hO (fun h=>h.elim hn1 (fun h=>by omega)),hx.2.keep hO (fun h=>h.elim (fun h=>by have:=hF1 _ h; omega) (fun h=>by omega))⟩
 have hF2:∀ x,Own1 F1 x→x<w2.heap.size:=fun x hx=>by have:=hF1 x hx; omega
 have hJ0:∀ W1,Only Nay w2 W1→UJ (fun j=>goes Bk.serve (Bk.holder b) (ids.take j)) F1 g w2 (fun A=>Bx w.heap.size A #[.pointer (some (at0 g))]∧Bx w1.heap.size A #[.pointer (some (at0 g))]) w2.heap.size W1.heap.size 0 W1:=fun W1 hi =>
  ⟨⟨F1,rs,hb2.quiet hi,fun x hx=>.inl hx⟩,hi.mono fun _ _ h=>h.elim,⟨hbx2.keep hi (fun h=>h),hbu2.keep hi (fun h=>h)⟩,hi.size,Nat.le_refl _⟩
 clear hb2 hbx2 hbu2
 refine rf_law (gf:=82) (lb:=#[.pointer (some ⟨w1.heap.size,0,none⟩)]) (See:=SeeUsers w1.heap.size g w2.heap.size) rfl (enters_of Tryz.func82 (by kernel_rfl) rfl)
  (fun W3 _ hs=>users1_ok _ g _ W3 hs) rfl (Own1 F1) (UJ (fun j=>goes Bk.serve (Bk.holder b) (ids.take j)) F1 g w2 (fun A=>Bx w.heap.size A #[.pointer (some (at0 g))]∧Bx w1.heap.size A #[.pointer (some (at0 g))]) w2.heap.size) (fun _ _ _=>False)
  (fun N k A B h hi=>h.mine hi hX (Nat.le_refl _) hF2 hg1) (fun _ _ _ _ h _=>h) hF2 hJ0
  (fun v=>{ tmps:=#[.pointer (some (at0 g)),.pointer (some ⟨w.heap.size,0,none⟩),v,undef,.pointer (some (at0 g)),.tuple #[],.pointer (some (at0 g)),.func (.func 82) #[] #[.pointer (some ⟨w1.heap.size,0,none⟩)],v,undef,undef,undef,undef,undef,undef,undef,undef,undef,undef,undef,undef,undef,undef,undef,undef,undef,undef,undef,undef,undef,undef,undef,undef,undef,undef,undef,undef,undef],defers:=[] })
  ?assign ?round ?done ?stop
 case assign =>
  intro l2 v W3 K hK
  gi_wp2
  exact hK
 case round =>
  intro N k W hN hk16 hj;obtain ⟨F',rs',hG1,hG2⟩:=hj.is
  have hG3:∀ x,Own1 F' x→x<w2.heap.size∨N≤x:=fun x hx=>(hG2 x hx).imp (hF2 x) id
  rcases hG1.seeU (hj.ex.2.cell 0 _ rfl) hk16 hG3 with ⟨h1,h2⟩ | ⟨h1,gc,hgc,h2⟩
  ·exact .inl ⟨h2,hj.same (by show goes _ _ _=goes _ _ _; rw [goes_take _ _ k hk16,h1]; rfl)⟩
  ·refine .inr ⟨_,h2,fun l W1 hi=>?_⟩
   have hj1:=hj.mine hi hX (Nat.le_refl _) hF2 hg1;have hG4:=hG1.mine hi hG3 (hF2 g hg1);have hcall:=lj (bserve_any hG4 (BOk.goes (fun _ k h=>h.serve k) (ids.take k) hk1) (by omega) (by omega) hgc h1);have c0:=hj1.ex.1.cell 0 _ rfl;have HJ:=lj hj1;have HF:=lj (And.intro hG2 h1);clear hj hj1 hG1 hG4 h2 hJ0 hG2 hG3
   gi_wp2
   refine ⟨trivial,rfl,?_⟩;refine (CallsIn.inRound l (callsIn_wide.2 hcall.out)).mono ?_;rintro e W2 ⟨F2,rfl,hB2,hS2,hO2'⟩
   gi_wp2
   exact HJ.out.next HF.out.1 (by show BrIs _ _ _ _ (goes _ _ _); rw [goes_take _ _ k hk16,HF.out.2]; exact hB2) hS2 hO2' hX (Nat.le_refl _)
 case stop =>
  rintro D N c W3 hD hN h hK;exact h.elim
 case done =>
  rintro D1 N1 W3 hD1 hN1 hj hK1;have hj0:=lj hj;obtain ⟨F3,rs3,hb3,hs3⟩:=hj.is;have hk3:BOk (goes Bk.serve (Bk.holder b) ids):=BOk.goes (fun _ k h=>h.serve k) ids hk1;have c0:=hj.ex.1.cell 0 _ rfl;have hbh:=lj (bholder_any hb3 hk3.fok hk3.rin);clear hj hJ0
  gi_wp2
  refine ⟨trivial,rfl,?_⟩;refine (callsIn_wide.2 hbh.out).mono ?_;rintro e w4 ⟨F4,rfl,hb4,hs4,ho4⟩
  have hn3:∀ x,x<N1→¬ Own1 F1 x→¬ Own1 F3 x:=fun x hx h1 h2=>(hs3 x h2).elim h1 (fun h=>by omega)
  have hNW:N1≤W3.heap.size:=hj0.out.nS
  have hn4:∀ x,x<N1→¬ Own1 F1 x→¬ Own1 F4 x:=fun x hx h1 h2=>(hs4 x h2).elim (hn3 x hx h1) (fun h=>by omega)
  have hD1n:¬ Own1 F1 D1:=fun h=>by have:=hF2 D1 h; omega
  have hwn:w.heap.size<N1:=by omega
  have hbx4:=hj0.out.ex.1.keep ho4 (hn3 _ hwn hn1);have hK4:=ho4.keepObj (hn3 _ (by omega) hD1n) hK1
  have hO4:Only (Own1 F) w w4:=by
   have h1:Only (Own1 F) w W3:=(hO1.trans' (hO2.trans hj0.out.only) fun x hx=>(hs1' x hx).imp id fun h=>by omega)
   refine h1.trans' ho4 fun x hx=>?_
   rcases hs3 x hx with h | h
   ·exact (hs1' x h).imp id fun h=>by omega
   ·exact .inr (by omega)
  have hU4:∀ x,Own1 F4 x→Own1 F x∨w.heap.size≤x:=fun x hx=>by
   rcases hs4 x hx with h | h
   ·rcases hs3 x h with h | h
    ·exact (hs1' x h).imp id fun h=>by omega
    ·exact .inr (by omega)
   ·exact .inr (by omega)
  have hk4:BOk (Bk.holder (goes Bk.serve (Bk.holder b) ids)):=hk3.holder
  have hF4:∀ x,Own1 F4 x→x<w4.heap.size:=by
   obtain ⟨y,rfl,h⟩:=hb4
   exact fun x hx=>h.lt hx
  have hg4:Own1 F4 g:=by
   obtain ⟨y,rfl,h⟩:=hb4;exact ⟨_,h.gow⟩
  have c04:=hbx4.cell 0 _ rfl;have hw4:N1≤w4.heap.size:=Nat.le_trans hNW ho4.size;have HFin:=lj (show Bk.settle b=reapTo (Bk.holder (goes Bk.serve (Bk.holder b) ids)) 16 from rfl);replace hb4:BrIs F4 g rs3 w4 (Bk.holder (goes Bk.serve (Bk.holder b) ids)):=hb4;generalize Bk.holder (goes Bk.serve (Bk.holder b) ids)=b4 at *;clear hbh hb3 hs3 hk3 hs4 ho4 hj0 hK1 c0 hX hn3
  gi_wp2
  refine ⟨trivial,rfl,?_⟩;refine (callsIn_wide.2 (ball_any g _)).mono ?_;rintro e w' ⟨rfl,rfl⟩
  gi_wp2
  have hb5:=hb4.quiet (nay_alloc w4 (.cells #[.pointer (some (at0 g))] 45));have hbx5:=hbx4.keep (nay_alloc w4 (.cells #[.pointer (some (at0 g))] 45)) (fun h=>h);have hK5:=(nay_alloc w4 (.cells #[.pointer (some (at0 g))] 45)).keepObj (fun h=>h) hK4;have hba5:=Bx.new w4 _ rfl #[.pointer (some (at0 g))] 45;have hO5:Only (Own1 F) w (w4.alloc (.cells #[.pointer (some (at0 g))] 45)):=hO4.trans ((nay_alloc w4 _).mono fun _ _ h=>h.elim)
  have hsz5:(w4.alloc (.cells #[.pointer (some (at0 g))] 45)).heap.size=w4.heap.size+1:=by simp
  clear hb4 hbx4 hK4 hO4 c04;generalize w4.alloc (.cells #[.pointer (some (at0 g))] 45)=w5 at *
  have hX5:∀ A A',(Bx w.heap.size A #[.pointer (some (at0 g))]∧Bx w4.heap.size A #[.pointer (some (at0 g))]∧A.heap[D1]?=some (.deferred (some [])))→Only (fun x=>Own1 F4 x∨w5.heap.size≤x) A A'→(Bx w.heap.size A' #[.pointer (some (at0 g))]∧Bx w4.heap.size A' #[.pointer (some (at0 g))]∧A'.heap[D1]?=some (.deferred (some []))):=fun A A' hx hO =>
   ⟨hx.1.keep hO (fun h=>h.elim (hn4 _ hwn hn1) (fun h=>by omega)),hx.2.1.keep hO (fun h=>h.elim (fun h=>by have:=hF4 _ h; omega) (fun h=>by omega)),hO.keepObj (fun h=>h.elim (hn4 _ (by omega) hD1n) (fun h=>by omega)) hx.2.2⟩
  have hF5:∀ x,Own1 F4 x→x<w5.heap.size:=fun x hx=>by have:=hF4 x hx; omega
  have hJ5:∀ W1,Only Nay w5 W1→UJ (reapTo b4) F4 g w5 (fun A=>Bx w.heap.size A #[.pointer (some (at0 g))]∧Bx w4.heap.size A #[.pointer (some (at0 g))]∧A.heap[D1]?=some (.deferred (some []))) w5.heap.size W1.heap.size 0 W1:=fun W1 hi =>
   ⟨⟨F4,rs3,by rw [reapTo_zero]; exact hb5.quiet hi,fun x hx=>.inl hx⟩,hi.mono fun _ _ h=>h.elim,⟨hbx5.keep hi (fun h=>h),hba5.keep hi (fun h=>h),hi.keepObj (fun h=>h) hK5⟩,hi.size,Nat.le_refl _⟩
  clear hb5 hbx5 hba5 hK5
  refine rf_law (gf:=76) (lb:=#[.pointer (some ⟨w4.heap.size,0,none⟩)]) (See:=SeeAll w4.heap.size g) rfl (enters_of Tryz.func76 (by kernel_rfl) rfl)
   (fun W3 _ _=>all1_ok _ g W3) rfl (Own1 F4) (UJ (reapTo b4) F4 g w5 (fun A=>Bx w.heap.size A #[.pointer (some (at0 g))]∧Bx w4.heap.size A #[.pointer (some (at0 g))]∧A.heap[D1]?=some (.deferred (some []))) w5.heap.size) (fun _ _ _=>False)
   (fun N k A B h hi=>h.mine hi hX5 (Nat.le_refl _) hF5 hg4) (fun _ _ _ _ h _=>h) hF5 hJ5
   (fun v=>{ tmps:=#[.pointer (some (at0 g)),.pointer (some ⟨w.heap.size,0,none⟩),undef,v,.pointer (some (at0 g)),.tuple #[],.pointer (some (at0 g)),.func (.func 82) #[] #[.pointer (some ⟨w1.heap.size,0,none⟩)],undef,undef,undef,undef,.pointer (some (at0 g)),.tuple #[],.pointer (some (at0 g)),.func (.func 76) #[] #[.pointer (some ⟨w4.heap.size,0,none⟩)],v,undef,undef,undef,undef,undef,undef,undef,undef,undef,undef,undef,undef,undef,undef,undef,undef,undef,undef,undef,undef,undef],defers:=[] })
   ?assign2 ?round2 ?done2 ?stop2
  case assign2 =>
   intro l2 v W3 K hK
   gi_wp2
   exact hK
  case stop2 =>
   rintro D N c W3 hD hN h hK;exact h.elim
  case done2 =>
   rintro D2 N2 W6 hD2 hN2 hj hK2
   gi_wp2
   refine ⟨by simp,.inl ⟨_,_,rfl,run_takeDeferred hK2,?_⟩⟩;have hO6:Only (Mine w5.heap.size N2) W6 (W6.putObj D2 (.deferred none)):=only_putObj _ ⟨hD2,by omega⟩;have hj6:=hj.mine hO6 hX5 (Nat.le_refl _) hF5 hg4;refine ⟨by simp,.inl ⟨_,_,rfl,run_takeDeferred hj6.ex.2.2,?_⟩⟩;obtain ⟨F6,rs6,hb6,hs6⟩:=hj6.is;have hO7:Only (Mine D1 (D1+1)) (W6.putObj D2 (.deferred none)) ((W6.putObj D2 (.deferred none)).putObj D1 (.deferred none)):=only_putObj _ ⟨Nat.le_refl _,Nat.lt_succ_self _⟩
   have hnD:¬ Own1 F6 D1:=fun h=>(hs6 D1 h).elim (hn4 _ (by omega) hD1n) (fun h=>by omega)
   refine ⟨_,results_none rfl _ _ _,F6,rs6,rfl,?_,?_,?_⟩
   ·rw [HFin.out]
    exact hb6.mine hO7 (fun x hx=>by
     rcases Nat.lt_or_ge x D1 with h | h
     ·exact .inl h
     ·have:x≠D1:=fun e=>hnD (e ▸ hx)
      exact .inr (by omega)) (by omega)
   ·intro x hx
    rcases hs6 x hx with h | h
    ·exact hU4 x h
    ·exact .inr (by omega)
   ·exact (hO5.trans' hj6.only hU4).trans' hO7 fun x hx=>.inr (by have:=hx.1; omega)
  case round2 =>
   intro N k W hN hk16 hj;obtain ⟨F',rs',hG1,hG2⟩:=hj.is
   have hG3:∀ x,Own1 F' x→x<w5.heap.size∨N≤x:=fun x hx=>(hG2 x hx).imp (hF5 x) id
   rcases hG1.seeA (hj.ex.2.1.cell 0 _ rfl) hk16 with ⟨h1,h2⟩ | ⟨c,gc,h1,hgc,h2⟩
   ·rw [reapTo_cs] at h1
    refine .inl ⟨h2,hj.same (reapTo_no b4 k ?_)⟩;unfold done;rw [h1]
   ·refine .inr ⟨_,h2,fun l W1 hi=>?_⟩
    have hj1:=hj.mine hi hX5 (Nat.le_refl _) hF5 hg4;have hG4:=hG1.mine hi hG3 (hF5 g hg4);have h1':=h1;rw [reapTo_cs] at h1';obtain ⟨y,rfl,hy⟩:=hG4;obtain ⟨c2,hc2,hcn⟩:=BrIs.cn hy (by omega) (by omega) hgc;rw [h1] at hc2
    injection hc2 with hc2
    subst hc2;have c1:=hcn.bx.cell 1 (.int .i64 (c.st:Nat)) rfl;have c5:=hcn.bx.cell 5 (.pointer (some (at0 (y.cy (k+1)).gq))) rfl;have ci:=hcn.bx.cell 0 (.int .i64 ((k+1:Nat):Int)) rfl;have cb:=hj1.ex.1.cell 0 (.pointer (some (at0 g))) rfl;have hlen:=lj (q_len hcn.qu)
    have hdn:done b4 (k+1)=decide (c.st=2∧c.out=[]):=by unfold done; rw [h1']
    have HJ:=lj hj1;have HY:=lj hy;have HG2:=lj hG2;clear hj hj1 hG1 h2 hJ5 hG3 hcn hG2
    by_cases hst:c.st=2
    ·have hd1:((c.st:Int) == 2)=true:=by simp; omega
     rw [hst] at c1
     by_cases hout:c.out=[]
     ·rw [hout] at hlen
      have he:=reapTo_yes b4 k (by rw [hdn]; simp [hst,hout]);obtain ⟨bm,wd,hcm,hrun,hyd,hod⟩:=(HY.out.quiet ((Only.refl (fun _=>False) W1).drew)).del (k:=k+1) (by omega) (by omega) h1;have cm:=HY.out.row.cell 24 (.map y.cm) rfl;rw [hcm] at cm;have HFIN:=lj (HJ.out.next HG2.out (F2:=F') (rs:=rdel y.rs ((k+1:Nat):Int)) (by rw [he]; exact ⟨_,rfl,hyd⟩) (fun x hx=>.inl hx) (((Only.refl (Own1 F') W1).drew).trans (hod.mono fun x _ hx=>⟨5,hx⟩)) hX5 (Nat.le_refl _))
      push_cast at hrun ci
      clear hyd hod he hdn h1 h1'
      gi_wp2
      refine ⟨trivial,rfl,?_⟩;refine (CallsIn.inRound l (callsIn_wide.2 hlen.out)).mono ?_;rintro e W7 ⟨rfl,rfl⟩
      gi_wp2
      have hmix:Tryz.prog.follows .mixedOrders=true:=by kernel_rfl
      gi_region_with_o (fail)
      all_goals
       gi_wp2
       exact HFIN.out
     ·have hpos:((c.out.length:Int) == 0)=false:=by
       have:c.out.length≠0:=fun h=>hout (List.eq_nil_of_length_eq_zero h)
       simp; omega
      have he:=reapTo_no b4 k (by rw [hdn]; simp [hst,hout]);clear hdn h1 h1'
      gi_wp2
      refine ⟨trivial,rfl,?_⟩;refine (CallsIn.inRound l (callsIn_wide.2 hlen.out)).mono ?_;rintro e W7 ⟨rfl,rfl⟩
      gi_wp2
      exact ⟨Only.refl _ _,HJ.out.same he⟩
    ·have hd1:((c.st:Int) == 2)=false:=by simp; omega
     have he:=reapTo_no b4 k (by rw [hdn]; simp [hst]);clear hdn h1 h1'
     gi_wp2
     refine ⟨trivial,?_⟩
     gi_wp2
     exact ⟨Only.refl _ _,HJ.out.same he⟩
end
section
open Go.RowKit Go.Shelf
open Fr Bk
theorem bowner_any {F:Fp} {g:Nat} {y:Ly} {w:World} {b:Br} (h:BrAt F g y w b) (hf:FOk 16 b.fl) (id:Int) (hid:wf64 id) :
  Calls Tryz.prog 130 #[.pointer (some (at0 g)),.int .i64 id] w fun e w'=>e = .returned (.bool (rrole b.fl.roles id == 2))∧∃ m,w'=w.drewN m:=by
 have HT:=lj (trole_any h.toTab hf id hid);clear h hf;generalize rrole b.fl.roles id=r at *;generalize rhas b.fl.roles id=q at *
 go_enter Tryz.func130,Tryz.ntmps130
 go_wp2_with fail
 refine HT.out.mono ?_;rintro e w1 ⟨rfl,m,rfl⟩;go_wp2;go_ret;exact ⟨rfl,m,rfl⟩
theorem brole_any (r:Int) (w:World):Calls Tryz.prog 123 #[.int .i64 r] w fun e w'=>e = .returned (.string (str (Bk.roleWord r)))∧w'=w:=by
 unfold Bk.roleWord
 by_cases h2:r=2
 ·have hd:(r == 2)=true:=by simpa using h2
  rw [if_pos h2];clear h2
  go_enter Tryz.func123,Tryz.ntmps123
  go_wp2;go_ret;exact ⟨rfl,rfl⟩
 ·have hd:(r == 2)=false:=by simpa using h2
  rw [if_neg h2]
  by_cases h1:r=1
  ·have hd1:(r == 1)=true:=by simpa using h1
   rw [if_pos h1];clear h2 h1
   go_enter Tryz.func123,Tryz.ntmps123
   go_wp2;go_ret;exact ⟨rfl,rfl⟩
  ·have hd1:(r == 1)=false:=by simpa using h1
   rw [if_neg h1];clear h2 h1
   go_enter Tryz.func123,Tryz.ntmps123
   go_wp2;go_ret;exact ⟨rfl,rfl⟩
theorem bowners_any (k:Int) (w:World):Calls Tryz.prog 129 #[.int .i64 k] w fun e w'=>e = .returned (.bool (Bk.isOwners k))∧w'=w:=by
 rcases (show k=5∨k=6∨k=7∨k=8∨k=9∨k=11∨(k≠5∧k≠6∧k≠7∧k≠8∧k≠9∧k≠11) by omega) with rfl | rfl | rfl | rfl | rfl | rfl | ⟨h5,h6,h7,h8,h9,h11⟩
 case inr.inr.inr.inr.inr.inr =>
  have e:Bk.isOwners k=false:=by unfold Bk.isOwners; simp; omega
  have d5:(k == 5)=false:=by simpa using h5
  have d6:(k == 6)=false:=by simpa using h6
  have d7:(k == 7)=false:=by simpa using h7
  have d8:(k == 8)=false:=by simpa using h8
  have d9:(k == 9)=false:=by simpa using h9
  have d11:(k == 11)=false:=by simpa using h11
  rw [e];clear e h5 h6 h7 h8 h9 h11
  go_enter Tryz.func129,Tryz.ntmps129
  go_wp2;go_ret;exact ⟨rfl,rfl⟩
 all_goals
  go_enter Tryz.func129,Tryz.ntmps129
  go_wp2;go_ret;exact ⟨rfl,rfl⟩
theorem bexit_any {F:Fp} {g:Nat} {y:Ly} {w:World} {b:Br} (h:BrAt F g y w b) :
  Calls Tryz.prog 53 #[.pointer (some (at0 g))] w fun e w'=>e = .returned (MV (mexit b.code))∧Only Nay w w':=by
 have hc:∀ o,(w.alloc o).cell? ⟨g,26,none⟩=some (.int .i64 (b.code:Nat)):=fun o=>(nay_alloc w o).keepCell (fun h=>h) (h.row.cell 26 (.int .i64 (b.code:Nat)) rfl)
 clear h
 go_enter Tryz.func53,Tryz.ntmps53
 go_wp2;refine bodyPost_ret (v:=.agg #[.int .i64 15,.int .i64 (b.code:Nat),.int .i64 0,.string (str [])]) (by simp [results,Tryz.results53,go_sem]; rfl) rfl ⟨rfl,?_⟩;exact nay_alloc w _
theorem any_owner {s:Fl} (hf:FOk 16 s):anyOwner s=true↔∃ i,i∈s.roles.map (·.1)∧rrole s.roles i=2:=by
 unfold anyOwner;rw [List.any_eq_true]
 constructor
 ·rintro ⟨p,hp,h2⟩
  refine ⟨p.1,List.mem_map_of_mem hp,?_⟩;unfold rrole;rw [rget_of_mem hf.rising (show (p.1,p.2)∈s.roles from hp)]
  simpa using h2
 ·rintro ⟨i,hi,h2⟩
  obtain ⟨p,hp,rfl⟩:=List.mem_map.1 hi;refine ⟨p,hp,?_⟩;unfold rrole at h2;rw [rget_of_mem hf.rising (show (p.1,p.2)∈s.roles from hp)] at h2
  simpa using h2
theorem bfirst_any {F:Fp} {g:Nat} {rs:List (Int×Int)} {w:World} {b:Br} (h:BrIs F g rs w b) (hk:BOk b) (toType:Bool) :
    Calls Tryz.prog 120 #[.pointer (some (at0 g)),.bool toType] w fun e w'=>BGives F g rs w b (.int .i64 (Bk.firstRole b.fl toType)) e w':=by
  obtain ⟨y,rfl,h⟩:=h
  rcases toType with _ | _
  · have HG:=lj (h.gives (.int .i64 0))
    clear h hk
    go_enter Tryz.func120,Tryz.ntmps120
    go_wp2;go_ret;exact HG.out
  · have HU:=lj (tusers_any h.toTab hk.fok (by decide))
    have HB:=lj h;have hfk:=hk.fok;have hln:b.fl.roles.length≤16:=hfk.rn;clear h hk
    go_enter Tryz.func120,Tryz.ntmps120
    go_wp2_with fail
    refine HU.out.mono ?_;rintro e w1 ⟨F2,a,n,c,rfl,ht,hs,ho,hv,hc,hni⟩;obtain ⟨F3,hb3,hs3⟩:=HB.out.ofTab ht hs ho;obtain ⟨y3,hy3,hb3⟩:=hb3
    obtain ⟨l,hl⟩:∃ l,b.fl.roles.map (·.1)=l:=⟨_,rfl⟩
    have hany:anyOwner b.fl=true↔∃ i,i∈l∧rrole b.fl.roles i=2:=by rw [← hl]; exact any_owner hfk
    have hll:l.length=n:=by
      have:=hv.1;rw [hl] at this;unfold ints at this
      rwa [List.length_map] at this
    have hn16:n≤16:=by rw [← hll,← hl,List.length_map]; exact hln
    have hwf:∀ i∈l,wf64 i:=fun i hi=>by
      rw [← hl] at hi;obtain ⟨p,hp,rfl⟩:=List.mem_map.1 hi;have:=hfk.ids p hp;unfold wf64;simp [Lit.wf,IntKind.min,IntKind.max,IntKind.signed,IntKind.bits];omega
    have hcell:∀ j i,l[j]?=some i→∃ bb off,a=some ⟨bb,off,none⟩∧w1.cell? ⟨bb,off+j,none⟩=some (.int .i64 i):=fun j i hj=>by
      have hjn:j<l.length:=(List.getElem?_eq_some_iff.1 hj).1;obtain ⟨bb,off,e1,_,e3⟩:=hv.2.2 (by omega);refine ⟨bb,off,e1,e3 j _ ?_⟩;rw [hl];unfold ints;rw [List.getElem?_map,hj];rfl
    have HF:=lj (And.intro hany (And.intro hwf hcell));have HL:=lj hll;have HB3:=lj hb3;have HO:=lj (show (∀ x,Own1 F3 x→Own1 F x∨w.heap.size≤x)∧Only (Own1 F) w w1 from ⟨hs3,ho.mono fun x _ hx=>hx.elim (fun h=>⟨_,h⟩) (fun h=>⟨_,h⟩)⟩);have HK:=lj hfk;have HY:=lj hy3;clear ht hs ho hv hni HU hany hwf hcell hll hb3 hs3 hl hfk hy3 hln;go_wp2
    go_loopw [14] (fun p wr=>∃ j:Nat,p = .int .i64 (j:Nat)∧j≤n∧(∀ i,i<j→∀ x,l[i]?=some x→rrole b.fl.roles x≠2)∧∃ m,wr=w1.drewN m)
      (fun p _=>match p with | .int _ i=>((n:Int) - i).toNat | _=>0)
    case atStart =>
      exact ⟨0,rfl,Nat.zero_le _,fun i hi=>absurd hi (by omega),0,rfl⟩
    case round =>
      obtain ⟨j,rfl,hj,hno,m,rfl⟩:=hrel
      by_cases hjn:j=n
      · subst hjn
        have hnone:anyOwner b.fl=false:=by
          rw [Bool.eq_false_iff];intro h;obtain ⟨i,hi,h2⟩:=HF.out.1.1 h;obtain ⟨q,hq,rfl⟩:=List.mem_iff_getElem.1 hi;exact hno q (by rw [← HL.out]; exact hq) _ (List.getElem?_eq_getElem hq) h2
        have HE:=lj (show Bk.firstRole b.fl true=2 by unfold Bk.firstRole; rw [hnone]; rfl);clear hnone hno;go_wp2;go_ret;rw [HE.out];exact ⟨F3,rfl,⟨y3,HY.out,HB3.out.drewN m⟩,HO.out.1,HO.out.2.drewN m⟩
      · have hjl:j<l.length:=by rw [HL.out]; omega
        obtain ⟨bb,off,rfl,hcj⟩:=HF.out.2.2 j l[j] (List.getElem?_eq_getElem hjl);have hcj':(w1.drewN m).cell? ⟨bb,off+j,none⟩=some (.int .i64 l[j]):=hcj;have hIs:=lj (bowner_any (HB3.out.drewN m) HK.out l[j] (HF.out.2.1 _ (List.getElem_mem hjl)))
        obtain ⟨x,hx⟩:∃ x,l[j]=x:=⟨_,rfl⟩
        rw [hx] at hcj' hIs
        have hxl:l[j]?=some x:=by rw [List.getElem?_eq_getElem hjl,hx]
        clear hcj hx
        by_cases h2:rrole b.fl.roles x=2
        · have hyes:anyOwner b.fl=true:=HF.out.1.2 ⟨x,List.mem_of_getElem? hxl,h2⟩
          have HE:=lj (show Bk.firstRole b.fl true=1 by unfold Bk.firstRole; rw [hyes]; rfl)
          have hd:(rrole b.fl.roles x == 2)=true:=by simpa using h2
          rw [show (rrole ({ b with fl:=b.fl }:Br).fl.roles x == 2)=true from hd] at hIs;clear hyes hno h2 hxl hd
          go_wp2_with fail
          refine hIs.out.mono ?_;rintro e w5 ⟨rfl,m5,rfl⟩;go_wp2;go_ret;rw [HE.out];exact ⟨F3,rfl,⟨y3,HY.out,HB3.out.drewN (m+m5)⟩,HO.out.1,HO.out.2.drewN (m+m5)⟩
        · have hd:(rrole b.fl.roles x == 2)=false:=by simpa using h2
          rw [show (rrole ({ b with fl:=b.fl }:Br).fl.roles x == 2)=false from hd] at hIs
          have HNo:=lj (show ∀ i,i<j+1→∀ z,l[i]?=some z→rrole b.fl.roles z≠2 from fun i hi z hz=>by
            by_cases e:i=j
            · subst e
              rw [hxl] at hz
              injection hz with hz
              exact hz ▸ h2
            · exact hno i (by omega) z hz)
          clear hno h2 hxl hd
          go_wp2_with fail
          refine hIs.out.mono ?_;rintro e w5 ⟨rfl,m5,rfl⟩;go_wp2;go_roundw
          case rel=>exact ⟨j+1,by push_cast; rfl,by omega,HNo.out,m+m5,by simp⟩
          case measure=>simp; omega
end
section
open Go.RowKit Go.Shelf
open Fr Bk
section
variable {F:Fp} {g:Nat} {y:Ly} {w w':World} {b:Br}
theorem rrole_none {l:List (Int×Int)} (h:∀ p∈l,1≤p.1∧p.1≤16) {id:Int} (hid:¬ (1≤id∧id≤16)):rrole l id=0:=by
 unfold rrole
 rcases e:rget l id with _ | v
 ·rfl
 ·exact absurd (h _ (rget_mem e)) hid
theorem BrAt.there (h:BrAt F g y w b) (id:Int):(Bk.isThere b id=false∧rrole y.rs id=0) ∨
  ∃ (k:Nat) (c:Cn) (gc:Nat),id=(k:Nat)∧1≤k∧k≤16∧b.cs k=some c∧rrole y.rs ((k:Nat):Int)=(gc:Int)+1∧CnAt F k gc (y.cy k) b.cf.queue w c∧Bk.isThere b id=true∧id.toNat=k:=by
 unfold Bk.isThere
 by_cases hid:1≤id∧id≤16
 ·obtain ⟨k,hk⟩:∃ k,id.toNat=k:=⟨_,rfl⟩
  have hik:id=(k:Nat):=by omega
  rcases hc:b.cs k with _ | c
  ·refine .inl ⟨by rw [hk,hc]; simp,?_⟩
   rw [hik];exact h.none (by omega) (by omega) hc
  ·obtain ⟨gc,h1,h2⟩:=h.conn (by omega) (by omega) hc
   exact .inr ⟨k,c,gc,hik,by omega,by omega,hc,h1,h2,by rw [hk,hc]; simp [hid],hk⟩
 ·exact .inl ⟨by simp; intro h1 h2; omega,rrole_none h.rsok hid⟩
theorem BrAt.lookN (h:BrAt F g y w b) {id:Int} (hw:wf64 id) (h0:rrole y.rs id=0) :
  (Instr.lookup 80 (.map y.cm) (.int .i64 id) false).run Tryz.prog w = .ok (.pointer Option.none) w:=by
 have:=h.look hw;rw [h0] at this;exact this
theorem BrAt.lookS (h:BrAt F g y w b) {id:Int} (hw:wf64 id) {gc:Nat} (h0:rrole y.rs id=(gc:Int)+1) :
  (Instr.lookup 80 (.map y.cm) (.int .i64 id) false).run Tryz.prog w = .ok (.pointer (some (at0 gc))) w:=by
 have:=h.look hw;rw [h0,ptrOf_suc] at this;exact this
theorem q_take3 {z:Zo} {R:List Value} {G:Nat→Prop} {w:World} {g size:Nat} {l:Bs} (h:QuIs z G R w g size l) (t:Int) :
  Calls Tryz.prog 32 #[.pointer (some ⟨g,z.o,none⟩),.int .i64 t] w fun e w'=>e = .returned (.slice (some ⟨w.heap.size,0,none⟩) (takeN t l.length) (takeN t l.length))∧Bytes w' w'.heap.size (some ⟨w.heap.size,0,none⟩) (takeN t l.length) (l.take (takeN t l.length)) ∧
   QuIs z G R w' g size (l.drop (takeN t l.length))∧Only G w w'∧w.heap.size<w'.heap.size:=by
 obtain ⟨a,c,h,h1,h2,h3⟩:=h;have e0:takeN t l.length=_root_.Go.Proofs.YtdpagmcickkbmaaGreatDoor.takes t l.length:=rfl;rw [e0]
 refine (outq_take w h t).mono fun e w' ⟨he,ho,⟨a2,c2,hq,hi⟩,hO⟩=>⟨he,ho.bytes,⟨a2,c2,?_,h1,fun b hb=>h2 b (hi b hb),fun b hb=>Nat.lt_of_lt_of_le (h3 b hb) hO.size⟩,hO.mono fun b _ hb=>by subst hb; exact h1,(ho.row.lt w.heap.size rfl).2⟩
 rw [List.length_drop];exact hq
theorem q_take2 {z:Zo} {R:List Value} {G:Nat→Prop} {w:World} {g size:Nat} {l:Bs} (h:QuIs z G R w g size l) (t:Int) :
  Calls Tryz.prog 32 #[.pointer (some ⟨g,z.o,none⟩),.int .i64 t] w fun e w'=>e = .returned (.slice (some ⟨w.heap.size,0,none⟩) (takeN t l.length) (takeN t l.length))∧Bytes w' w'.heap.size (some ⟨w.heap.size,0,none⟩) (takeN t l.length) (l.take (takeN t l.length)) ∧
   QuIs z G R w' g size (l.drop (takeN t l.length))∧Only G w w':=(q_take3 h t).mono fun _ _ ⟨h1,h2,h3,h4,_⟩=>⟨h1,h2,h3,h4⟩
end
def WGives (F:Fp) (g:Nat) (w:World) (b2:Br) (t:Bs) (er:Nat) (e:Ending) (w':World):Prop:=
 ∃ A m c,EGives F g w b2 (.tuple #[.slice A m c,.int .i64 (er:Nat)]) e w'∧Bytes w' w'.heap.size A m t∧m≤c∧∀ p,A=some p→w.heap.size≤p.block
def WGivesO (F:Fp) (g:Nat) (w:World) (b2:Br) (t:Bs) (er:Nat) (e:Ending) (w':World):Prop:=
 ∃ A m c F2 rs,e = .returned (.tuple #[.slice A m c,.int .i64 (er:Nat)])∧BrIs F2 g rs w' b2∧(∀ x,Own1 F2 x→Own1 F x∨w.heap.size≤x)∧Only (Own1 F) w w'∧Bytes w' w'.heap.size A m t∧m≤c∧∀ p,A=some p→w.heap.size≤p.block∧p.block<w'.heap.size∧¬ Own1 F2 p.block
theorem bwriteo_any {F:Fp} {g:Nat} {rs:List (Int×Int)} {w:World} {b:Br} (h:BrIs F g rs w b) (hk:BOk b) (id n:Int) (hid:wf64 id):Calls Tryz.prog 16 #[.pointer (some (at0 g)),.int .i64 id,.int .i64 n] w fun e w' =>
  WGivesO F g w (writeB b id n) (writeT b id n) (writeE b id) e w':=by
 obtain ⟨y,rfl,h⟩:=h;have hm:=h.row.cell 24 (.map y.cm) rfl;unfold writeB writeE writeT
 rcases h.there id with ⟨h1,h2⟩ | ⟨k,c,gc,h3,h4,h5,h6,h7,h8,h9,h10⟩
 ·have hl:=h.lookN hid h2
  rw [h1];have HG:=lj (h.gives (.tuple #[.slice none 0 0,.int .i64 (2:Nat)]));clear h h1 h2 hk
  go_enter Tryz.func16,Tryz.ntmps16
  go_wp2;obtain ⟨F2,he,hb2,hs2,ho2⟩:=HG.out;exact bodyPost_ret (v:=.tuple #[.slice none 0 0,.int .i64 2]) (by simp [results,Tryz.results16,go_sem]) rfl ⟨none,0,0,F2,y.rs,rfl,hb2,hs2,ho2,Bytes.nil _,Nat.le_refl _,fun p hp=>by cases hp⟩
 ·have hl:=h.lookS hid (by rw [h3]; exact h7)
  have c5:=h8.bx.cell 5 (.pointer (some (at0 (y.cy k).gq))) rfl;have hq:=lj (q_take3 h8.qu n);rw [h9,h10,h6];have HB:=lj (And.intro h (And.intro h4 (And.intro h5 (And.intro h7 (And.intro h8 h6)))));have HK:=lj hk;clear h h3 h6 h7 h8 h9 h10 hk
  go_enter Tryz.func16,Tryz.ntmps16
  go_wp2_with fail
  refine hq.out.mono ?_;rintro e w1 ⟨rfl,hby,hqu,ho,hlt⟩;have HLT:=lj hlt;have hb1:=HB.out.1.cnQueue HB.out.2.1 HB.out.2.2.1 HB.out.2.2.2.1 HB.out.2.2.2.2.1 hqu (fun x hx=>.inl hx) ho;rw [upF_id] at hb1;have hcn:=HK.out.cn k c HB.out.2.2.2.2.2;have HS:=lj (bsettle_any ⟨y,rfl,hb1⟩ (HK.out.setc k (c:={ c with out:=c.out.drop (takeN n c.out.length) }) ⟨hcn.p,hcn.s,hcn.name,hcn.st⟩));have HO:=lj (show Only (Own1 F) w w1 from ho.mono fun x _ hx=>⟨_,hx⟩);have HW:=lj (And.intro hby (show ¬ Own1 F w.heap.size from fun h=>by have:=HB.out.1.lt h; omega));clear hby hqu ho hb1 hcn hq hlt
  go_wp2_with fail
  refine HS.out.mono ?_;rintro e w2 ⟨F2,rs2,rfl,hb2,hs2,ho2⟩;have HN:=lj (show w.heap.size<w2.heap.size∧¬ Own1 F2 w.heap.size from ⟨Nat.lt_of_lt_of_le HLT.out ho2.size,fun h=>(hs2 _ h).elim HW.out.2 fun h9=>by have:=HLT.out; omega⟩);have HE:=lj (And.intro hb2 (And.intro (show ∀ x,Own1 F2 x→Own1 F x∨w.heap.size≤x from fun x hx=>(hs2 x hx).imp (fun h=>h) fun h=>Nat.le_trans HO.out.size h) (And.intro (HO.out.trans ho2) (HW.out.1.only ho2 (Nat.le_refl _) (fun _ p hp=>by injection hp with hp; subst hp; exact HW.out.2)))));have hsz:=ho2.size;clear hb2 hs2 ho2 HS;go_wp2;exact bodyPost_ret (v:=.tuple #[.slice (some ⟨w.heap.size,0,none⟩) (takeN n c.out.length) (takeN n c.out.length),.int .i64 0]) (by simp [results,Tryz.results16,go_sem]) rfl ⟨_,_,_,F2,rs2,rfl,HE.out.1,HE.out.2.1,HE.out.2.2.1,Bytes.more HE.out.2.2.2 hsz,Nat.le_refl _,fun p hp=>by injection hp with hp; subst hp; exact ⟨Nat.le_refl _,HN.out⟩⟩
theorem bwrite_any {F:Fp} {g:Nat} {rs:List (Int×Int)} {w:World} {b:Br} (h:BrIs F g rs w b) (hk:BOk b) (id n:Int) (hid:wf64 id):Calls Tryz.prog 16 #[.pointer (some (at0 g)),.int .i64 id,.int .i64 n] w fun e w' =>
  WGives F g w (writeB b id n) (writeT b id n) (writeE b id) e w':=by
 refine (bwriteo_any h hk id n hid).mono ?_;rintro e w' ⟨A,m,c,F2,rs2,h1,h2,h3,h4,h5,h6,h7⟩;exact ⟨A,m,c,⟨F2,rs2,h1,h2,h3,h4⟩,h5,h6,fun p hp=>(h7 p hp).1⟩
end
section
open Go.RowKit Go.Shelf
open Fr Bk
def DGives (F:Fp) (g:Nat) (rs:List (Int×Int)) (w:World) (b2:Br) (t:Bs) (e:Ending) (w':World):Prop:=
 ∃ A m c F2,e = .returned (.slice A m c)∧BrIs F2 g rs w' b2∧(∀ x,Own1 F2 x→Own1 F x∨w.heap.size≤x)∧Only (Own1 F) w w'∧Bytes w' w'.heap.size A m t
theorem bdrain_any {F:Fp} {g:Nat} {rs:List (Int×Int)} {w:World} {b:Br} (h:BrIs F g rs w b) (n:Int):Calls Tryz.prog 28 #[.pointer (some (at0 g)),.int .i64 n] w fun e w' =>
  DGives F g rs w (drainB b n) (drainT b n) e w':=by
 obtain ⟨y,rfl,h⟩:=h;have HT:=lj (q_take2 h.toInp n);have HB:=lj h;unfold drainB drainT;clear h
 go_enter Tryz.func28,Tryz.ntmps28
 go_wp2_with fail
 refine HT.out.mono ?_;rintro e w1 ⟨rfl,hby,hq,ho⟩;obtain ⟨F2,hb2,hs2⟩:=HB.out.ofInp (b':={ b with inp:=b.inp.drop (takeN n b.inp.length) }) hq (fun x hx=>.inl hx) ho (fun _ _=>rfl) rfl rfl rfl rfl rfl;have HR:=lj (And.intro hb2 (And.intro hs2 (And.intro (ho.mono (T:=Own1 F) fun x _ hx=>hx.elim (fun h=>⟨_,h⟩) (fun h=>⟨_,h⟩)) hby)));clear hby hq ho hb2 hs2 HT;go_wp2;exact bodyPost_ret (v:=.slice (some ⟨w.heap.size,0,none⟩) (takeN n b.inp.length) (takeN n b.inp.length)) (by simp [results,Tryz.results28,go_sem]) rfl ⟨_,_,_,F2,rfl,HR.out.1,HR.out.2.1,HR.out.2.2.1,HR.out.2.2.2⟩
theorem bcut_any {F:Fp} {g:Nat} {rs:List (Int×Int)} {w:World} {b:Br} (h:BrIs F g rs w b) (hk:BOk b) (id:Int) (hid:wf64 id):Calls Tryz.prog 30 #[.pointer (some (at0 g)),.int .i64 id] w fun e w' =>
  EGives F g w (cutB b id) (.int .i64 (writeE b id:Nat)) e w':=by
 obtain ⟨y,rfl,h⟩:=h;have hm:=h.row.cell 24 (.map y.cm) rfl;unfold cutB writeE
 rcases h.there id with ⟨h1,h2⟩ | ⟨k,c,gc,h3,h4,h5,h6,h7,h8,h9,h10⟩
 ·have hl:=h.lookN hid h2
  rw [h1];have HG:=lj (h.gives (.int .i64 (2:Nat)));clear h h1 h2 hk
  go_enter Tryz.func30,Tryz.ntmps30
  go_wp2;go_ret;obtain ⟨F2,he,hb2,hs2,ho2⟩:=HG.out;exact ⟨F2,y.rs,rfl,hb2,hs2,ho2⟩
 ·have hl:=h.lookS hid (by rw [h3]; exact h7)
  rw [h9,h10];have HL:=lj (bleave_any ⟨y,rfl,h⟩ hk.fok h4 h5 h7);have HB:=lj (And.intro h (And.intro h4 (And.intro h5 (And.intro h7 (And.intro h6 h3)))));have HK:=lj (hk.leave k)
  have hsome:((Bk.leave b k).cs k).isSome=true:=by
   show ((leaveN 16 b k).cs k).isSome=true
   rw [(leaveN_le 16 b k).some k,h6]; rfl
  have HSm:=lj hsome;clear h h6 h7 h8 h9 h10 hk hsome;subst h3
  go_enter Tryz.func30,Tryz.ntmps30
  go_wp2_with fail
  refine HL.out.mono ?_;rintro e w1 ⟨F1,rfl,⟨y1,hy1,hb1⟩,hs1,ho1⟩;obtain ⟨c1,hc1⟩:=Option.isSome_iff_exists.1 HSm.out;obtain ⟨bm,wd,hcm,hrun,hyd,hod⟩:=hb1.del h4 h5 hc1;have cm:=hb1.row.cell 24 (.map y1.cm) rfl;rw [hcm] at cm
  have hk2:BOk (setc (Bk.leave b k) k none):=⟨HK.out.log,HK.out.data,HK.out.queue,HK.out.input,HK.out.idle,HK.out.strikes,HK.out.fok,HK.out.rin,HK.out.len,HK.out.told,HK.out.code,fun j c hj=>by
   replace hj:(if j=k then none else (Bk.leave b k).cs j)=some c:=hj
   by_cases e:j=k
   ·rw [if_pos e] at hj; cases hj
   ·rw [if_neg e] at hj; have:=HK.out.cn j c hj; exact ⟨this.p,this.s,this.name,this.st⟩⟩
  have HS:=lj (bsettle_any ⟨_,rfl,hyd⟩ hk2);have HO:=lj (show Only (Own1 F) w wd from ho1.trans' (hod.mono (T:=Own1 F1) fun x _ hx=>⟨5,hx⟩) hs1);have HS1:=lj hs1;clear hb1 hs1 ho1 hyd hod hk2 hc1 HL
  go_wp2_with fail
  refine HS.out.mono ?_;rintro e w2 ⟨F2,rs2,rfl,hb2,hs2,ho2⟩
  have HE:=lj (And.intro hb2 (And.intro (show ∀ x,Own1 F2 x→Own1 F x∨w.heap.size≤x from fun x hx=>by
   rcases hs2 x hx with h | h
   ·exact HS1.out x h
   ·exact .inr (Nat.le_trans HO.out.size h)) (HO.out.trans' ho2 HS1.out)))
  clear hb2 hs2 ho2 HS;go_wp2;go_ret;exact ⟨F2,rs2,rfl,HE.out.1,HE.out.2.1,HE.out.2.2⟩
theorem boutput_any {F:Fp} {g:Nat} {rs:List (Int×Int)} {w:World} {b:Br} (h:BrIs F g rs w b) (hk:BOk b) (hsp:Sp.Ok b.sp b.L.length) (A:Option Addr) (m cap B:Nat) (t:Bs) (ht:Bytes w B A m t) (hB:B≤w.heap.size) (hcap:m≤cap) (hne:0<m→∀ p,A=some p→¬ Own1 F p.block) (hlen:b.L.length+m≤1000000) :
  Calls Tryz.prog 27 #[.pointer (some (at0 g)),.slice A m cap] w fun e w'=>EGives F g w (outputB b t) (.int .i64 (outputE b:Nat)) e w':=by
 obtain ⟨y,rfl,h⟩:=h;have c25:=h.row.cell 25 (.bool b.ended) rfl
 by_cases hen:b.ended=false
 ·have e1:outputB b t=Bk.settle { b with L:=b.L ++ t,sp:=Sp.nxts b.sp t }:=by unfold outputB; rw [if_neg (by rw [hen]; simp)]
  have e2:outputE b=0:=by unfold outputE; rw [if_neg (by rw [hen]; simp)]
  rw [e1,e2];rw [hen] at c25;clear e1 e2;have hr:=h.toRing;have HA:=lj (append_ring hr A m cap t ht (fun h0 p hp=>⟨fun e=>hne h0 p hp (e ▸ ⟨1,h.gow⟩),fun e=>hne h0 p hp (e ▸ ⟨2,h.ring.1⟩)⟩) hcap hB (by omega));have HB:=lj h;have HK:=lj (And.intro hk (And.intro hsp (And.intro ht (And.intro hne hB))));have hml:=ht.1;clear h hr hk hsp ht hne
  go_enter Tryz.func27,Tryz.ntmps27
  go_wp2_with fail
  refine HA.out.mono ?_;rintro e w1 ⟨rfl,hr1,ho1⟩;have hb1:=HB.out.ofRing hr1 ho1
  have ho1':Only (Own1 F) w w1:=ho1.mono fun x _ hx=>by
   rcases hx with rfl | rfl
   ·exact ⟨1,HB.out.gow⟩
   ·exact ⟨2,HB.out.ring.1⟩
  have hby1:=HK.out.2.2.1.only ho1' HK.out.2.2.2.2 (fun h0 p hp=>HK.out.2.2.2.1 h0 p hp);have HP:=lj (sput_any g b.sp b.L.length A m cap B t w1 hb1.toSpot HK.out.2.1 hlen hby1 (Nat.le_trans HK.out.2.2.2.2 ho1'.size) (fun h0 p hp e=>HK.out.2.2.2.1 h0 p hp (e ▸ ⟨1,HB.out.gow⟩)));have HB1:=lj hb1;have HO1:=lj ho1';clear hr1 ho1 hb1 ho1' hby1 HA
  go_wp2_with fail
  refine HP.out.mono ?_;rintro e w2 ⟨rfl,ho2,hs2⟩;have hb2:=HB1.out.ofSpot hs2 ho2
  have ho2':Only (Own1 F) w1 w2:=ho2.mono fun x _ hx=>by rw [show x=g from hx]; exact ⟨1,HB.out.gow⟩
  have hk2:BOk ({ b with L:=b.L ++ t,sp:=Sp.nxts b.sp t }:Br):=⟨HK.out.1.log,HK.out.1.data,HK.out.1.queue,HK.out.1.input,HK.out.1.idle,HK.out.1.strikes,HK.out.1.fok,HK.out.1.rin,by show (b.L ++ t).length≤_; rw [List.length_append]; omega,HK.out.1.told,HK.out.1.code,fun j c hj=>by
   have:=HK.out.1.cn j c hj
   exact ⟨by show c.p≤(b.L ++ t).length; rw [List.length_append]; have:=this.p; omega,this.s,this.name,this.st⟩⟩
  have HS:=lj (bsettle_any hb2 hk2);have HO2:=lj (HO1.out.trans ho2');clear hb2 ho2 ho2' hs2 hk2 HP
  go_wp2_with fail
  refine HS.out.mono ?_;rintro e w3 ⟨F3,rs3,rfl,hb3,hs3,ho3⟩;have HE:=lj (And.intro hb3 (And.intro (show ∀ x,Own1 F3 x→Own1 F x∨w.heap.size≤x from fun x hx=>(hs3 x hx).imp (fun h=>h) fun h=>Nat.le_trans HO2.out.size h) (HO2.out.trans ho3)));clear hb3 hs3 ho3 HS;go_wp2;go_ret;exact ⟨F3,rs3,rfl,HE.out.1,HE.out.2.1,HE.out.2.2⟩
 ·replace hen:b.ended=true:=by simpa using hen
  have e1:outputB b t=b:=by unfold outputB; rw [if_pos hen]
  have e2:outputE b=3:=by unfold outputE; rw [if_pos hen]
  rw [e1,e2];rw [hen] at c25;clear e1 e2;have HG:=lj (h.gives (.int .i64 (3:Nat)));clear h hk hsp ht hne
  go_enter Tryz.func27,Tryz.ntmps27
  go_wp2;go_ret;obtain ⟨F2,he,hb2,hs2,ho2⟩:=HG.out;exact ⟨F2,y.rs,rfl,hb2,hs2,ho2⟩
end
section
open Go.RowKit Go.Shelf
open Fr Bk
def nameC (c:BitVec 8):Bool:=decide (32<c.toNat∧c.toNat<127)
theorem isName_eq (t:Bs):Bk.isName t=(!t.isEmpty && t.all nameC):=rfl
theorem str_empty (t:Bs):(str t).toList.isEmpty=t.isEmpty:=by
 rw [ByteArray.toList_eq];unfold str
 cases t <;> rfl
theorem bname_any (t:Bs) (w:World) (hl:t.length≤1000000):Calls Tryz.prog 104 #[.string (str t)] w fun e w'=>e = .returned (.bool (Bk.isName t))∧Only Nay w w':=by
 obtain ⟨c,w1,hrun,hby,hbl,hc,_⟩:=conv_tob w t;have HO:=lj (only_of_below hbl)
 have hcell:∀ j,j<t.length→w1.cell? ⟨w.heap.size,j,none⟩=some (.int .u8 (t[j]?.getD 0#8).toNat):=fun j hj=>by
  obtain ⟨b,off,e,_,h⟩:=hby.2 (by omega)
  injection e with e
  injection e with e1 e2 _
  have:=h j hj;rw [← e1,← e2,Nat.zero_add] at this;exact this
 have HC:=lj hcell;clear hby hbl hcell
 go_enter Tryz.func104,Tryz.ntmps104
 go_wp2
 obtain ⟨n,hn⟩:∃ n,t.length=n:=⟨_,rfl⟩
 rw [hn] at hrun hc HC hl ⊢
 go_loopw [8] (fun p wr=>∃ j:Nat,p = .int .i64 (j:Nat)∧j≤n∧(∀ i,i<j→nameC (t[i]?.getD 0#8)=true)∧wr=w1)
  (fun p _=>match p with | .int _ i=>((n:Int) - i).toNat | _=>0)
 case atStart =>
  exact ⟨0,rfl,Nat.zero_le _,fun i hi=>absurd hi (by omega),rfl⟩
 case round =>
  obtain ⟨j,rfl,hj,hno,rfl⟩:=hrel
  by_cases hjn:j=n
  ·subst hjn
   have hall:t.all nameC=true:=by
    rw [List.all_eq_true];intro x hx;obtain ⟨q,hq,rfl⟩:=List.mem_iff_getElem.1 hx;have:=hno q (by omega);rw [List.getElem?_eq_getElem hq] at this;exact this
   have HE:=lj (show Bk.isName t = !(str t).toList.isEmpty by rw [isName_eq,hall,str_empty]; simp);clear hall hno;go_wp2;go_ret;exact ⟨by rw [HE.out]; rfl,HO.out⟩
  ·have hjl:j<t.length:=by omega
   have hcj:=HC.out j (by omega)
   have hge:t[j]?.getD 0#8=t[j]:=by rw [List.getElem?_eq_getElem hjl]; rfl
   rw [hge] at hcj
   obtain ⟨v,hv⟩:∃ v,t[j].toNat=v:=⟨_,rfl⟩
   rw [hv] at hcj
   have hv8:v<256:=by rw [← hv]; exact t[j].isLt
   by_cases h32:v≤32
   ·have hd1:decide ((v:Int)≤32)=true:=by simp; omega
    have HE:=lj (show Bk.isName t=false by
     rw [isName_eq]
     have:t.all nameC=false:=by
      rw [Bool.eq_false_iff];intro h;have:=List.all_eq_true.1 h _ (List.getElem_mem hjl);unfold nameC at this;simp at this;omega
     rw [this]; simp)
    clear hno hge hv;go_wp2;go_ret;exact ⟨by rw [HE.out]; rfl,HO.out⟩
   ·have hd1:decide ((v:Int)≤32)=false:=by simp; omega
    by_cases h126:126<v
    ·have hd2:decide ((v:Int) > 126)=true:=by simp; omega
     have HE:=lj (show Bk.isName t=false by
      rw [isName_eq]
      have:t.all nameC=false:=by
       rw [Bool.eq_false_iff];intro h;have:=List.all_eq_true.1 h _ (List.getElem_mem hjl);unfold nameC at this;simp at this;omega
      rw [this]; simp)
     clear hno hge hv;go_wp2;go_ret;exact ⟨by rw [HE.out]; rfl,HO.out⟩
    ·have hd2:decide ((v:Int) > 126)=false:=by simp; omega
     have HNo:=lj (show ∀ i,i<j+1→nameC (t[i]?.getD 0#8)=true from fun i hi=>by
      by_cases e:i=j
      ·subst e
       rw [hge];unfold nameC;simp;omega
      ·exact hno i (by omega))
     clear hno hge hv;go_wp2;go_roundw
     case rel=>exact ⟨j+1,by push_cast; rfl,by omega,HNo.out,by first | rfl | trivial⟩
     case measure=>simp; omega
end
section
open Go.RowKit Go.Shelf
open Fr Bk
section
variable {F:Fp} {g:Nat} {y:Ly} {w w':World} {b:Br}
theorem BrAt.ofInp2 (h:BrAt F g y w b) {z:Zo} {G2:Nat→Prop} {b':Br} (hq:QuIs z G2 (IR b'.tot b'.ended) w' g (isz b') b'.inp) (hG:∀ x,G2 x→(F 1 x∨F 4 x)∨w.heap.size≤x) (hO:Only (fun x=>F 1 x∨F 4 x) w w')
  (hrow:∀ ia ic,z.row (.int .i64 (isz b':Nat) :: .slice ia b'.inp.length ic :: IR b'.tot b'.ended).toArray=rowOf b' { y with ia:=ia,ic:=ic })
  (e1:b'.cf=b.cf) (e2:b'.L=b.L) (e3:b'.sp=b.sp) (e4:b'.fl=b.fl) (e7:b'.cs=b.cs) :
  ∃ F2,BrIs F2 g y.rs w' b'∧(∀ x,Own1 F2 x→Own1 F x∨w.heap.size≤x):=by
 obtain ⟨ia,ic,hq,q1,q2,q3⟩:=hq
 have hsub:∀ x,(G2 x∧x≠g)→F 4 x∨w.heap.size≤x:=fun x hx=>by
  rcases hG x hx.1 with (h1 | h1) | h1
  ·exact absurd ((h.me x).1 h1) hx.2
  ·exact .inl h1
  ·exact .inr h1
 refine ⟨upF F 4 (fun x=>G2 x∧x≠g),⟨{ y with ia:=ia,ic:=ic },rfl,?_⟩,upF_own hsub⟩;refine ⟨h.fit.up hsub (fun x hx=>q3 x hx.1) hO.size,fun x=>by rw [upF_other (by decide)]; exact h.me x,by rw [← hrow]; exact hq.bx.bx,?_,by rw [e3]; exact h.spot,?_,?_,?_,h.rsok,?_,?_⟩
 ·rw [upF_other (by decide),e1,e2]; exact h.ring.keep hO (h.dis (by decide) (by decide))
 ·rw [upF_other (by decide),e4]; exact h.tab.keep hO (h.dis (by decide) (by decide))
 ·rw [upF_same]
  exact ⟨hq.small,hq.few,hq.mid,fun x hx=>⟨q2 x hx,fun e=>hq.apart (e ▸ hx)⟩⟩
 ·rw [upF_other (by decide)]; exact h.map.keep hO (h.dis (by decide) (by decide))
 ·intro k h1 h2
  rw [e1,e7];exact h.others hO (by decide) k h1 h2 rfl rfl
 ·exact h.base.step (hO.mono fun x _ hx=>hx.elim (fun h=>⟨_,h⟩) (fun h=>⟨_,h⟩)) (upF_own hsub)
end
theorem exit_ok {c:Nat} (h:c≤255):(mexit c).ok=true:=by
 unfold M.ok mexit;rw [Ms.rt_iff];refine ⟨rfl,?_,rfl,Nat.zero_le _⟩
 show Ms.okN (c:Int) true=true
 unfold Ms.okN;simp;omega
theorem bend_any {F:Fp} {g:Nat} {rs:List (Int×Int)} {w:World} {b:Br} (h:BrIs F g rs w b) (hk:BOk b) (code:Int):Calls Tryz.prog 31 #[.pointer (some (at0 g)),.int .i64 code] w fun e w' =>
  EGives F g w (endB b code) (.int .i64 (endE b code:Nat)) e w':=by
 obtain ⟨y,rfl,h⟩:=h;have c25:=h.row.cell 25 (.bool b.ended) rfl;have f25:=h.row.free 25;have c26:=h.row.cell 26 (.int .i64 (b.code:Nat)) rfl;have f26:=h.row.free 26
 by_cases hen:b.ended=true
 ·have e2:endE b code=3:=by unfold endE; rw [if_pos hen]
  have e1:endB b code=b:=by unfold endB; rw [if_neg (by rw [e2]; decide)]
  rw [e1,e2];rw [hen] at c25;have HG:=lj (h.gives (.int .i64 (3:Nat)));clear h hk e1 e2
  go_enter Tryz.func31,Tryz.ntmps31
  go_wp2;go_ret;obtain ⟨F2,he,hb2,hs2,ho2⟩:=HG.out;exact ⟨F2,y.rs,rfl,hb2,hs2,ho2⟩
 ·replace hen:b.ended=false:=by simpa using hen
  rw [hen] at c25
  by_cases hc:code<0∨255<code
  ·have e2:endE b code=1:=by unfold endE; rw [if_neg (by rw [hen]; simp),if_pos hc]
   have e1:endB b code=b:=by unfold endB; rw [if_neg (by rw [e2]; decide)]
   rw [e1,e2];have HG:=lj (h.gives (.int .i64 (1:Nat)));clear h hk e1 e2
   rcases (show code<0∨(¬ code<0∧255<code) by omega) with h0 | ⟨h0,h1⟩
   ·have d1:decide (code<0)=true:=by simpa using h0
    go_enter Tryz.func31,Tryz.ntmps31
    go_wp2;go_ret;obtain ⟨F2,he,hb2,hs2,ho2⟩:=HG.out;exact ⟨F2,y.rs,rfl,hb2,hs2,ho2⟩
   ·have d1:decide (code<0)=false:=by simpa using h0
    have d2:decide (code > 255)=true:=by simpa using h1
    go_enter Tryz.func31,Tryz.ntmps31
    go_wp2;go_ret;obtain ⟨F2,he,hb2,hs2,ho2⟩:=HG.out;exact ⟨F2,y.rs,rfl,hb2,hs2,ho2⟩
  ·obtain ⟨cd,rfl⟩:∃ cd:Nat,code=cd:=⟨code.toNat,by omega⟩
   have e2:endE b (cd:Int)=0:=by unfold endE; rw [if_neg (by rw [hen]; simp),if_neg hc]
   have e1:endB b (cd:Int)=Bk.settle (Bk.tell (mexit cd) { b with ended:=true,code:=cd,inp:=[] }):=by
    unfold endB;rw [if_pos e2];simp
   rw [e1,e2]
   have hcd:cd≤255:=by omega
   have d1:decide ((cd:Int)<0)=false:=by simp
   have d2:decide ((cd:Int) > 255)=false:=by simp; omega
   clear e1 e2 hc;have hO1:Only (fun x=>x=g) w ((w.setCell ⟨g,25,none⟩ (.bool true)).setCell ⟨g,26,none⟩ (.int .i64 (cd:Nat))):=(Bx.only g w 25 _).trans (Bx.only g _ 26 _)
   have hx1:Bx g ((w.setCell ⟨g,25,none⟩ (.bool true)).setCell ⟨g,26,none⟩ (.int .i64 (cd:Nat))) ((zi { b with ended:=true,code:=cd } y).row (.int .i64 (isz b:Nat) :: .slice y.ia b.inp.length y.ic :: IR b.tot b.ended).toArray):=
    (h.row.set 25 (.bool true)).set 26 (.int .i64 (cd:Nat))
   have f26':(w.setCell ⟨g,25,none⟩ (.bool true)).frozen? ⟨g,26,none⟩=false:=(h.row.set 25 (.bool true)).free 26;have c26':(w.setCell ⟨g,25,none⟩ (.bool true)).cell? ⟨g,26,none⟩=some (.int .i64 (b.code:Nat)):=(h.row.set 25 (.bool true)).cell 26 _ rfl
   have hq1:QuIs (zi { b with ended:=true,code:=cd } y) (fun x=>F 1 x∨F 4 x) (IR b.tot b.ended) ((w.setCell ⟨g,25,none⟩ (.bool true)).setCell ⟨g,26,none⟩ (.int .i64 (cd:Nat))) g (isz b) b.inp:=by
    obtain ⟨i1,i2,i3,i4⟩:=h.inp
    have hna:¬ In y.ia g:=fun e=>h.fit.ne h.gow (t:=4) (by decide) (i4 _ e)
    refine ⟨y.ia,y.ic,⟨⟨hx1⟩,Nat.zero_le _,i1,i2,i3.only hO1 (fun p hp e=>hna ⟨p,hp,e⟩),hna⟩,.inl h.gow,fun x hx=>.inr (i4 x hx),?_⟩;rintro x (hx | hx)
    ·exact Nat.lt_of_lt_of_le (h.fit.lt _ _ hx) hO1.size
    ·exact Nat.lt_of_lt_of_le (h.fit.lt _ _ hx) hO1.size
   have HE:=lj (iq_end hq1);have HB:=lj h;have HK:=lj hk;have HO1:=lj hO1;clear h hk hx1 hq1 hO1 c26 f26
   go_enter Tryz.func31,Tryz.ntmps31
   go_wp2_with fail
   refine HE.out.mono ?_;rintro e w2 ⟨G2,rfl,hq2,hs2,ho2⟩;have hO2:Only (fun x=>F 1 x∨F 4 x) w w2:=(HO1.out.mono (T:=fun x=>F 1 x∨F 4 x) fun x _ hx=>by rw [show x=g from hx]; exact .inl HB.out.gow).trans ho2;obtain ⟨F2,⟨y2,hy2,hb2⟩,hs2'⟩:=HB.out.ofInp2 (b':={ b with ended:=true,code:=cd,inp:=[] }) hq2 (fun x hx=>(hs2 x hx).imp (fun h=>h) fun h=>Nat.le_trans HO1.out.size h) hO2 (fun _ _=>rfl) rfl rfl rfl rfl rfl
   have hO3:Only (Own1 F) w w2:=hO2.mono fun x _ hx=>hx.elim (fun h=>⟨_,h⟩) (fun h=>⟨_,h⟩)
   have HX:=lj (bexit_any hb2);have HB2:=lj hb2;have HS2:=lj hs2';have HO3:=lj hO3;clear hq2 hs2 ho2 hO2 hb2 hs2' hO3 HE c26' f26'
   go_wp2_with fail
   refine HX.out.mono ?_;rintro e w3 ⟨rfl,ho3⟩;have HB3:=lj (show BrIs F2 g y2.rs w3 ({ b with ended:=true,code:=cd,inp:=[] }:Br) from ⟨y2,rfl,HB2.out.quiet ho3⟩);have HT:=lj (btell_any (mexit cd) HB3.out HK.out.fok (exit_ok hcd));have HO4:=lj (show Only (Own1 F) w w3 from HO3.out.trans (ho3.mono fun _ _ h=>h.elim));clear ho3 HX HB2
   go_wp2_with fail
   refine HT.out.mono ?_;rintro e w4 ⟨F4,rfl,hb4,hs4,ho4⟩
   have hk4:BOk (Bk.tell (mexit cd) { b with ended:=true,code:=cd,inp:=[] }):=BOk.tell (b:={ b with ended:=true,code:=cd,inp:=[] }) ⟨HK.out.log,HK.out.data,HK.out.queue,HK.out.input,HK.out.idle,HK.out.strikes,HK.out.fok,HK.out.rin,HK.out.len,HK.out.told,hcd,fun j c hj=>by
    have:=HK.out.cn j c hj
    exact ⟨this.p,this.s,this.name,this.st⟩⟩ (mexit cd)
   have HS:=lj (bsettle_any hb4 hk4)
   have HU4:=lj (show ∀ x,Own1 F4 x→Own1 F x∨w.heap.size≤x from fun x hx=>by
    rcases hs4 x hx with h | h
    ·exact HS2.out x h
    ·exact .inr (Nat.le_trans HO4.out.size h))
   have HO5:=lj (HO4.out.trans' ho4 HS2.out);clear hb4 hs4 ho4 hk4 HT
   go_wp2_with fail
   refine HS.out.mono ?_;rintro e w5 ⟨F5,rs5,rfl,hb5,hs5,ho5⟩
   have HZ:=lj (And.intro hb5 (And.intro (show ∀ x,Own1 F5 x→Own1 F x∨w.heap.size≤x from fun x hx=>by
    rcases hs5 x hx with h | h
    ·exact HU4.out x h
    ·exact .inr (Nat.le_trans HO5.out.size h)) (HO5.out.trans' ho5 HU4.out)))
   clear hb5 hs5 ho5 HS;go_wp2;go_ret;exact ⟨F5,rs5,rfl,HZ.out.1,HZ.out.2.1,HZ.out.2.2⟩
end
section
open Go.RowKit Go.Shelf
open Fr Bk
attribute [local go_sem] Oper.semAt_some
def IdleLe (b:Br) (n:Nat):Prop:=∀ k c,b.cs k=some c→c.idle≤n
theorem le_idle {b' b:Br} {n:Nat} (h:Le b' b) (hi:IdleLe b n):IdleLe b' n:=fun k c hc=>by
 obtain ⟨c0,h0,h1⟩:=h.cn k c hc;rw [h1.idle];exact hi k c0 h0
theorem tickC_le {b:Br} {n:Nat} (h:IdleLe b n) (k:Nat):IdleLe (tickC b k) (n+1):=by
 unfold tickC
 rcases hc:b.cs k with _ | c
 ·exact fun j c hj=>Nat.le_succ_of_le (h j c hj)
 ·have h1:IdleLe (setc b k (some { c with idle:=c.idle+1 })) (n+1):=fun j d hd=>by
   replace hd:(if j=k then some { c with idle:=c.idle+1 } else b.cs j)=some d:=hd
   split at hd
   ·injection hd with hd
    subst hd;have:=h k c hc
    show c.idle+1≤n+1
    omega
   ·exact Nat.le_succ_of_le (h j d hd)
  show IdleLe (if _ then Bk.shut (setc b k (some { c with idle:=c.idle+1 })) k 6 else setc b k (some { c with idle:=c.idle+1 })) (n+1)
  split
  ·exact le_idle (shut_le _ _ _) h1
  ·exact h1
theorem tickAll_le {b:Br} {n:Nat} (h:IdleLe b n):∀ j,j≤16→IdleLe ((ids.take j).foldl tickC b) (n+j):=by
  intro j
  induction j with
  | zero=>exact fun _=>h
  | succ j ih =>
    intro hj;rw [ids_take j (by omega),List.foldl_append];exact tickC_le (ih (by omega)) (j+1)
theorem _root_.Go.Proofs.YtdpagmcickkbmaaGreatDoor.Bk.BOk.tickC {b:Br} (h:BOk b) (k:Nat):BOk (tickC b k):=by
 unfold Bk.tickC
 rcases hc:b.cs k with _ | c
 ·exact h
 ·have hk:=h.cn k c hc
  have h1:BOk (setc b k (some { c with idle:=c.idle+1 })):=h.setc k ⟨hk.p,hk.s,hk.name,hk.st⟩
  show BOk (if _ then Bk.shut (setc b k (some { c with idle:=c.idle+1 })) k 6 else setc b k (some { c with idle:=c.idle+1 }))
  split
  ·exact h1.shut k 6
  ·exact h1
theorem tickAll_ok {b:Br} (h:BOk b) (l:List Nat):BOk (l.foldl tickC b):=by
 induction l generalizing b with
 | nil=>exact h
 | cons k l ih=>exact ih (h.tickC k)
theorem tickC_none {b:Br} {k:Nat} (h:b.cs k=none):tickC b k=b:=by
 unfold tickC;rw [h]
theorem tickC_some {b:Br} {k:Nat} {c:Cn} (h:b.cs k=some c):tickC b k=if b.cf.idle≠0∧b.cf.idle≤c.idle+1 then Bk.shut (setc b k (some { c with idle:=c.idle+1 })) k 6 else setc b k (some { c with idle:=c.idle+1 }):=by
 unfold tickC;rw [h]
theorem tick_take (b:Br) (j:Nat) (h:j<16):(ids.take (j+1)).foldl tickC b=tickC ((ids.take j).foldl tickC b) (j+1):=by
 rw [ids_take j h,List.foldl_append];rfl
theorem ftick_roles (s:Fl):(ftick s).roles=s.roles:=by
 unfold ftick outAt
 (repeat' split) <;> rfl
set_option maxHeartbeats 1000000 in
theorem btick_any {F:Fp} {g:Nat} {rs:List (Int×Int)} {w:World} {b:Br} (hb:BrIs F g rs w b) (hk:BOk b) {nn:Nat} (hi:IdleLe b nn) (hnn:nn≤1000000000) :
  Calls Tryz.prog 29 #[.pointer (some (at0 g))] w fun e w'=>EGives F g w (Bk.tickB b) (.tuple #[]) e w':=by
 have hOwn:∀ x,Own1 F x→x<w.heap.size:=by
  obtain ⟨y,rfl,h⟩:=hb
  exact fun x hx=>h.lt hx
 have hgF:Own1 F g:=by
  obtain ⟨y,rfl,h⟩:=hb;exact ⟨_,h.gow⟩
 have hgw:=hOwn g hgF;obtain ⟨y,rfl,hb⟩:=hb
 obtain ⟨b1,hb1e⟩:∃ b1:Br,{ b with fl:=ftick b.fl }=b1:=⟨_,rfl⟩
 have hk1:BOk b1:=by
  rw [← hb1e];refine ⟨hk.log,hk.data,hk.queue,hk.input,hk.idle,hk.strikes,hk.fok.tick,?_,hk.len,hk.told,hk.code,fun k c hc=>by have:=hk.cn k c hc; exact ⟨this.p,this.s,this.name,this.st⟩⟩;intro p hp;refine hk.rin p ?_
  show p∈b.fl.roles
  rw [← ftick_roles];exact hp
 have hi1:IdleLe b1 nn:=by rw [← hb1e]; exact hi
 have hfin:Bk.tickB b=Bk.settle (ids.foldl tickC b1):=by rw [← hb1e]; rfl
 rw [hfin];refine (callsIn_wide (n:=0)).1 ?_;refine callsIn_of_wp_marks Tryz.func29 rfl trivial ?_ rfl;simp only [Tryz.ntmps29,List.size_toArray,List.length_cons,List.length_nil,Nat.reduceAdd,Nat.reduceSub,Array.replicate_succ,Array.replicate_zero,List.push_toArray,List.append_toArray,List.nil_append,List.cons_append];have hbx:=Bx.new w _ rfl #[.pointer (some (at0 g))] 45;have hb0:=hb.quiet (nay_alloc w (.cells #[.pointer (some (at0 g))] 45))
 gi_wp2
 refine ⟨trivial,rfl,?_⟩;refine (callsIn_wide.2 (ttick_any hb0.toTab hk.fok (by decide))).mono ?_;rintro e w1 ⟨F1,rfl,ht1,hs1,ho1⟩;obtain ⟨F2,hb1,hs2⟩:=hb0.ofTab ht1 hs1 ho1
 have hs2':∀ x,Own1 F2 x→Own1 F x∨w.heap.size+1≤x:=fun x hx=>by have:=hs2 x hx; rwa [World.size_alloc] at this
 have hnb:¬ Own1 F w.heap.size:=fun h=>by have:=hOwn _ h; omega
 have ho1':Only (Own1 F) _ w1:=ho1.mono fun x _ hx=>hx.elim (fun h=>⟨1,h⟩) (fun h=>⟨3,h⟩)
 have hbx1:=hbx.keep ho1' hnb;have hO1:Only (Own1 F) w w1:=((nay_alloc w _).mono fun _ _ h=>h.elim).trans ho1'
 have hw1:w.heap.size+1≤w1.heap.size:=by have:=ho1'.size; rwa [World.size_alloc] at this
 rw [hb1e] at hb1;have hc0:=hbx1.cell 0 _ rfl;clear hb0 hbx ho1 ho1' hs2 hb ht1 hs1 hfin hb1e hk hi
 gi_wp2
 refine ⟨trivial,rfl,?_⟩;refine (callsIn_wide.2 (ball_any g _)).mono ?_;rintro e w' ⟨rfl,rfl⟩
 gi_wp2
 have hF1:∀ x,Own1 F2 x→x<w1.heap.size:=by
  obtain ⟨y,_,h⟩:=hb1
  exact fun x hx=>h.lt hx
 have hg1:Own1 F2 g:=by
  obtain ⟨y,_,h⟩:=hb1;exact ⟨_,h.gow⟩
 have hn1:¬ Own1 F2 w.heap.size:=fun h=>by
  rcases hs2' _ h with h | h
  ·exact hnb h
  ·omega
 have hb2:=hb1.quiet (nay_alloc w1 (.cells #[.pointer (some (at0 g))] 45));have hbx2:=hbx1.keep (nay_alloc w1 (.cells #[.pointer (some (at0 g))] 45)) (fun h=>h);have hbu2:=Bx.new w1 _ rfl #[.pointer (some (at0 g))] 45
 have hO2:Only (Own1 F2) w1 (w1.alloc (.cells #[.pointer (some (at0 g))] 45)):=(nay_alloc w1 _).mono fun _ _ h=>h.elim
 have hsz:(w1.alloc (.cells #[.pointer (some (at0 g))] 45)).heap.size=w1.heap.size+1:=by simp
 clear hb1 hc0;generalize w1.alloc (.cells #[.pointer (some (at0 g))] 45)=w2 at *
 have hX:∀ A A',(Bx w.heap.size A #[.pointer (some (at0 g))]∧Bx w1.heap.size A #[.pointer (some (at0 g))])→Only (fun x=>Own1 F2 x∨w2.heap.size≤x) A A'→(Bx w.heap.size A' #[.pointer (some (at0 g))]∧Bx w1.heap.size A' #[.pointer (some (at0 g))]):=fun A A' hx hO =>
  ⟨hx.1.keep hO (fun h=>h.elim hn1 (fun h=>by omega)),hx.2.keep hO (fun h=>h.elim (fun h=>by have:=hF1 _ h; omega) (fun h=>by omega))⟩
 have hF2:∀ x,Own1 F2 x→x<w2.heap.size:=fun x hx=>by have:=hF1 x hx; omega
 have hJ0:∀ W1,Only Nay w2 W1→UJ (fun j=>(ids.take j).foldl tickC b1) F2 g w2 (fun A=>Bx w.heap.size A #[.pointer (some (at0 g))]∧Bx w1.heap.size A #[.pointer (some (at0 g))]) w2.heap.size W1.heap.size 0 W1:=fun W1 hi =>
  ⟨⟨F2,y.rs,hb2.quiet hi,fun x hx=>.inl hx⟩,hi.mono fun _ _ h=>h.elim,⟨hbx2.keep hi (fun h=>h),hbu2.keep hi (fun h=>h)⟩,hi.size,Nat.le_refl _⟩
 clear hb2 hbx2 hbu2
 refine rf_law (gf:=76) (lb:=#[.pointer (some ⟨w1.heap.size,0,none⟩)]) (See:=SeeAll w1.heap.size g) rfl (enters_of Tryz.func76 (by kernel_rfl) rfl)
  (fun W3 _ _=>all1_ok _ g W3) rfl (Own1 F2) (UJ (fun j=>(ids.take j).foldl tickC b1) F2 g w2 (fun A=>Bx w.heap.size A #[.pointer (some (at0 g))]∧Bx w1.heap.size A #[.pointer (some (at0 g))]) w2.heap.size) (fun _ _ _=>False)
  (fun N k A B h hi=>h.mine hi hX (Nat.le_refl _) hF2 hg1) (fun _ _ _ _ h _=>h) hF2 hJ0
  (fun v=>{ tmps:=#[.pointer (some (at0 g)),.pointer (some ⟨w.heap.size,0,none⟩),v,.pointer (some (at0 g)),.pointer (some (at0 g)),.pointer (some ⟨g,13,none⟩),.tuple #[],.pointer (some (at0 g)),.func (.func 76) #[] #[.pointer (some ⟨w1.heap.size,0,none⟩)],v,undef,undef,undef,undef,undef,undef,undef,undef,undef,undef,undef,undef,undef,undef,undef,undef,undef,undef,undef,undef,undef,undef,undef,undef,undef,undef,undef,undef,undef,undef],defers:=[] })
  ?assign ?round ?done ?stop
 case assign =>
  intro l2 v W3 K hK
  gi_wp2
  exact hK
 case stop =>
  rintro D N c W3 hD hN h hK;exact h.elim
 case done =>
  rintro D N W3 hD hN hj hK;obtain ⟨F3,rs3,hb3,hs3⟩:=hj.is;have hk3:BOk (ids.foldl tickC b1):=tickAll_ok hk1 ids;have c0:=hj.ex.1.cell 0 _ rfl;have hbs:=lj (bsettle_any (show BrIs F3 g rs3 W3 (ids.foldl tickC b1) from hb3) hk3);have HJ:=lj hj;clear hj hJ0 hb3
  gi_wp2
  refine ⟨trivial,rfl,?_⟩;refine (callsIn_wide.2 hbs.out).mono ?_;rintro e w4 ⟨F4,rs4,rfl,hb4,hs4,ho4⟩
  have hDn:¬ Own1 F2 D:=fun h=>by have:=hF2 D h; omega
  have hD3:¬ Own1 F3 D:=fun h=>(hs3 D h).elim hDn (fun h=>by omega)
  have hD4:¬ Own1 F4 D:=fun h=>(hs4 D h).elim hD3 (fun h=>by have:=HJ.out.nS; omega)
  have hK4:=ho4.keepObj hD3 hK
  gi_wp2
  refine ⟨by simp,.inl ⟨_,_,rfl,run_takeDeferred hK4,?_⟩⟩;have hO7:Only (Mine D (D+1)) w4 (w4.putObj D (.deferred none)):=only_putObj _ ⟨Nat.le_refl _,Nat.lt_succ_self _⟩
  have hOw:Only (Own1 F) w w4:=by
   have h1:Only (Own1 F) w W3:=(hO1.trans' (hO2.trans HJ.out.only) fun x hx=>(hs2' x hx).imp id fun h=>by omega)
   refine h1.trans' ho4 fun x hx=>?_
   rcases hs3 x hx with h | h
   ·exact (hs2' x h).imp id fun h=>by omega
   ·exact .inr (by omega)
  refine ⟨_,results_none rfl _ _ _,F4,rs4,rfl,?_,?_,?_⟩
  ·exact hb4.mine hO7 (fun x hx=>by
    rcases Nat.lt_or_ge x D with h | h
    ·exact .inl h
    ·have:x≠D:=fun e=>hD4 (e ▸ hx)
     exact .inr (by omega)) (by omega)
  ·intro x hx
   rcases hs4 x hx with h | h
   ·rcases hs3 x h with h | h
    ·exact (hs2' x h).imp id fun h=>by omega
    ·exact .inr (by omega)
   ·exact .inr (by have:=HJ.out.nS; omega)
  ·exact hOw.trans' hO7 fun x hx=>.inr (by have:=hx.1; omega)
 case round =>
  intro N k W hN hk16 hj;obtain ⟨F',rs',hG1,hG2⟩:=hj.is
  have hG3:∀ x,Own1 F' x→x<w2.heap.size∨N≤x:=fun x hx=>(hG2 x hx).imp (hF2 x) id
  rcases hG1.seeA (N:=N) (hj.ex.2.cell 0 _ rfl) hk16 with ⟨h1,h2⟩ | ⟨c,gc,h1,hgc,h2⟩
  ·refine .inl ⟨h2,hj.same ?_⟩
   show (ids.take (k+1)).foldl tickC b1=_
   rw [tick_take b1 k hk16];exact tickC_none h1
  ·refine .inr ⟨_,h2,fun l W1 hi=>?_⟩
   have hj1:=hj.mine hi hX (Nat.le_refl _) hF2 hg1;have hG4:=hG1.mine hi hG3 (hF2 g hg1);have hcur:=tick_take b1 k hk16;have hkc:BOk ((ids.take k).foldl tickC b1):=tickAll_ok hk1 _;have hic:c.idle≤nn+k:=tickAll_le hi1 k (by omega) _ _ h1;generalize (ids.take k).foldl tickC b1=bk at *;obtain ⟨y,rfl,hy⟩:=hG4;obtain ⟨c2,hc2,hcn⟩:=BrIs.cn hy (by omega) (by omega) hgc;rw [h1] at hc2
   injection hc2 with hc2
   subst hc2;have d2:=hcn.bx.cell 2 (.int .i64 (c.idle:Nat)) rfl;have f2:=hcn.bx.free 2;have cb:=hj1.ex.1.cell 0 (.pointer (some (at0 g))) rfl;have hyS:=hy.cnCell (c':={ c with idle:=c.idle+1 }) (cy:=y.cy (k+1)) (by omega) (by omega) hgc hcn 2 (.int .i64 ((c.idle:Int)+1)) rfl rfl rfl rfl rfl rfl rfl hcn.vw hcn.vo
   have hkS:BOk (setc bk (k+1) (some { c with idle:=c.idle+1 })):=by have:=hkc.cn _ _ h1; exact hkc.setc _ ⟨this.p,this.s,this.name,this.st⟩
   have hOS:Only (Own1 F') W1 (W1.setCell ⟨gc,2,none⟩ (.int .i64 ((c.idle:Int)+1))):=(Bx.only gc W1 2 _).mono fun x _ hx=>by rw [show x=gc from hx]; exact ⟨_,hcn.own⟩
   have hw:wrap64 ((c.idle:Int)+1)=(c.idle:Int)+1:=IntWalk.wrap64_in ((c.idle:Int)+1) (by omega)
   have hgcw:gc≠w.heap.size:=fun e=>by
    have h9:Own1 F' w.heap.size:=e ▸ ⟨_,hcn.own⟩
    rcases hG2 _ h9 with h | h
    ·exact hn1 h
    ·omega
   have cb2:(W1.setCell ⟨gc,2,none⟩ (.int .i64 ((c.idle:Int)+1))).cell? ⟨w.heap.size,0,none⟩=some (.pointer (some (at0 g))):=(hj1.ex.1.other (fun e=>hgcw e) _).cell 0 _ rfl;have c6:=hyS.row.cell 6 (.int .i64 (bk.cf.idle:Nat)) rfl;obtain ⟨cS,hcS,hcnS⟩:=BrIs.cn hyS (by omega) (by omega) hgc;rw [setc_cs] at hcS
   injection hcS with hcS
   subst hcS;have d2S:=hcnS.bx.cell 2 (.int .i64 ((c.idle:Int)+1)) rfl;rw [tickC_some h1] at hcur;have HJ:=lj hj1;have HG:=lj (And.intro hG2 (And.intro hkS hOS));have HY:=lj hyS;have hidl:bk.cf.idle≤1000:=hkc.idle;clear hj hj1 hG1 hG3 hy hcn hcnS hkS hOS hyS hJ0 h2 hkc
   have hmix:Tryz.prog.follows .mixedOrders=true:=by kernel_rfl
   have hNX:∀ j,BrIs F' g y.rs ((W1.setCell ⟨gc,2,none⟩ (.int .i64 ((c.idle:Int)+1))).drewN j) (setc bk (k+1) (some { c with idle:=c.idle+1 })):=fun j=>⟨ycy y (k+1) (y.cy (k+1)),rfl,HY.out.drewN j⟩
   have HNX:=lj hNX;clear hNX hnn hic hidl
   by_cases hz:bk.cf.idle=0
   ·have hd:((bk.cf.idle:Int) != 0)=false:=by simp [hz]
    rw [if_neg (by simp [hz])] at hcur;clear h1 hz
    gi_wp2
    refine wp_quiet_round rfl hmix (by kernel_rfl) (by kernel_rfl) ?_
    repeat (gi_big_quiet_step (fail))
    refine wpQuietIn_nil ?_;rintro _ ⟨nq,rfl⟩
    gi_wp2
    exact HJ.out.next HG.out.1 (by show BrIs _ _ _ _ ((ids.take (k+1)).foldl tickC b1); rw [hcur]; exact HNX.out nq) (fun x hx=>.inl hx) (HG.out.2.2.drewN nq) hX (Nat.le_refl _)
   ·have hd:((bk.cf.idle:Int) != 0)=true:=by simp; omega
    by_cases hg:bk.cf.idle≤c.idle+1
    ·have hd2:decide ((c.idle:Int)+1 ≥ (bk.cf.idle:Int))=true:=by simp; omega
     rw [if_pos ⟨hz,hg⟩] at hcur;have HC:=lj (fun (W:World) (h:BrIs F' g y.rs W _)=>bshut_any 6 h HG.out.2.1.fok (by omega) (by omega) hgc (by decide));clear h1 hz hg
     gi_wp2
     refine wp_quiet_round rfl hmix (by kernel_rfl) (by kernel_rfl) ?_
     repeat (gi_big_quiet_step (fail))
     refine wpQuietIn_nil ?_;rintro _ ⟨nq,rfl⟩
     gi_wp2
     refine ⟨trivial,rfl,?_⟩;refine (CallsIn.inRound l (callsIn_wide.2 (HC.out _ (HNX.out nq)))).mono ?_;rintro e W7 ⟨F7,rfl,hb7,hs7,ho7⟩
     gi_wp2
     refine HJ.out.next HG.out.1 (F2:=F7) (rs:=y.rs) (by show BrIs _ _ _ _ ((ids.take (k+1)).foldl tickC b1); rw [hcur]; exact hb7) (fun x hx=>(hs7 x hx).imp id fun h=>?_) ((HG.out.2.2.drewN nq).trans ho7) hX (Nat.le_refl _);exact Nat.le_trans HG.out.2.2.size h
    ·have hd2:decide ((c.idle:Int)+1 ≥ (bk.cf.idle:Int))=false:=by simp; omega
     rw [if_neg (fun h=>hg h.2)] at hcur;clear h1 hz hg
     gi_wp2
     refine wp_quiet_round rfl hmix (by kernel_rfl) (by kernel_rfl) ?_
     repeat (gi_big_quiet_step (fail))
     refine wpQuietIn_nil ?_;rintro _ ⟨nq,rfl⟩
     gi_wp2
     exact HJ.out.next HG.out.1 (by show BrIs _ _ _ _ ((ids.take (k+1)).foldl tickC b1); rw [hcur]; exact HNX.out nq) (fun x hx=>.inl hx) (HG.out.2.2.drewN nq) hX (Nat.le_refl _)
end
section
open Go.RowKit Go.Shelf
open Fr Bk
attribute [local go_sem] Oper.semAt_some
structure SJ (F:Fp) (g:Nat) (rs:List (Int×Int)) (w:World) (b:Br) (n:Int) (B N j:Nat) (W:World):Prop where
 is:BrIs F g rs W b
 only:Only Nay w W
 bn:Bx w.heap.size W #[.int .i64 n]
 br:Bx (w.heap.size+1) W #[.pointer none]
 bu:Bx (w.heap.size+2) W #[.pointer (some (at0 g))]
 no:∀ i,i<j→opn b (i+1)=true→((i:Int)+1)≠n
 nB:B≤N
theorem SJ.mine {F:Fp} {g B N j:Nat} {rs:List (Int×Int)} {w W W':World} {b:Br} {n:Int} (h:SJ F g rs w b n B N j W) (hO:Only (Mine B N) W W') (hB:w.heap.size+3≤B) (hF:∀ x,Own1 F x→x<w.heap.size) (hg:Own1 F g):SJ F g rs w b n B N j W':=by
 have hnm:∀ {x:Nat},x<B→¬ Mine B N x:=fun hx e=>by have:=e.1; omega
 refine ⟨h.is.mine hO (fun x hx=>.inl (by have:=hF x hx; omega)) (by have:=hF g hg; omega),?_,h.bn.keep hO (hnm (by omega)),h.br.keep hO (hnm (by omega)),h.bu.keep hO (hnm (by omega)),h.no,h.nB⟩;exact (h.only.trans' hO fun x hx=>.inr (by have:=hx.1; omega))
structure SX (F:Fp) (g:Nat) (rs:List (Int×Int)) (w:World) (b:Br) (n:Int) (W:World):Prop where
 only:Only Nay w W
 got:∃ (k:Nat) (gc:Nat),(k:Int)=n∧1≤k∧k≤16∧opn b k=true∧rrole rs k=(gc:Int)+1∧Bx (w.heap.size+1) W #[.pointer (some (at0 gc))]
theorem SX.mine {F:Fp} {g B N:Nat} {rs:List (Int×Int)} {w W W':World} {b:Br} {n:Int} (h:SX F g rs w b n W) (hO:Only (Mine B N) W W') (hB:w.heap.size+3≤B):SX F g rs w b n W':=by
 obtain ⟨h1,k,gc,h2,h3,h4,h5,h6,h7⟩:=h;exact ⟨h1.trans' hO fun x hx=>.inr (by have:=hx.1; omega),k,gc,h2,h3,h4,h5,h6,h7.keep hO fun e=>by have:=e.1; omega⟩
def UserGives (rs:List (Int×Int)) (w:World) (b:Br) (n:Int) (e:Ending) (w':World):Prop:=
 Only Nay w w'∧((userB b n=none∧e = .returned (.pointer none))∨∃ (k gc:Nat),userB b n=some k∧(k:Int)=n∧1≤k∧k≤16∧opn b k=true∧rrole rs k=(gc:Int)+1∧e = .returned (.pointer (some (at0 gc))))
theorem userB_yes {b:Br} {k:Nat} (h1:1≤k) (h2:k≤16) (ho:opn b k=true):userB b (k:Nat)=some k:=by
 unfold userB;rw [show ((k:Nat):Int).toNat=k by omega,if_pos ⟨by omega,by omega,ho⟩]
theorem userB_no {b:Br} {n:Int} (h:∀ i,i<16→opn b (i+1)=true→((i:Int)+1)≠n):userB b n=none:=by
 unfold userB;rw [if_neg];rintro ⟨h1,h2,h3⟩;refine h (n.toNat - 1) (by omega) ?_ (by omega);rw [show n.toNat - 1+1=n.toNat by omega];exact h3
set_option maxHeartbeats 1000000 in
theorem buser_any {F:Fp} {g:Nat} {rs:List (Int×Int)} {w:World} {b:Br} (hb:BrIs F g rs w b) (n:Int) :
  Calls Tryz.prog 157 #[.pointer (some (at0 g)),.int .i64 n] w (UserGives rs w b n):=by
 have hOwn:∀ x,Own1 F x→x<w.heap.size:=by
  obtain ⟨y,rfl,h⟩:=hb
  exact fun x hx=>h.lt hx
 have hgF:Own1 F g:=by
  obtain ⟨y,rfl,h⟩:=hb;exact ⟨_,h.gow⟩
 have hgw:=hOwn g hgF;refine (callsIn_wide (n:=0)).1 ?_;refine callsIn_of_wp_marks Tryz.func157 rfl trivial ?_ rfl;simp only [Tryz.ntmps157,List.size_toArray,List.length_cons,List.length_nil,Nat.reduceAdd,Nat.reduceSub,Array.replicate_succ,Array.replicate_zero,List.push_toArray,List.append_toArray,List.nil_append,List.cons_append]
 gi_wp2
 refine ⟨trivial,rfl,?_⟩;refine (callsIn_wide.2 (busers_any g _)).mono ?_;rintro e w' ⟨rfl,rfl⟩;have hb1:=Bx.new w _ rfl #[.int .i64 n] 2;have hb2:=Bx.new (w.alloc (.cells #[.int .i64 n] 2)) (w.heap.size+1) (by simp) #[.pointer none] 88;have hb3:=Bx.new (((w.alloc (.cells #[.int .i64 n] 2)).alloc (.cells #[.pointer none] 88))) (w.heap.size+2) (by simp) #[.pointer (some (at0 g))] 45;have hO:Only Nay w (((w.alloc (.cells #[.int .i64 n] 2)).alloc (.cells #[.pointer none] 88)).alloc (.cells #[.pointer (some (at0 g))] 45)):=(((Only.refl Nay w).alloc _).alloc _).alloc _
 have hsz:(((w.alloc (.cells #[.int .i64 n] 2)).alloc (.cells #[.pointer none] 88)).alloc (.cells #[.pointer (some (at0 g))] 45)).heap.size=w.heap.size+3:=by simp
 replace hb1:=(hb1.keep (nay_alloc _ (.cells #[.pointer none] 88)) (fun h=>h)).keep (nay_alloc _ (.cells #[.pointer (some (at0 g))] 45)) (fun h=>h);replace hb2:=hb2.keep (nay_alloc _ (.cells #[.pointer (some (at0 g))] 45)) (fun h=>h);rw [World.size_alloc,World.size_alloc]
 gi_wp2
 generalize ((w.alloc (.cells #[.int .i64 n] 2)).alloc (.cells #[.pointer none] 88)).alloc (.cells #[.pointer (some (at0 g))] 45)=w3 at *
 have hJ0:∀ W1,Only Nay w3 W1→SJ F g rs w b n w3.heap.size W1.heap.size 0 W1:=fun W1 hi =>
  ⟨(hb.quiet hO).quiet hi,hO.trans hi,hb1.keep hi (fun h=>h),hb2.keep hi (fun h=>h),hb3.keep hi (fun h=>h),fun i hi=>absurd hi (by omega),hi.size⟩
 clear hb1 hb2 hb3 hb
 refine rf_law (gf:=82) (lb:=#[.pointer (some ⟨w.heap.size+1+1,0,none⟩)]) (See:=SeeUsers (w.heap.size+2) g w3.heap.size) rfl (enters_of Tryz.func82 (by kernel_rfl) rfl)
  (fun W3 _ hs=>users1_ok _ g _ W3 hs) rfl (fun x=>x=w.heap.size+1) (fun N k W=>SJ F g rs w b n w3.heap.size N k W) (fun _ c W=>c = .ret∧SX F g rs w b n W)
  (fun N k A B h hi=>h.mine hi (by omega) hOwn hgF) (fun _ _ _ _ h hi=>⟨h.1,h.2.mine hi (by omega)⟩) (fun x hx=>by omega) hJ0
  (fun v=>{ tmps:=#[.pointer (some (at0 g)),.int .i64 n,undef,.pointer (some ⟨w.heap.size,0,none⟩),.pointer (some ⟨w.heap.size+1,0,none⟩),v,.pointer (some (at0 g)),.func (.func 82) #[] #[.pointer (some ⟨w.heap.size+1+1,0,none⟩)],v,undef,undef,undef,undef,undef,undef,undef],defers:=[] })
  ?assign ?round ?done ?stop
 case assign =>
  intro l2 v W3 K hK
  gi_wp2
  exact hK
 case round =>
  intro N k W hN hk hj
  have hF3:∀ x,Own1 F x→x<w3.heap.size∨N≤x:=fun x hx=>.inl (by have:=hOwn x hx; omega)
  rcases hj.is.seeU (hj.bu.cell 0 _ rfl) hk hF3 with ⟨h1,h2⟩ | ⟨h1,gc,hgc,h2⟩
  ·refine .inl ⟨h2,⟨hj.is,hj.only,hj.bn,hj.br,hj.bu,fun i hi ho=>?_,hj.nB⟩⟩
   by_cases e:i=k
   ·subst e; rw [h1] at ho; cases ho
   ·exact hj.no i (by omega) ho
  ·refine .inr ⟨_,h2,fun l W1 hi=>?_⟩
   have hj1:=hj.mine hi (by omega) hOwn hgF;obtain ⟨y,hy,hbr⟩:=hj1.is;rw [← hy] at hgc;obtain ⟨c,hc,hcn⟩:=BrIs.cn hbr (by omega) (by omega) hgc;have d0:=hcn.bx.cell 0 (.int .i64 ((k+1:Nat):Int)) rfl;have n0:=hj1.bn.cell 0 (.int .i64 n) rfl
   have hmix:Tryz.prog.follows .mixedOrders=true:=by kernel_rfl
   have HJ:=lj (And.intro hj1 (And.intro h1 (And.intro hy hgc)));have hgc2:gc<W1.heap.size:=hcn.bx.room;clear hj hj1 h2 hJ0 hF3 hbr hcn hc
   push_cast at d0
   by_cases he:(k:Int)+1=n
   ·have hd:((k:Int)+1 == n)=true:=by simpa using he
    have hbr9:=fun j=>(HJ.out.1.br.drewN j)
    have hf9:=fun j=>(hbr9 j).free 0
    have hc9:=fun j=>(hbr9 j).cell 0 (.pointer none) rfl
    gi_wp2
    refine wp_quiet_round rfl hmix (by kernel_rfl) (by kernel_rfl) ?_
    repeat (gi_big_quiet_step (fail))
    refine wpQuietIn_nil ?_;rintro _ ⟨nq,rfl⟩;have hf:=hf9 nq;have hc:=hc9 nq
    gi_wp2
    refine ⟨((Only.refl _ W1).drewN nq).trans ((Bx.only (w.heap.size+1) (W1.drewN nq) 0 (.pointer (some (at0 gc)))).mono fun x _ hx=>.inl hx),rfl,?_,k+1,gc,by push_cast; exact he,by omega,by omega,HJ.out.2.1,by rw [← HJ.out.2.2.1]; exact HJ.out.2.2.2,(hbr9 nq).set 0 _⟩
    exact (HJ.out.1.only.drewN nq).trans' (Bx.only (w.heap.size+1) (W1.drewN nq) 0 (.pointer (some (at0 gc)))) fun x hx=>.inr (by rw [show x=w.heap.size+1 from hx]; omega)
   ·have hd:((k:Int)+1 == n)=false:=by simpa using he
    gi_wp2
    refine wp_quiet_round rfl hmix (by kernel_rfl) (by kernel_rfl) ?_
    repeat (gi_big_quiet_step (fail))
    refine wpQuietIn_nil ?_;rintro _ ⟨nq,rfl⟩
    gi_wp2
    have hj2:=HJ.out.1.mine ((Only.refl (Mine w3.heap.size N) W1).drewN nq) (by omega) hOwn hgF;refine ⟨(Only.refl _ W1).drewN nq,hj2.is,hj2.only,hj2.bn,hj2.br,hj2.bu,fun i hi ho=>?_,hj2.nB⟩
    by_cases e:i=k
    ·subst e; exact he
    ·exact hj2.no i (by omega) ho
 case done =>
  rintro D N W3 hD hN hj hK;have f0:=hj.br.free 0;have c0:=hj.br.cell 0 (.pointer none) rfl
  gi_wp2
  have hO9:Only (Mine D (D+1)) (W3.setCell ⟨w.heap.size+1,0,none⟩ (.pointer none)) ((W3.setCell ⟨w.heap.size+1,0,none⟩ (.pointer none)).putObj D (.deferred none)):=only_putObj _ ⟨Nat.le_refl _,Nat.lt_succ_self _⟩
  have hD3:¬ w.heap.size+1=D:=fun e=>by omega
  have hK1:(W3.setCell ⟨w.heap.size+1,0,none⟩ (.pointer none)).heap[D]?=some (.deferred (some [])):=(Bx.only (w.heap.size+1) W3 0 (.pointer none)).keepObj (fun e=>hD3 (show D=_ from e).symm) hK;have hr:=((hj.br.set 0 (.pointer none)).keep hO9 (fun e=>hD3 (by have:=e.1; have:=e.2; omega))).cell 0 (.pointer none) rfl;refine ⟨by simp,.inl ⟨_,_,rfl,run_takeDeferred hK1,?_⟩⟩;refine ⟨_,(show (results Tryz.f157 _).run Tryz.prog _ = .ok (.pointer none) _ by simp [results,Tryz.results157,go_sem,hr]),?_,.inl ⟨userB_no hj.no,rfl⟩⟩
  exact ((hj.only.trans' (Bx.only (w.heap.size+1) W3 0 (.pointer none)) fun x hx=>.inr (by rw [show x=w.heap.size+1 from hx]; omega))).trans' hO9 fun x hx=>.inr (by have:=hx.1; omega)
 case stop =>
  rintro D N c W3 hD hDN ⟨rfl,hj⟩ hK
  gi_wp2
  obtain ⟨h1,k,gc,h2,h3,h4,h5,h6,h7⟩:=hj;have hO9:Only (Mine D (D+1)) W3 (W3.putObj D (.deferred none)):=only_putObj _ ⟨Nat.le_refl _,Nat.lt_succ_self _⟩;have hr:=(h7.keep hO9 (fun e=>by have:=e.1; have:=e.2; omega)).cell 0 (.pointer (some (at0 gc))) rfl;refine ⟨by simp,.inl ⟨_,_,rfl,run_takeDeferred hK,?_⟩⟩;refine ⟨_,(show (results Tryz.f157 _).run Tryz.prog _ = .ok (.pointer (some (at0 gc))) _ by simp [results,Tryz.results157,go_sem,hr]),?_,.inr ⟨k,gc,by rw [← h2]; exact userB_yes h3 h4 h5,h2,h3,h4,h5,h6,rfl⟩⟩
  exact h1.trans' hO9 fun x hx=>.inr (by have:=hx.1; omega)
end
section
open Go.RowKit Go.Shelf
open Fr Bk
attribute [local go_sem] Oper.semAt_some
def isSome (b:Br) (k:Nat):Bool:=(b.cs k).isSome
def connsTo (b:Br) (j:Nat):List Int:=((ids.take j).filter (isSome b)).map fun (k:Nat)=>((k:Nat):Int)
structure CJ (F:Fp) (g:Nat) (rs:List (Int×Int)) (w:World) (b:Br) (B N j:Nat) (W:World):Prop where
 is:BrIs F g rs W b
 only:Only Nay w W
 bu:Bx (w.heap.size+1) W #[.pointer (some (at0 g))]
 row:∃ a n c,Bx w.heap.size W #[.slice a n c]∧Rw B W a n c (ints (connsTo b j))∧∀ x,In a x→N≤x
 nB:B≤N
 nS:N≤W.heap.size
theorem CJ.mine {F:Fp} {g B N j:Nat} {rs:List (Int×Int)} {w W W':World} {b:Br} (h:CJ F g rs w b B N j W) (hO:Only (Mine B N) W W') (hB:w.heap.size+2≤B) (hF:∀ x,Own1 F x→x<w.heap.size) (hg:Own1 F g):CJ F g rs w b B N j W':=by
 have hnm:∀ {x:Nat},x<B→¬ Mine B N x:=fun hx e=>by have:=e.1; omega
 obtain ⟨a,n,c,h1,h2,h3⟩:=h.row;refine ⟨h.is.mine hO (fun x hx=>.inl (by have:=hF x hx; omega)) (by have:=hF g hg; omega),?_,h.bu.keep hO (hnm (by omega)),⟨a,n,c,h1.keep hO (hnm (by omega)),h2.only hO (fun x hx e=>by have:=h3 x hx; have:=e.2; omega),h3⟩,h.nB,Nat.le_trans h.nS hO.size⟩
 exact h.only.trans' hO fun x hx=>.inr (by have:=hx.1; omega)
end
end Go.Proofs.YtdpagmcickkbmaaGreatDoor
