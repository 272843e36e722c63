/- PYj PYn -/
import Derived.Test.YtecjpkjbgknnnaaGreatDoorZd27
import Derived.Test.YtecjpkjbgknnnaaGreatDoorZd39
namespace Go.Proofs.YtecjpkjbgknnnaaGreatDoor
set_option maxRecDepth 100000
open Go.Lib renaming hid → lj
section
open Go.RowKit
open Tl
theorem says_error (e n:Nat) (he:e≤8) (hn:n≤1000000000):∀ p∈[Pt.text [101#8,114#8,114#8,111#8,114#8],.err e,.text [97#8,116#8],.num (n:Nat)],p.Says:=fun p hp=>by
 rcases List.mem_cons.1 hp with rfl | hp
 ·exact says_text _
 rcases List.mem_cons.1 hp with rfl | hp
 ·exact says_err e he
 rcases List.mem_cons.1 hp with rfl | hp
 ·exact says_text _
 rw [List.mem_singleton.1 hp];exact says_num n (by omega) (by omega)
theorem errorT_len (e n:Nat) (hn:n≤1000000000):(errorT e n).length≤100:=by
 have h1:=we_len e;have h2:=itoa_len (n:Nat) (by omega) (by omega)
 show ([101#8,114#8,114#8,111#8,114#8] ++ 32#8 :: (we e ++ 32#8 :: ([97#8,116#8] ++ 32#8 :: numT n))).length≤100
 simp only [List.length_append,List.length_cons,List.length_nil];omega
theorem Tr.new (w:World) (t:TypeId) (mv:Value):Tr w.heap.size w.heap.size (w.alloc (.cells #[.slice none 0 0,mv] t)) none 0 0 [] mv:=
 ⟨Bx.new w _ rfl #[.slice none 0 0,mv] t,Rw.nil _ _,fun ⟨p,hp,_⟩=>(by cases hp),Nat.le_refl _⟩
def RunNil (w:World) (e:Ending) (w':World):Prop:=∃ A c,e = .returned (.slice A 1 c)∧Vals w' w'.heap.size A 1 (strs [errorT 5 0])∧Below w.heap.size w w'
theorem run_nil (w:World) (ht:TW w):Calls Tryz.prog 15 #[.slice none 0 0] w (RunNil w):=by
 have HD:=lj (decode_any none 0 0 [] w ⟨rfl,fun h=>absurd h (by omega)⟩ (Nat.le_refl _) (by omega));have HT:=lj ht;clear ht
 go_enter Tryz.func15,Tryz.ntmps15
 go_wp2_with fail
 refine HD.out.mono ?_;rintro x w1 ⟨hb1,hd⟩
 have hd:x = .returned (.tuple #[.agg (cf8 fun _=>0),.slice none 0 0,.int .i64 0,.int .i64 5]):=by
  rcases hd with ⟨h,_⟩ | ⟨_,h⟩ | ⟨h,_⟩ | ⟨h,_⟩
  ·exact absurd h (by simp)
  ·exact h
  ·exact absurd h (by simp)
  ·exact absurd h (by simp)
 subst hd;have HB1:=lj hb1;clear hb1 HD;have e8:cf8 (fun _=>0)=cv 0 0 0 0 0 0 0 0:=rfl;rw [e8];unfold cv;have hx2:=Bx.new w1 _ rfl (cv 0 0 0 0 0 0 0 0) 38;have hb2:Below w1.heap.size w1 (w1.alloc (.cells (cv 0 0 0 0 0 0 0 0) 38)):=(Below.refl _ _).alloc (Nat.le_refl _) _;unfold cv at hx2 hb2
 go_upto_region 3 with fail
 generalize w1.alloc _=w2 at *;have z0:=hx2.cell 0 _ rfl;have z1:=hx2.cell 1 _ rfl;have z2:=hx2.cell 2 _ rfl;have z3:=hx2.cell 3 _ rfl;have z4:=hx2.cell 4 _ rfl;have z5:=hx2.cell 5 _ rfl;have z6:=hx2.cell 6 _ rfl;have z7:=hx2.cell 7 _ rfl;have HB2:=lj (HB1.out.trans (hb2.mono HB1.out.size));have HP:=lj (fun n=>pevents_no 0 0 0 0 0 0 0 0 (by decide) none n 0 w2);unfold cv at HP;clear hx2 hb2 HB1 hd e8
 go_wp2_with fail
 refine (HP.out _).mono ?_;rintro r w3 ⟨rfl,hb3⟩;have HB3:=lj (HB2.out.trans (hb3.mono HB2.out.size));clear hb3 HB2 HP z0 z1 z2 z3 z4 z5 z6 z7;have hmm:=@run_makeMap Tryz.prog
 go_upto_region 5 with fail
 have hz:(w3.alloc (.map #[] 0)).heap.size=w3.heap.size+1:=by simp
 have hT:=Tr.new (w3.alloc (.map #[] 0)) 62 (.map (some w3.heap.size));rw [hz] at hT;have hb4:Below w3.heap.size w3 ((w3.alloc (.map #[] 0)).alloc (.cells #[.slice none 0 0,.map (some w3.heap.size)] 62)):=((Below.refl _ _).alloc (Nat.le_refl _) _).alloc (by simp) _;have HB4:=lj (HB3.out.trans (hb4.mono HB3.out.size));have HTr:=lj hT;generalize (w3.alloc (.map #[] 0)).alloc (.cells #[.slice none 0 0,.map (some w3.heap.size)] 62)=w4 at *
 obtain ⟨gt,hgt⟩:∃ gt,w3.heap.size+1=gt:=⟨_,rfl⟩
 rw [hgt] at HTr;rw [hgt]
 have hgw:w.heap.size≤gt:=by have:=HB3.out.size; omega
 generalize w3.heap.size=g3 at *;clear hz hT hb4 HB3 hmm hgt;go_wp2
 go_loopw [34] (fun s wr=>s = .int .i64 0∧wr=w4) (fun _ _=>0)
 case atStart=>exact ⟨rfl,rfl⟩
 case round =>
  obtain ⟨rfl,rfl⟩:=hrel;have hp:=pvs_lit wr [Pt.text [101#8,114#8,114#8,111#8,114#8],.err 5,.text [97#8,116#8],.num (0:Nat)] _ rfl 70;have hb5:Below wr.heap.size wr (wr.alloc (.cells (pvs [Pt.text [101#8,114#8,114#8,111#8,114#8],.err 5,.text [97#8,116#8],.num (0:Nat)]).toArray 70)):=(Below.refl _ _).alloc (Nat.le_refl _) _
  have hsz:(wr.alloc (.cells (pvs [Pt.text [101#8,114#8,114#8,111#8,114#8],.err 5,.text [97#8,116#8],.num (0:Nat)]).toArray 70)).heap.size=wr.heap.size+1:=by simp
  have hB5:=HB4.out.trans (hb5.mono HB4.out.size);have HTe:=lj (tell_any (HTr.out.below hb5) (HT.out.below hB5) _ (says_error 5 0 (by decide) (by decide)) (show 4≤100 by decide) (show 0<4 by decide) (some ⟨wr.heap.size,0,none⟩) 4 4 rfl (by rw [hsz]; exact hp) (Nat.le_trans (errorT_len 5 0 (by decide)) (by decide)));have HB5:=lj hB5;clear hp hb5 hsz hB5 HB4 HTr;unfold pvs at HTe HB5;simp only [List.map_cons,List.map_nil,Pt.val,Pt.ty,Pt.pay] at HTe HB5
  go_wp2_with fail
  refine HTe.out.mono ?_;rintro r w6 ⟨A2,n2,c2,rfl,htr,ho,hA⟩;have hn2:=htr.len;obtain rfl:n2=1:=hn2;have c0:=htr.bx.cell 0 _ rfl
  have HF:=lj (show RunNil w (.returned (.slice A2 1 c2)) w6 from ⟨A2,c2,rfl,htr.row.vals,HB5.out.trans (ho.below HB5.out.size fun k hk h=>by
   rcases h with h | ⟨p,hp,_⟩
   ·omega
   ·cases hp)⟩)
  clear htr ho hA HTe HB5;go_wp2;exact bodyPost_ret (v:=.slice A2 1 c2) (by simp [results,Tryz.results15,go_sem]) rfl HF.out
end
section
open Go.RowKit Go.Deep
open Tl
theorem err50:str (errorT 5 0)=⟨#[101,114,114,111,114,32,115,104,111,114,116,32,97,116,32,48]⟩:=by kernel_rfl
theorem hex61:str (hexT [97#8,255#8])=⟨#[54,49,102,102]⟩:=by kernel_rfl
theorem gap12:str (lineM 7 1 2 [])=⟨#[103,97,112,32,49,32,50,32,45]⟩:=by kernel_rfl
theorem head_any (w:World) (ht:TW w):Calls Tryz.prog 5 #[] w fun e w'=>e = .returned (.bool true)∧Below w.heap.size w w':=by
 have HT:=lj ht;have HR:=lj (run_nil w ht);clear ht
 go_enter Tryz.func5,Tryz.ntmps5
 go_wp2_with fail
 refine HR.out.mono ?_;rintro e w1 ⟨A,c,rfl,hv,hb⟩;obtain ⟨bk,off,rfl,_,hc⟩:=hv.at (by decide);have hc0:=hc 0 (by decide);rw [show List.getD [errorT 5 0] 0 []=errorT 5 0 from rfl,err50,Nat.add_zero] at hc0;have HX:=lj (hex_any [97#8,255#8] (by decide) w1);rw [hex61] at HX;have HB:=lj hb;have HT1:=lj (HT.out.below hb);clear hv hc hb HR
 go_wp2_with fail
 refine HX.out.mono ?_;rintro e w2 ⟨rfl,hb2⟩;have HM:=lj (message_any 7 1 2 [] (by decide) (by decide) (by decide) w2 (HT1.out.below hb2));rw [gap12] at HM;have HB2:=lj (HB.out.trans (hb2.mono HB.out.size));clear hc0 HX hb2
 go_wp2_with fail
 refine HM.out.mono ?_;rintro e w3 ⟨rfl,hb3⟩;have HB3:=lj (HB2.out.trans (hb3.mono HB2.out.size));clear HM hb3
 go_wp2_with fail
 go_ret;exact ⟨rfl,HB3.out⟩
end
end Go.Proofs.YtecjpkjbgknnnaaGreatDoor
