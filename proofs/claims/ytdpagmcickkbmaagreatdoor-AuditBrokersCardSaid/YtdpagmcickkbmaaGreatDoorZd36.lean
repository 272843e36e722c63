/- POrk -/
import Derived.Lib.AtoiTie
import Derived.Test.YtdpagmcickkbmaaGreatDoorZd35
namespace Go.Proofs.YtdpagmcickkbmaaGreatDoor
set_option maxRecDepth 100000
open Go.Lib renaming hid → lj
section
open Go.RowKit
open Dgs Orm
def bl (s:Bs):List UInt8:=s.map fun c=>(⟨c⟩:UInt8)
theorem bl_str (s:Bs):(str s).data.toList=bl s:=by simp [str,bl]
theorem dec_snoc {b:UInt8} {d:Nat} (hd:Lib.digitVal b=some d):∀ (l:List UInt8) (acc n:Nat),Lib.decFrom acc l=some n→Lib.decFrom acc (l ++ [b])=some (n * 10+d)
  | [],acc,n,h=>by
    simp only [Lib.decFrom,Option.some.injEq] at h;subst h;simp [Lib.decFrom,hd]
  | a :: l,acc,n,h=>by
    simp only [Lib.decFrom,List.cons_append] at h ⊢
    split at h
    · exact dec_snoc hd l _ n h
    · cases h
theorem digit_of {d:Nat} (h:d<10):Lib.digitVal (UInt8.ofNat (48+d))=some d:=by
 have e:(UInt8.ofNat (48+d)).toNat=48+d:=by
  rw [UInt8.toNat_ofNat'];omega
 unfold Lib.digitVal;rw [if_pos (by omega),e]
 congr 1
 omega
theorem dec_digits (u:Nat):Lib.decFrom 0 (Lib.decDigits u)=some u:=by
  induction u using Nat.strongRecOn with
  | ind u ih =>
    by_cases h:u<10
    · rw [Lib.decDigits_one h]
      have:=digit_of h;unfold Lib.decFrom;rw [this];simp [Lib.decFrom]
    · rw [Lib.decDigits,dif_neg h,dec_snoc (digit_of (d:=u % 10) (by omega)) _ _ _ (ih (u / 10) (by omega))]
      congr 1
      omega
theorem bl_dgs (u:Nat):bl (dgs u)=Lib.decDigits u:=by
 rw [← dgs_lib];unfold bl;rw [List.map_map]
 show List.map id _=_
 simp
theorem parse_dgs (n:Nat) (h:n≤1099511627776):Lib.parseIntB 64 (str (dgs n)).data.toList = .ok (n:Int):=by
  have hl:(dgs n).length≤13:=dgs_len n 12 (by omega)
  have hb:(bl (dgs n)).length≤18:=by unfold bl; simp; omega
  rw [bl_str,Lib.parseIntB_64,Lib.atoiAll_short _ hb];have hne:=dgs_ne n;have hd:=dgs_are n;have hdec:=dec_digits n;rw [← bl_dgs] at hdec
  revert hdec
  cases hc:dgs n with
  | nil=>exact absurd hc hne
  | cons c r =>
    intro hdec;have h1:=hd c (by rw [hc]; simp)
    have h45:((⟨c⟩:UInt8) == 45)=false:=by
      simp only [beq_eq_false_iff_ne];intro e;have:c.toNat=45:=congrArg UInt8.toNat e;have:=h1.1;omega
    have h43:((⟨c⟩:UInt8) == 43)=false:=by
      simp only [beq_eq_false_iff_ne];intro e;have:c.toNat=43:=congrArg UInt8.toNat e;have:=h1.1;omega
    have e1:bl (c :: r)=⟨c⟩ :: bl r:=rfl;rw [e1] at hdec ⊢;simp [Lib.atoi,h45,h43,Lib.decNat,hdec,Lib.NumEnd.ofOption]
theorem space_at (s:Bs):(Lib.indexByte (bl s) 32 = -1∧word s=s)∨(Lib.indexByte (bl s) 32=((word s).length:Nat)∧(word s).length<s.length):=by
  induction s with
  | nil=>left; exact ⟨rfl,rfl⟩
  | cons c s ih =>
    have e1:bl (c :: s)=⟨c⟩ :: bl s:=rfl;rw [e1]
    by_cases hc:c=32#8
    · subst hc
      right
      refine ⟨?_,?_⟩
      · simp [Lib.indexByte,word]
      · simp [word]
    · have h32:((⟨c⟩:UInt8) == 32)=false:=by
        simp only [beq_eq_false_iff_ne];intro e;exact hc (congrArg UInt8.toBitVec e)
      have hw:word (c :: s)=c :: word s:=by
        unfold word;rw [List.takeWhile_cons_of_pos (by simp [hc])]
      rw [hw]
      rcases ih with ⟨h1,h2⟩ | ⟨h1,h2⟩
      · left
        refine ⟨?_,by rw [h2]⟩;simp [Lib.indexByte,h32,h1]
      · right
        refine ⟨?_,by simp; omega⟩;simp only [Lib.indexByte,h32,h1];rw [if_neg (by simp),if_neg (by simp)];rfl
def rest (s:Bs):Bs:=s.drop ((word s).length+1)
def CutGives (w:World) (s:Bs) (e:Ending) (w':World):Prop:=
 ∃ f,e = .returned (.tuple #[.string (str (word s)),.string (str (rest s)),.bool f])∧∃ k,w'=w.drewN k
theorem word_take (s:Bs):s.take (word s).length=word s:=by
  induction s with
  | nil=>rfl
  | cons c s ih =>
    unfold word
    by_cases hc:c=32#8
    · subst hc; simp
    · rw [List.takeWhile_cons_of_pos (by simp [hc])]
      show c :: s.take (word s).length=_
      rw [ih];rfl
theorem icut_any (s:Bs) (w:World) (hl:s.length≤1000):Calls Tryz.prog 168 #[.string (str s),.string ⟨#[32]⟩] w (CutGives w s):=by
 have hi:=Tryz.stringslite_Index_one (str s) 32 w;have hsz:=str_size s;rw [bl_str] at hi
 rcases space_at s with ⟨h1,h2⟩ | ⟨h1,h2⟩
 ·rw [h1] at hi
  have HI:=lj hi;have HW:=lj h2;clear hi h1 h2
  go_enter Tryz.func168,Tryz.ntmps168
  go_wp2_with fail
  refine HI.out.mono ?_;rintro e w1 ⟨rfl,rfl⟩;go_wp2;refine bodyPost_ret (v:=.tuple #[.string (str s),.string ⟨#[]⟩,.bool false]) (by simp [results,Tryz.results168,go_sem]) rfl ⟨false,?_,0,rfl⟩
  have e1:rest s=[]:=by
   unfold rest;rw [HW.out];exact List.drop_eq_nil_of_le (by omega)
  rw [e1,HW.out];rfl
 ·rw [h1] at hi
  have HI:=lj hi;have hw:=word_take s;have hr:rest s=s.drop ((word s).length+1):=rfl;clear hi h1
  have e1:(str s).extract 0 (word s).length=str (word s):=by rw [s_cut,List.drop_zero,hw]
  have e2:(str s).extract ((word s).length+1) s.length=str (rest s):=by rw [s_cut,List.take_length,hr]
  have E:=lj (And.intro e1 e2);clear e1 e2 hw hr;generalize (word s).length=n at *
  go_enter Tryz.func168,Tryz.ntmps168
  go_wp2_with fail
  refine HI.out.mono ?_;rintro e w1 ⟨rfl,rfl⟩;go_wp2
  go_quiet (fail)
  go_wp2;refine bodyPost_ret (v:=.tuple #[.string ((str s).extract 0 n),.string ((str s).extract (n+1) s.length),.bool true]) (by simp [results,Tryz.results168,go_sem]) rfl ⟨true,?_,nq,rfl⟩;rw [E.out.1,E.out.2]
theorem cut_any (s:Bs) (w:World) (hl:s.length≤1000):Calls Tryz.prog 149 #[.string (str s),.string ⟨#[32]⟩] w (CutGives w s):=by
 go_enter Tryz.func149,Tryz.ntmps149
 go_wp2_with fail
 refine (icut_any s w hl).mono ?_;rintro e w1 ⟨f,rfl,k,rfl⟩;go_wp2;refine bodyPost_ret (v:=.tuple #[.string (str (word s)),.string (str (rest s)),.bool f]) (by simp [results,Tryz.results149,go_sem]) rfl ⟨f,rfl,k,rfl⟩
def IntGives (w:World) (d:Bs) (e:Ending) (w':World):Prop:=
 ∃ (n:Int) (v:Value),e = .returned (.tuple #[.int .i64 n,v])∧(∀ u:Nat,u≤1099511627776→d=dgs u→n=u)∧Below w.heap.size w w'
theorem pint_any (d:Bs) (w:World) (ht:TI w) (hl:d.length≤1000):Calls Tryz.prog 152 #[.string (str d),.int .i64 10,.int .i64 64] w (IntGives w d):=by
 have hsz:=str_size d
 rcases h:Lib.parseIntB 64 (str d).data.toList with v | _ | _
 ·refine (Tryz.strconv_ParseInt_10_at64_ok (str d) (by omega) v h w).mono ?_
  rintro e w' ⟨rfl,hw⟩;refine ⟨v,_,rfl,?_,?_⟩
  ·intro u hu e
   subst e;rw [parse_dgs u hu] at h
   injection h with h
   exact h.symm
  ·rcases hw with rfl | ⟨t,rfl⟩
   ·exact Below.refl _ _
   ·exact Lib.bytesWorld_below _ _ _
 ·obtain ⟨tp,p,hv⟩:=ht.es
  refine (Any.strconv_ParseInt_10_at64_syntax_var Tryz.laysC174 (str d) (by omega) h tp p w hv).mono ?_;rintro e w' ⟨N,rfl,_,_,hb⟩;refine ⟨0,_,rfl,?_,hb⟩;intro u hu e;subst e;rw [parse_dgs u hu] at h;cases h
 ·obtain ⟨tp,p,hv⟩:=ht.er
  refine (Tryz.strconv_ParseInt_10_at64_range_var (str d) (by omega) h tp p w hv).mono ?_;rintro e w' ⟨N,rfl,_,_,hb⟩;refine ⟨_,_,rfl,?_,hb⟩;intro u hu e;subst e;rw [parse_dgs u hu] at h;cases h
theorem kright_any (k:Int) (b:Bool) (h:(b=true∧1≤k∧k≤11)∨(b=false∧k<1)∨(b=false∧1≤k∧11<k)) (w:World):Calls Tryz.prog 171 #[.int .i64 k] w fun e w'=>e = .returned (.bool b)∧w=w':=by
 rcases h with ⟨rfl,h1,h2⟩ | ⟨rfl,h1⟩ | ⟨rfl,h1,h2⟩
 all_goals
  go_enter Tryz.func171,Tryz.ntmps171
  go_wp2;go_ret;exact ⟨by simp <;> omega,rfl⟩
theorem khas_any (k:Int) (b:Bool) (h:(b=true∧6≤k)∨(b=false∧k<6)) (w:World):Calls Tryz.prog 151 #[.int .i64 k] w fun e w'=>e = .returned (.bool b)∧w=w':=by
 rcases h with ⟨rfl,h1⟩ | ⟨rfl,h1⟩
 all_goals
  go_enter Tryz.func151,Tryz.ntmps151
  go_wp2;go_ret;exact ⟨by simp <;> omega,rfl⟩
def KindGives (w:World) (s:Bs) (e:Ending) (w':World):Prop:=
 w=w'∧∃ k:Nat,e = .returned (.int .i64 k)∧((1≤k∧k≤11∧wd k=s)∨(k=0∧∀ j,1≤j→j≤11→wd j≠s))
theorem kof_any (s:Bs) (w:World) (ht:TI w):Calls Tryz.prog 150 #[.string (str s)] w (KindGives w s):=by
 have hsz:=str_size s;have HT:=lj ht;clear ht
 go_enter Tryz.func150,Tryz.ntmps150
 go_wp2
 go_loop [3] (fun s3=>∃ k:Nat,1≤k∧k≤12∧s3 = .int .i64 k∧∀ j,1≤j→j<k→wd j≠s) (fun s3=>12 - (intOf s3).toNat)
 case atStart=>exact ⟨1,by omega,by omega,rfl,fun j h1 h2=>absurd h2 (by omega)⟩
 case round =>
  obtain ⟨k,hk0,hk1,rfl,hn⟩:=hrel;have HN:=lj hn;clear hn
  by_cases hk:k≤11
  ·have hw:=HT.out.words k (by omega)
   have hwl:=str_size (wd k);have hwl2:=wd_len k
   by_cases he:wd k=s
   ·have HE:=lj he
    rw [he] at hw
    have heq:((str s).toList == (str s).toList)=true:=by simp
    clear he hwl hwl2;go_wp2;go_ret;exact ⟨rfl,k,rfl,.inl ⟨hk0,hk,HE.out⟩⟩
   ·have heq:=str_ne he
    have HE:=lj he;clear he
    obtain ⟨x,hx⟩:∃ x,x=wd k:=⟨_,rfl⟩
    rw [← hx] at hw heq hwl hwl2;have HX:=lj hx;clear hx;go_wp2
    go_round
    case rel =>
     refine ⟨k+1,by omega,by omega,by go_num,fun j h1 h2=>?_⟩
     rcases (show j<k∨j=k by omega) with h | rfl
     ·exact HN.out j h1 h
     ·exact HE.out
    case measure=>simp [intOf]; omega
  ·obtain rfl:k=12:=by omega
   go_wp2;go_ret;exact ⟨rfl,0,rfl,.inr ⟨rfl,fun j h1 h2=>HN.out j h1 (by omega)⟩⟩
end
end Go.Proofs.YtdpagmcickkbmaaGreatDoor
