/- PMsgw PMsgr PMsgp PMsgb PMsgf PAum -/
import Derived.Lib.AppendStr
import Derived.Test.YtdpagmcickkbmaaGreatDoorZd12
namespace Go.Proofs.YtdpagmcickkbmaaGreatDoor
set_option maxRecDepth 100000
open Go.Lib renaming hid → lj
section
open Go.RowKit
open Fr Ms
theorem fifteen {k:Int} (h:1≤k∧k≤15):k=1∨k=2∨k=3∨k=4∨k=5∨k=6∨k=7∨k=8∨k=9∨k=10∨k=11∨k=12∨k=13∨k=14∨k=15:=by omega
def LayGives (k:Int) (w:World) (e:Ending) (w':World):Prop:=
 e = .returned (.tuple #[.agg #[.int .i64 (nu k),.int .i64 (tx k)],.bool (isK k)])∧Below w.heap.size w w'
theorem lay_is {k:Int} {w w':World} {n t:Nat} (hn:nu k=n) (ht:tx k=t) (hk:isK k=true) (hb:Below w.heap.size w w') :
  LayGives k w (.returned (.tuple #[.agg #[.int .i64 n,.int .i64 t],.bool true])) w':=by
 subst hn ht;rw [← hk];exact ⟨rfl,hb⟩
theorem lay_not {k:Int} {w w':World} (h:¬ (1≤k∧k≤15)) (hb:Below w.heap.size w w') :
  LayGives k w (.returned (.tuple #[.agg #[.int .i64 0,.int .i64 0],.bool false])) w':=by
 have h1:nu k=0:=by unfold nu; rw [if_neg (by omega),if_neg (by omega)]
 have h2:tx k=0:=by unfold tx; rw [if_neg (by omega),if_neg (by omega),if_neg (by omega)]
 have h3:isK k=false:=by unfold isK; simpa using h
 unfold LayGives;rw [h1,h2,h3];exact ⟨rfl,hb⟩
set_option maxHeartbeats 1000000 in
theorem layout_any (k:Int) (w:World):Calls Tryz.prog 61 #[.int .i64 k] w (LayGives k w):=by
 by_cases h:1≤k∧k≤15
 ·rcases fifteen h with rfl | rfl | rfl | rfl | rfl | rfl | rfl | rfl | rfl | rfl | rfl | rfl | rfl | rfl | rfl
  all_goals
   go_enter Tryz.func61,Tryz.ntmps61
   go_wp2;refine bodyPost_ret (by simp [results,Tryz.results61,go_sem]; simp [nu,tx]) rfl (lay_is (n:=nu _) (t:=tx _) rfl rfl rfl ?_);exact (Below.refl _ _).alloc (Nat.le_refl _) _
 ·have e1:(k == 1)=false:=by simp; omega
  have e2:(k == 2)=false:=by simp; omega
  have e3:(k == 3)=false:=by simp; omega
  have e4:(k == 4)=false:=by simp; omega
  have e5:(k == 5)=false:=by simp; omega
  have e6:(k == 6)=false:=by simp; omega
  have e7:(k == 7)=false:=by simp; omega
  have e8:(k == 8)=false:=by simp; omega
  have e9:(k == 9)=false:=by simp; omega
  have e10:(k == 10)=false:=by simp; omega
  have e11:(k == 11)=false:=by simp; omega
  have e12:(k == 12)=false:=by simp; omega
  have e13:(k == 13)=false:=by simp; omega
  have e14:(k == 14)=false:=by simp; omega
  have e15:(k == 15)=false:=by simp; omega
  have HK:=lj h;clear h
  go_enter Tryz.func61,Tryz.ntmps61
  go_wp2;refine bodyPost_ret (v:=.tuple #[.agg #[.int .i64 0,.int .i64 0],.bool false]) (by simp [results,Tryz.results61,go_sem]) rfl (lay_not HK.out ?_);exact (Below.refl _ _).alloc (Nat.le_refl _) _
theorem lhead_any (n t N:Nat) (w:World) (hn:n≤2) (hN:N=6 * n) :
  Calls Tryz.prog 62 #[.agg #[.int .i64 n,.int .i64 t]] w fun e w'=>e = .returned (.int .i64 N)∧Below w.heap.size w w':=by
 have HN:=lj hN;clear hN
 go_enter Tryz.func62,Tryz.ntmps62
 go_wp2;go_ret;exact ⟨by rw [HN.out]; simp; omega,(Below.refl _ _).alloc (Nat.le_refl _) _⟩
theorem rnum_any (n:Int) (has:Bool) (w:World) :
  Calls Tryz.prog 64 #[.int .i64 n,.bool has] w fun e w'=>e = .returned (.bool (okN n has))∧w=w':=by
 cases has
 ·go_enter Tryz.func64,Tryz.ntmps64
  go_wp2;go_ret;exact ⟨ret_bool (by unfold okN; rw [Bool.eq_iff_iff]; simp),rfl⟩
 ·go_enter Tryz.func64,Tryz.ntmps64
  go_wp2
  all_goals
   go_ret;exact ⟨ret_bool (by unfold okN; rw [Bool.eq_iff_iff]; simp; try omega),rfl⟩
end
section
open Go.RowKit
open Fr Ms
theorem bcell {W w1:World} (hb:Below W.heap.size W w1):(∀ b o,b<W.heap.size→w1.cell? ⟨b,o,none⟩=W.cell? ⟨b,o,none⟩)∧(∀ b o,b<W.heap.size→w1.frozen? ⟨b,o,none⟩=W.frozen? ⟨b,o,none⟩):=
 ⟨fun b o h=>hb.cell (p:=⟨b,o,none⟩) h,fun b o h=>hb.frozen (p:=⟨b,o,none⟩) h⟩
theorem mright_any (k a b:Int) (s:ByteArray) (w:World) :
  Calls Tryz.prog 36 #[.agg #[.int .i64 k,.int .i64 a,.int .i64 b,.string s]] w fun e w'=>e = .returned (.bool (rt k a b s.size))∧Below w.heap.size w w':=by
 have HR:=lj (show rt k a b s.size=(isK k && okN a (decide (1≤nu k)) && okN b (decide (2≤nu k)) && decide (s.size≤tx k)) from rfl);have hn:=nu_cases k
 go_enter Tryz.func36,Tryz.ntmps36
 go_wp2_with fail
 refine (layout_any k _).mono ?_;rintro e w1 ⟨rfl,hb⟩;obtain ⟨hc,hf⟩:=bcell hb;have HB:=lj (Below.trans ((Below.refl _ _).alloc (Nat.le_refl _) _) (hb.mono (by simp)))
 have hz:w.heap.size<w1.heap.size:=by have:=hb.size; simp at this; omega
 generalize nu k=n at *;generalize tx k=t at *;generalize isK k=ok at *
 have e1:decide (1≤n)=decide ((n:Int) ≥ 1):=by rw [Bool.eq_iff_iff]; simp; omega
 have e2:decide (2≤n)=decide ((n:Int) ≥ 2):=by rw [Bool.eq_iff_iff]; simp; omega
 rw [e1,e2] at HR;clear e1 e2;cases ok
 ·go_wp2
  go_ret;exact ⟨ret_bool (by rw [HR.out]; rfl),HB.out.alloc HB.out.size _⟩
 ·go_wp2_with fail
  refine (rnum_any a _ _).mono ?_;rintro e w2 ⟨rfl,rfl⟩;generalize okN a (decide ((n:Int) ≥ 1))=oa at *;cases oa
  ·go_wp2
   go_ret;exact ⟨ret_bool (by rw [HR.out]; rfl),HB.out.alloc HB.out.size _⟩
  go_wp2_with fail
  refine (rnum_any b _ _).mono ?_;rintro e w2 ⟨rfl,rfl⟩;generalize okN b (decide ((n:Int) ≥ 2))=ob at *;cases ob
  ·go_wp2
   go_ret;exact ⟨ret_bool (by rw [HR.out]; rfl),HB.out.alloc HB.out.size _⟩
  go_wp2;go_ret;exact ⟨ret_bool (by rw [HR.out,Bool.eq_iff_iff]; simp),HB.out.alloc HB.out.size _⟩
def HasGives (k:Int) (w:World) (e:Ending) (w':World):Prop:=
 ∃ n t:Int,e = .returned (.tuple #[.int .i64 n,.int .i64 t])∧Below w.heap.size w w'∧(isK k=true→n=nu k∧t=tx k)∧(isK k=false→n = -1∧t = -1)
theorem has_is {k:Int} {w w':World} {n t:Int} (hk:isK k=true) (hn:n=nu k) (ht:t=tx k) (hb:Below w.heap.size w w') :
  HasGives k w (.returned (.tuple #[.int .i64 n,.int .i64 t])) w':=⟨n,t,rfl,hb,fun _=>⟨hn,ht⟩,fun h=>by rw [hk] at h; cases h⟩
theorem has_not {k:Int} {w w':World} (hk:¬ (1≤k∧k≤15)) (hb:Below w.heap.size w w') :
  HasGives k w (.returned (.tuple #[.int .i64 (-1),.int .i64 (-1)])) w':=⟨-1,-1,rfl,hb,fun h=>absurd (isK_iff.1 h) hk,fun _=>⟨rfl,rfl⟩⟩
theorem row16 (w:World) (v:Array Value) (t:TypeId) (K:Nat) (x:Value) (h:v[K]?=some x):(w.alloc (.cells v t)).cell? ⟨w.heap.size,K,none⟩=some x:=by
 rw [cell_of_row _ _ _ _ _ _ (heap_alloc_new _ _)];exact h
def nus:Array Value:=#[.int .i64 0,.int .i64 2,.int .i64 1,.int .i64 0,.int .i64 0,.int .i64 2,.int .i64 1,.int .i64 2,.int .i64 2,.int .i64 1,.int .i64 0,.int .i64 0,.int .i64 0,.int .i64 1,.int .i64 0,.int .i64 1]
def txs:Array Value:=#[.int .i64 0,.int .i64 20,.int .i64 2042,.int .i64 0,.int .i64 0,.int .i64 20,.int .i64 2042,.int .i64 0,.int .i64 0,.int .i64 0,.int .i64 80,.int .i64 80,.int .i64 0,.int .i64 0,.int .i64 0,.int .i64 0]
theorem fifteenN {k:Nat} (h:1≤k∧k≤15):k=1∨k=2∨k=3∨k=4∨k=5∨k=6∨k=7∨k=8∨k=9∨k=10∨k=11∨k=12∨k=13∨k=14∨k=15:=by omega
theorem nus_at (K:Nat) (h:1≤K∧K≤15):nus[K]?=some (.int .i64 (nu K)):=by
 rcases fifteenN h with rfl | rfl | rfl | rfl | rfl | rfl | rfl | rfl | rfl | rfl | rfl | rfl | rfl | rfl | rfl <;> rfl
theorem txs_at (K:Nat) (h:1≤K∧K≤15):txs[K]?=some (.int .i64 (tx K)):=by
 rcases fifteenN h with rfl | rfl | rfl | rfl | rfl | rfl | rfl | rfl | rfl | rfl | rfl | rfl | rfl | rfl | rfl <;> rfl
end
section
open Go.RowKit
open Fr Ms
theorem six_get (v:Int) (j:Nat) (h:j<6):(six v)[j]?.getD 0#8=BitVec.ofInt 8 (v / 2 ^ (8 * (5 - j))):=by
 rcases (show j=0∨j=1∨j=2∨j=3∨j=4∨j=5 by omega) with rfl | rfl | rfl | rfl | rfl | rfl <;> simp [six]
theorem take_get (l:Bs) (j:Nat) (h:j<l.length):l.take (j+1)=l.take j ++ [l[j]?.getD 0#8]:=by
 rw [List.take_add_one,List.getElem?_eq_getElem h];rfl
theorem one_newv (w:World) (x:BitVec 8) (v:Int) (hv:v=x.toNat):Bytes (w.alloc (.cells #[.int .u8 v] 5)) (w.heap.size+1) (some ⟨w.heap.size,0,none⟩) 1 [x]:=by
 subst hv;exact one_new w x
theorem byte_int (n:Int):n % 256=(BitVec.ofInt 8 n).toNat:=by
 rw [byte_nat];omega
theorem putn6_any (base:Nat) (A:Option Addr) (n c:Nat) (l:Bs) (v:Int) (w:World) (h0:0≤v) (h1:v≤1099511627776) (hown:Own base w A n c l) (hb:base≤w.heap.size) (hn:n≤1000000000) :
    Calls Tryz.prog 116 #[.slice A n c,.int .i64 v] w fun e w'=>∃ A' c',e = .returned (.slice A' (n+6) c')∧Own base w' A' (n+6) c' (l ++ six v)∧Below base w w':=by
  have HO:=lj hown;clear hown
  go_enter Tryz.func116,Tryz.ntmps116
  go_wp2
  go_loopw [0,5] (fun s i wr=>∃ (j:Nat) (x:Int) (A:Option Addr) (N c:Nat),j≤6∧x=5 - (j:Int)∧N=n+j∧i = .int .i64 x∧s = .slice A N c∧Own base wr A N c (l ++ (six v).take j)∧Below base w wr) (fun _ i _=>(intOf i+1).toNat)
  case atStart=>exact ⟨0,5,A,n,c,by omega,by omega,rfl,rfl,rfl,by simpa using HO.out,Below.refl _ _⟩
  case round =>
    obtain ⟨j,x,A1,N,c1,hj,hx,hN,rfl,rfl,hown,hbel⟩:=hrel;have HO1:=lj hown;have HB1:=lj hbel;have hsz:base≤wr.heap.size:=Nat.le_trans hb hbel.size;clear hown hbel
    have hN2:N≤1000000006:=by omega
    have HN:=lj hN;clear hN
    by_cases hlt:j<6
    · have hg:=six_get v j hlt
      have ht:=take_get (six v) j (by rw [six_len]; exact hlt);rw [hg] at ht;have HT:=lj ht;clear ht hg
      rcases (show j=0∨j=1∨j=2∨j=3∨j=4∨j=5 by omega) with rfl | rfl | rfl | rfl | rfl | rfl
      · obtain rfl:x=5:=by omega
        clear hx hj hlt
        go_wp2_with (first
          | (at_builtin
             refine wpList_put rfl (.tmp 10) (.tmp 16) rfl base A1 N c1 (l ++ (six v).take 0) rfl (HO1.out.below ((Below.refl _ _).alloc (Nat.le_refl _) _)) _ (some ⟨wr.heap.size,0,none⟩) 1 1 [BitVec.ofInt 8 (v / 2 ^ (8 * (5 - 0)))] rfl (one_newv wr _ _ (by rw [← byte_int]; simp; try omega)) (by omega) (by simp; omega) ?_;intro A2 c2 w2 hown hbel;have HO2:=lj hown;have HB2:=lj (Below.trans HB1.out (Below.trans ((Below.refl _ _).alloc hsz _) hbel))
             clear hown hbel))
        go_roundw
        case rel=>exact ⟨0+1,4,A2,N+1,c2,by omega,by omega,by have:=HN.out; omega,rfl,rfl,by rw [HT.out,← List.append_assoc]; exact HO2.out,HB2.out⟩
        case measure=>simp [intOf]
      · obtain rfl:x=4:=by omega
        clear hx hj hlt
        go_wp2_with (first
          | (at_builtin
             refine wpList_put rfl (.tmp 10) (.tmp 16) rfl base A1 N c1 (l ++ (six v).take 1) rfl (HO1.out.below ((Below.refl _ _).alloc (Nat.le_refl _) _)) _ (some ⟨wr.heap.size,0,none⟩) 1 1 [BitVec.ofInt 8 (v / 2 ^ (8 * (5 - 1)))] rfl (one_newv wr _ _ (by rw [← byte_int]; simp; try omega)) (by omega) (by simp; omega) ?_;intro A2 c2 w2 hown hbel;have HO2:=lj hown;have HB2:=lj (Below.trans HB1.out (Below.trans ((Below.refl _ _).alloc hsz _) hbel))
             clear hown hbel))
        go_roundw
        case rel=>exact ⟨1+1,3,A2,N+1,c2,by omega,by omega,by have:=HN.out; omega,rfl,rfl,by rw [HT.out,← List.append_assoc]; exact HO2.out,HB2.out⟩
        case measure=>simp [intOf]
      · obtain rfl:x=3:=by omega
        clear hx hj hlt
        go_wp2_with (first
          | (at_builtin
             refine wpList_put rfl (.tmp 10) (.tmp 16) rfl base A1 N c1 (l ++ (six v).take 2) rfl (HO1.out.below ((Below.refl _ _).alloc (Nat.le_refl _) _)) _ (some ⟨wr.heap.size,0,none⟩) 1 1 [BitVec.ofInt 8 (v / 2 ^ (8 * (5 - 2)))] rfl (one_newv wr _ _ (by rw [← byte_int]; simp; try omega)) (by omega) (by simp; omega) ?_;intro A2 c2 w2 hown hbel;have HO2:=lj hown;have HB2:=lj (Below.trans HB1.out (Below.trans ((Below.refl _ _).alloc hsz _) hbel))
             clear hown hbel))
        go_roundw
        case rel=>exact ⟨2+1,2,A2,N+1,c2,by omega,by omega,by have:=HN.out; omega,rfl,rfl,by rw [HT.out,← List.append_assoc]; exact HO2.out,HB2.out⟩
        case measure=>simp [intOf]
      · obtain rfl:x=2:=by omega
        clear hx hj hlt
        go_wp2_with (first
          | (at_builtin
             refine wpList_put rfl (.tmp 10) (.tmp 16) rfl base A1 N c1 (l ++ (six v).take 3) rfl (HO1.out.below ((Below.refl _ _).alloc (Nat.le_refl _) _)) _ (some ⟨wr.heap.size,0,none⟩) 1 1 [BitVec.ofInt 8 (v / 2 ^ (8 * (5 - 3)))] rfl (one_newv wr _ _ (by rw [← byte_int]; simp; try omega)) (by omega) (by simp; omega) ?_;intro A2 c2 w2 hown hbel;have HO2:=lj hown;have HB2:=lj (Below.trans HB1.out (Below.trans ((Below.refl _ _).alloc hsz _) hbel))
             clear hown hbel))
        go_roundw
        case rel=>exact ⟨3+1,1,A2,N+1,c2,by omega,by omega,by have:=HN.out; omega,rfl,rfl,by rw [HT.out,← List.append_assoc]; exact HO2.out,HB2.out⟩
        case measure=>simp [intOf]
      · obtain rfl:x=1:=by omega
        clear hx hj hlt
        go_wp2_with (first
          | (at_builtin
             refine wpList_put rfl (.tmp 10) (.tmp 16) rfl base A1 N c1 (l ++ (six v).take 4) rfl (HO1.out.below ((Below.refl _ _).alloc (Nat.le_refl _) _)) _ (some ⟨wr.heap.size,0,none⟩) 1 1 [BitVec.ofInt 8 (v / 2 ^ (8 * (5 - 4)))] rfl (one_newv wr _ _ (by rw [← byte_int]; simp; try omega)) (by omega) (by simp; omega) ?_;intro A2 c2 w2 hown hbel;have HO2:=lj hown;have HB2:=lj (Below.trans HB1.out (Below.trans ((Below.refl _ _).alloc hsz _) hbel))
             clear hown hbel))
        go_roundw
        case rel=>exact ⟨4+1,0,A2,N+1,c2,by omega,by omega,by have:=HN.out; omega,rfl,rfl,by rw [HT.out,← List.append_assoc]; exact HO2.out,HB2.out⟩
        case measure=>simp [intOf]
      · obtain rfl:x=0:=by omega
        clear hx hj hlt
        go_wp2_with (first
          | (at_builtin
             refine wpList_put rfl (.tmp 10) (.tmp 16) rfl base A1 N c1 (l ++ (six v).take 5) rfl (HO1.out.below ((Below.refl _ _).alloc (Nat.le_refl _) _)) _ (some ⟨wr.heap.size,0,none⟩) 1 1 [BitVec.ofInt 8 (v / 2 ^ (8 * (5 - 5)))] rfl (one_newv wr _ _ (by rw [← byte_int]; simp; try omega)) (by omega) (by simp; omega) ?_;intro A2 c2 w2 hown hbel;have HO2:=lj hown;have HB2:=lj (Below.trans HB1.out (Below.trans ((Below.refl _ _).alloc hsz _) hbel))
             clear hown hbel))
        go_roundw
        case rel=>exact ⟨5+1,-1,A2,N+1,c2,by omega,by omega,by have:=HN.out; omega,rfl,rfl,by rw [HT.out,← List.append_assoc]; exact HO2.out,HB2.out⟩
        case measure=>simp [intOf]
    · obtain rfl:j=6:=by omega
      obtain rfl:x = -1:=by omega
      go_wp2;go_ret;have hN:=HN.out;subst hN;exact ⟨A1,c1,rfl,by simpa [six] using HO1.out,HB1.out⟩
theorem ret_i64 {a b:Int} (h:a=b):Value.int .i64 a = .int .i64 b:=by rw [h]
theorem or_byte (m x:Nat) (hm:m<256 ^ 5) (hx:x<256):bits .or .i64 ((m:Int) * 256) (x:Int)=((256 * m+x:Nat):Int):=by
 have hm2:m<1099511627776:=hm
 have e:(BitVec.ofInt 64 ((m:Int) * 256) ||| BitVec.ofInt 64 (x:Int)).toNat=256 * m+x:=by
  rw [BitVec.toNat_or,BitVec.toNat_ofInt,BitVec.toNat_ofInt];rw [show ((m:Int) * 256 % (2 ^ 64:Nat)).toNat=m <<< 8 by rw [Nat.shiftLeft_eq]; omega,show ((x:Int) % (2 ^ 64:Nat)).toNat=x by omega];rw [← Nat.shiftLeft_add_eq_or_of_lt (by omega),Nat.shiftLeft_eq];omega
 show IntKind.i64.wrap ((BitVec.ofInt 64 ((m:Int) * 256) ||| BitVec.ofInt 64 (x:Int)).toNat:Int)=_
 rw [e,IntKind.wrap_i64];omega
theorem num6_any (a:Option Addr) (n cap B:Nat) (l:Bs) (w:World) (hl:Bytes w B a n l) (h6:6≤n) (hcap:n≤cap) :
  Calls Tryz.prog 63 #[.slice a n cap] w fun e w'=>e = .returned (.int .i64 (num6 l))∧w=w':=by
 obtain ⟨b,off,rfl,hbB,hc⟩:=hl.2 (by omega);have hlen:=hl.1;have HL:=lj hlen;clear hl hlen
 go_enter Tryz.func63,Tryz.ntmps63
 go_wp2
 go_loop [3,9] (fun t i=>∃ j:Nat,j≤6∧i = .int .i64 j∧t = .int .i64 (nat (l.take j))) (fun _ i=>6 - (intOf i).toNat)
 case atStart=>exact ⟨0,by omega,rfl,rfl⟩
 case round =>
  obtain ⟨j,hj,rfl,rfl⟩:=hrel
  by_cases hlt:j<6
  ·have hck:=hc j (by omega)
   have hs:nat (l.take (j+1))=256 * nat (l.take j)+(l[j]?.getD 0#8).toNat:=by
    rw [take_get l j (by have:=HL.out; omega),nat_snoc]
   have hlt2:nat (l.take j)<256 ^ 5:=nat_lt _ 5 (by simp; omega);have HS:=lj hs;clear hs hc;generalize nat (l.take j)=m at *;generalize l[j]?.getD 0#8=x at *;have h8:=x.isLt;go_wp2
   go_round
   case rel=>exact ⟨j+1,by omega,by go_num,ret_i64 (by rw [HS.out,or_byte m _ hlt2 h8])⟩
   case measure=>simp [intOf]; omega
  ·obtain rfl:j=6:=by omega
   go_wp2;go_ret;exact ⟨rfl,rfl⟩
end
section
open Go.RowKit
open Fr Ms
theorem strCells_str (t:Bs):Lib.strCells (str t)=t.map by8:=by
 unfold Lib.strCells str;simp [by8]
theorem step_puts {ops:Array Oper} {o:Oper} {a:Act} {w:World} {K:Act→World→Prop} {Q:Exit→Act→World→Prop} {E:Prop} (hgd:o.guard=none) (s x:Operand)
  (ho:o.op = .call { callee:=.builtin .append,args:=#[s,x],argTypes:=#[41,9] })
  (base:Nat) (A1:Option Addr) (n c1:Nat) (k:Bs) (hs:a.eval s = .slice A1 n c1) (hown:Own base w A1 n c1 k)
  (l:Bs) (hx:a.eval x = .string (str l)) (hroom:n+l.length≤1000000000) (hbase:base≤w.heap.size)
  (h:∀ A2 c2 w',Own base w' A2 (n+l.length) c2 (k ++ l)→Below base w w'→K (a.put o.dst (.slice A2 (n+l.length) c2)) w') :
  if Region.wanted o (yielded ops a.tmps)=true then Oper.wp Tryz.prog o a w K Q else E:=by
 have hw:Region.wanted o (yielded ops a.tmps)=true:=by simp [Region.wanted,hgd]
 rw [if_pos hw];obtain ⟨i0,hi0,hi1,hi2,hi3⟩:=byte_info;have hsz:=str_size l;obtain ⟨v',w',hrun,h1,h2,_⟩:=Lib.run_append_own_string (P:=Tryz.prog) w base 41 9 o.type 5 i0 Tryz.underlying41 Tryz.underlying9 hi0 hi1 hi2 hi3 _ n (k.map by8) hown.row (str l) (by unfold maxLen; omega) (by omega) hbase;rw [hsz,strCells_str,← List.map_append] at h1;obtain ⟨A2,c2,rfl,h4⟩:=Own.of_row h1;unfold Oper.wp execOp;simp only [ho,resolve,invoke,builtin,Sem.run_bind,Sem.run_pure,Result.andThen_ok,List.map_toArray,List.map_cons,List.map_nil,hs,hx,hrun];exact h A2 c2 w' h4 ((Below.refl _ _).grown h2 hbase (fun g hg=>(hown.row.lt g hg).1))
theorem own_set {base n c:Nat} {w:World} {a:Option Addr} {l:Bs} (h:Own base w a n c l) {p:Addr} (hp:p.block<base) (v:Value):Own base (w.setCell p v) a n c l:=by
 refine ⟨⟨h.row.1,?_⟩,h.cap⟩
 rcases h.row.2 with h1 | ⟨g,cap,cur,h1,h2,h3,h4⟩
 ·exact .inl h1
 ·exact .inr ⟨g,cap,cur,h1,h2,by rw [Below.heap_setCell _ _ _ _ (by omega)]; exact h3,h4⟩
theorem own_drew {base n c:Nat} {w:World} {a:Option Addr} {l:Bs} (h:Own base w a n c l):Own base w.drew a n c l:=⟨h.row.drew,h.cap⟩
end
section
open Go.RowKit
open Fr Ms
theorem fin_frame {k a b:Int} {t:Bs} {j N g:Nat} {w w8:World} {A6:Option Addr} {c6:Nat} (hj:nu k=j) (hN:N=6 * j) (hbd:body k a b t=(six a ++ six b).take (6 * j) ++ t)
  (ho:Own g w8 A6 (N+t.length) c6 ((six a ++ six b).take N ++ t)) (hb:Below w.heap.size w w8) (hg:w.heap.size≤g) :
  ∃ A c,Ending.returned (.tuple #[.agg #[.int .u8 (BitVec.ofInt 8 k).toNat,.slice A6 (N+t.length) c6],.bool true]) = .returned (.tuple #[.agg #[.int .u8 (BitVec.ofInt 8 k).toNat,.slice A (6 * nu k+t.length) c],.bool true])∧Own w.heap.size w8 A (6 * nu k+t.length) c (body k a b t)∧Below w.heap.size w w8:=by
 subst hj hN;rw [hbd];exact ⟨A6,c6,rfl,ho.mono hg,hb⟩
theorem frame_yes (k a b:Int) (t:Bs) (w:World) (hr:rt k a b t.length=true) :
  Calls Tryz.prog 101 #[.agg #[.int .i64 k,.int .i64 a,.int .i64 b,.string (str t)]] w fun e w'=>∃ A c,e = .returned (.tuple #[.agg #[.int .u8 (BitVec.ofInt 8 k).toNat,.slice A (6 * nu k+t.length) c],.bool true])∧Own w.heap.size w' A (6 * nu k+t.length) c (body k a b t)∧Below w.heap.size w w':=by
 obtain ⟨a0,a1⟩:=rt_a hr;obtain ⟨b0,b1⟩:=rt_b hr;have hk:=rt_k hr;have hK:=(rt_iff.1 hr).1;have hn:=nu_cases k;have ht:t.length≤2042:=Nat.le_trans (rt_n hr) (tx_le k);have HBD:=lj (show body k a b t=(six a ++ six b).take (6 * nu k) ++ t from rfl);have HR:=lj hr;have HK:=lj hK;clear hr hK
 go_enter Tryz.func101,Tryz.ntmps101
 go_wp2_with fail
 have hs1:(w.alloc (.cells #[.int .i64 k,.int .i64 a,.int .i64 b,.string (str t)] 38)).heap.size=w.heap.size+1:=by simp
 have hx:=(Bx.new w w.heap.size rfl #[.int .i64 k,.int .i64 a,.int .i64 b,.string (str t)] 38).go ((Below.refl _ _).alloc (Nat.le_refl _) (.cells #[.int .u8 0,.slice none 0 0] 96)) (Nat.le_of_eq hs1.symm);have hy:=Bx.new _ _ hs1 #[.int .u8 0,.slice none 0 0] 96;have hb:Below w.heap.size w ((w.alloc (.cells #[.int .i64 k,.int .i64 a,.int .i64 b,.string (str t)] 38)).alloc (.cells #[.int .u8 0,.slice none 0 0] 96)):=((Below.refl _ _).alloc (Nat.le_refl _) _).alloc (by simp) _;generalize (w.alloc (.cells #[.int .i64 k,.int .i64 a,.int .i64 b,.string (str t)] 38)).alloc (.cells #[.int .u8 0,.slice none 0 0] 96)=W at *;generalize hg:w.heap.size=g at *;have HG:=lj hg;have HX0:=lj hx;have HY0:=lj hy;have HB0:=lj hb;have hz0:g+2≤W.heap.size:=hy.room;clear hx hy hb hg hs1;refine (mright_any k a b (str t) _).mono ?_;rintro e w1 ⟨rfl,hb⟩;rw [str_size,HR.out];have HX1:=lj (HX0.out.go hb (by omega));have HY1:=lj (HY0.out.go hb (by omega));have HB1:=lj (Below.trans HB0.out (hb.mono (by omega)));have hz1:g+2≤w1.heap.size:=HY1.out.room;have hc0:w1.cell? ⟨g,0,none⟩=some (.int .i64 k):=HX1.out.cell 0 _ rfl;clear hb hz0 HX0 HY0 HB0
 go_wp2_with fail
 refine (layout_any k _).mono ?_;rintro e w2 ⟨rfl,hb⟩;rw [HK.out];have HX2:=lj (HX1.out.go hb (by omega));have HY2:=lj (HY1.out.go hb (by omega));have HB2:=lj (Below.trans HB1.out (hb.mono (by omega)));have hz2:g+2≤w2.heap.size:=HY2.out.room;have hc1:w2.cell? ⟨g,1,none⟩=some (.int .i64 a):=HX2.out.cell 1 _ rfl;have hc2:w2.cell? ⟨g,2,none⟩=some (.int .i64 b):=HX2.out.cell 2 _ rfl
 have hgz:g<w2.heap.size:=by omega
 clear hb hz1 HX1 HY1 HB1 hc0
 go_wp2_with fail
 have hs1:(w2.alloc (.cells #[.int .i64 (nu k),.int .i64 (tx k)] 119)).heap.size=w2.heap.size+1:=by simp
 have hb3:Below w2.heap.size w2 (w2.alloc (.cells #[.int .i64 (nu k),.int .i64 (tx k)] 119)):=(Below.refl _ _).alloc (Nat.le_refl _) _;have hb4:Below (w2.heap.size+1) (w2.alloc (.cells #[.int .i64 (nu k),.int .i64 (tx k)] 119)) ((w2.alloc (.cells #[.int .i64 (nu k),.int .i64 (tx k)] 119)).alloc (.cells #[.int .i64 a,.int .i64 b] 169)):=(Below.refl _ _).alloc (Nat.le_of_eq hs1.symm) _;have hb34:=Below.trans hb3 (hb4.mono (Nat.le_succ _));have hl:=(Bx.new w2 w2.heap.size rfl #[.int .i64 (nu k),.int .i64 (tx k)] 119).go hb4 (Nat.le_refl _);have ha:=Bx.new _ _ hs1 #[.int .i64 a,.int .i64 b] 169;have hx3:=HX2.out.go hb34 (by omega);have hy3:=HY2.out.go hb34 (by omega);have hb5:=Below.trans HB2.out (hb34.mono (by omega));clear hs1 hb3 hb4 hb34 HX2 HY2 HB2 hc1 hc2 hgz;generalize (w2.alloc (.cells #[.int .i64 (nu k),.int .i64 (tx k)] 119)).alloc (.cells #[.int .i64 a,.int .i64 b] 169)=w3 at *;generalize w2.heap.size=gl at *;have HX3:=lj hx3;have HY3:=lj hy3;have HB3:=lj hb5;have HL3:=lj hl;have HA3:=lj ha;have hz3:gl+2≤w3.heap.size:=ha.room;clear hx3 hy3 hb5 hl ha;have hsl:=str_size t;have hn2:nu k≤2:=nu_le k
 obtain ⟨R,hR⟩:∃ R:Nat,R=6 * nu k:=⟨_,rfl⟩
 obtain ⟨T,hT⟩:∃ T:Nat,T=t.length:=⟨_,rfl⟩
 have hR12:R≤12:=by omega
 have hT2:T≤2042:=by omega
 have hwr:IntKind.i64.wrap ((R:Int)+(T:Int))=(R:Int)+(T:Int):=IntWalk.i64_in _ (by omega)
 have hmk:=fun W=>make_room W ((R:Int)+(T:Int)) (R+T) (by omega) (by omega)
 rw [← hT] at hsl;have HT:=lj hT;have HRR:=lj hR;clear hT hn;have c30:w3.cell? ⟨gl,0,none⟩=some (.int .i64 (nu k)):=HL3.out.cell 0 _ rfl;have c31:w3.cell? ⟨gl,1,none⟩=some (.int .i64 (tx k)):=HL3.out.cell 1 _ rfl;have c32:w3.cell? ⟨g,3,none⟩=some (.string (str t)):=HX3.out.cell 3 _ rfl;have C30:=lj c30;have C31:=lj c31;have C32:=lj c32;clear c30 c31 c32 hR;generalize hnk:nu k=n at *;have HNK:=lj hnk;clear hnk;generalize tx k=tk at *
 go_region_held3 (fun w'=>w'.cell? ⟨gl,0,none⟩=some (.int .i64 n)∧w'.cell? ⟨gl,1,none⟩=some (.int .i64 tk)∧w'.cell? ⟨g,3,none⟩=some (.string (str t)))
  (first | exact ⟨r50,r51,r52⟩ | exact ⟨q50,q51,q52⟩ | exact ⟨C30.out,C31.out,C32.out⟩)
  (first
   | (go_at_call 62; refine (lhead_any n tk R _ hn2 HRR.out).mono ?_; rintro e w5 ⟨rfl,hb5⟩; have hb5:Below w3.heap.size w3.drew w5:=hb5; have HB5:=lj (below_back hb5); have q50:=(hb5.cell (p:=⟨gl,0,none⟩) (by simp; omega)).trans C30.out; have q51:=(hb5.cell (p:=⟨gl,1,none⟩) (by simp; omega)).trans C31.out; have q52:=(hb5.cell (p:=⟨g,3,none⟩) (by simp; omega)).trans C32.out; have hz5:w3.heap.size≤w5.heap.size:=hb5.size; have hb6:Below w5.heap.size w5 (w5.alloc (.cells (zb (R+T)) 5)):=(Below.refl _ _).alloc (Nat.le_refl _) _; have r50:=(hb6.cell (p:=⟨gl,0,none⟩) (by simp; omega)).trans q50; have r51:=(hb6.cell (p:=⟨gl,1,none⟩) (by simp; omega)).trans q51; have r52:=(hb6.cell (p:=⟨g,3,none⟩) (by simp; omega)).trans q52; clear hb5))
 have hb36:=Below.trans HB5.out (hb6.mono hz5);have HX6:=lj (HX3.out.go hb36 (by omega));have HY6:=lj (HY3.out.go hb36 (by omega));have HL6:=lj (HL3.out.go hb36 (by omega));have HA6:=lj (HA3.out.go hb36 (by omega));have HB6:=lj (Below.trans HB3.out (hb36.mono (by omega)));have HO6:=lj (made_new w5 (gl+2) (by omega) (R+T) (by omega))
 rename_i hh
 clear hh hwr hmk q50 q51 q52 r50 r51 r52 C30 C31 C32 hb6 hb36 HX3 HY3 HL3 HA3 HB3 HB5;generalize hw6:w5.alloc (.cells (zb (R+T)) 5)=w6 at *;have hz6:gl+2≤w6.heap.size:=HA6.out.room;generalize w5.heap.size=g5 at *;clear hw6 hz5 hz3;have c60:w6.cell? ⟨gl,0,none⟩=some (.int .i64 n):=HL6.out.cell 0 _ rfl
 have hn3:(n:Int)≤2:=by omega
 go_wp2_with fail
 go_loopw [7,36] (fun s i wr=>∃ (j:Nat) (A:Option Addr) (N c:Nat),j≤n∧N=6 * j∧i = .int .i64 j∧s = .slice A N c∧Own (gl+2) wr A N c ((six a ++ six b).take N)∧Bx g wr #[.int .i64 k,.int .i64 a,.int .i64 b,.string (str t)]∧Bx (g+1) wr #[.int .u8 0,.slice none 0 0]∧Bx (gl+1) wr #[.int .i64 a,.int .i64 b]∧Below g w wr) (fun _ i _=>n - (intOf i).toNat)
 case atStart=>exact ⟨0,_,0,R+T,by omega,rfl,rfl,rfl,HO6.out,HX6.out,HY6.out,HA6.out,HB6.out⟩
 case round =>
  obtain ⟨j,A1,N,c1,hj,hN,rfl,rfl,hown,hx,hy,ha,hbel⟩:=hrel;have HO1:=lj hown;have HX:=lj hx;have HY:=lj hy;have HA:=lj ha;have HB:=lj hbel;have HN:=lj hN;clear hown hx hy ha hbel;have hsz:gl+2≤wr.heap.size:=HA.out.room
  by_cases hlt:j<n
  ·have d0:wr.cell? ⟨gl+1,0,none⟩=some (.int .i64 a):=HA.out.cell 0 _ rfl
   have d1:wr.cell? ⟨gl+1,1,none⟩=some (.int .i64 b):=HA.out.cell 1 _ rfl
   rcases (show j=0∨j=1 by omega) with rfl | rfl
   ·obtain rfl:N=0:=by omega
    clear hN HN
    go_wp2_with fail
    refine (putn6_any (gl+2) A1 0 c1 _ a _ a0 a1 HO1.out hsz (by omega)).mono ?_;rintro e w7 ⟨A2,c2,rfl,hown,hb7⟩;have HO2:=lj hown;have HT7:=lj hb7;clear hown hb7 d0 d1;go_wp2;go_roundw
    case rel=>exact ⟨0+1,A2,0+6,c2,by omega,by omega,rfl,rfl,HO2.out,HX.out.go HT7.out (by omega),HY.out.go HT7.out (by omega),HA.out.go HT7.out (by omega),Below.trans HB.out (HT7.out.mono (by omega))⟩
    case measure=>simp [intOf]; omega
   ·obtain rfl:N=6:=by omega
    clear hN HN
    go_wp2_with fail
    refine (putn6_any (gl+2) A1 6 c1 _ b _ b0 b1 HO1.out hsz (by omega)).mono ?_;rintro e w7 ⟨A2,c2,rfl,hown,hb7⟩;have HO2:=lj hown;have HT7:=lj hb7;clear hown hb7 d0 d1;go_wp2;go_roundw
    case rel=>exact ⟨1+1,A2,6+6,c2,by omega,by omega,rfl,rfl,HO2.out,HX.out.go HT7.out (by omega),HY.out.go HT7.out (by omega),HA.out.go HT7.out (by omega),Below.trans HB.out (HT7.out.mono (by omega))⟩
    case measure=>simp [intOf]; omega
  ·obtain rfl:j=n:=by omega
   have hN6:N≤12:=by omega
   clear hN
   go_wp2_with fail
   have HOD:=lj (own_drew HO1.out);have d0:wr.cell? ⟨g,0,none⟩=some (.int .i64 k):=HX.out.cell 0 _ rfl;have d3:wr.cell? ⟨g,3,none⟩=some (.string (str t)):=HX.out.cell 3 _ rfl;have hszd:gl+2≤wr.drew.heap.size:=hsz;obtain ⟨hk1,hk2⟩:=hk
   refine have key:∀ A6 c6 w7,Own (gl+2) w7 A6 (N+t.length) c6 ((six a ++ six b).take N ++ t)→Below (gl+2) wr w7→(?postKey:Option Addr→Nat→World→Prop) A6 c6 w7:=?holdsKey; ?restKey
   case restKey =>
    go_region_law (first | ((with_reducible refine step_puts (o:=⟨some 50,_,_,_,_,_⟩) rfl (.tmp 47) (.tmp 49) rfl (gl+2) A1 N c1 _ rfl HOD.out t rfl (by omega) hszd ?_); intro A6 c6 w7 hown hbel; have hb7:Below (gl+2) wr w7:=⟨hbel.os,hbel.tape,hbel.output,hbel.size,hbel.block⟩; have f0:w7.cell? ⟨g,0,none⟩=some (.int .i64 k):=(HX.out.go hb7 (by omega)).cell 0 _ rfl; have f3:w7.cell? ⟨g,3,none⟩=some (.string (str t)):=(HX.out.go hb7 (by omega)).cell 3 _ rfl; have z0:=(HY.out.go hb7 (by omega)).free 0; have z1:=(HY.out.go hb7 (by omega)).free 1; have y0:w7.cell? ⟨g+1,0,none⟩=some (.int .u8 0):=(HY.out.go hb7 (by omega)).cell 0 _ rfl; have y1:w7.cell? ⟨g+1,1,none⟩=some (.slice none 0 0):=(HY.out.go hb7 (by omega)).cell 1 _ rfl) | fail)
    all_goals exact key A6 c6 w7 hown hb7
   intro A6 c6 w7 hown hb7;have hy8:Bx (g+1) ((w7.setCell ⟨g+1,0,none⟩ (.int .u8 (IntKind.u8.wrap k))).setCell ⟨g+1,1,none⟩ (.slice A6 (N+t.length) c6)) #[.int .u8 (IntKind.u8.wrap k),.slice A6 (N+t.length) c6]:=((HY.out.go hb7 (by omega)).set 0 _).set 1 _;have ho8:=own_set (own_set hown (p:=⟨g+1,0,none⟩) (by simp; omega) (.int .u8 (IntKind.u8.wrap k))) (p:=⟨g+1,1,none⟩) (by simp; omega) (.slice A6 (N+t.length) c6);have hb8:=((Below.trans HB.out (hb7.mono (by omega))).setCell (p:=⟨g+1,0,none⟩) (by simp) (.int .u8 (IntKind.u8.wrap k))).setCell (p:=⟨g+1,1,none⟩) (by simp) (.slice A6 (N+t.length) c6)
   have hkb:IntKind.u8.wrap k=(BitVec.ofInt 8 k).toNat:=by rw [← byte_int,IntKind.wrap_u8]
   rw [hkb] at hy8 ho8 hb8 ⊢;generalize ((w7.setCell ⟨g+1,0,none⟩ (.int .u8 (BitVec.ofInt 8 k).toNat)).setCell ⟨g+1,1,none⟩ (.slice A6 (N+t.length) c6))=w8 at *;have e0:w8.cell? ⟨g+1,0,none⟩=some (.int .u8 (BitVec.ofInt 8 k).toNat):=hy8.cell 0 _ rfl;have e1:w8.cell? ⟨g+1,1,none⟩=some (.slice A6 (N+t.length) c6):=hy8.cell 1 _ rfl;have HO8:=lj ho8;have HB8:=lj hb8;clear hy8 ho8 hb8 hkb hown hb7 d0 d3;go_wp2;refine bodyPost_ret (v:=.tuple #[.agg #[.int .u8 (BitVec.ofInt 8 k).toNat,.slice A6 (N+t.length) c6],.bool true]) (by simp [results,Tryz.results101,go_sem,e0,e1]) rfl ?_;have hg:=HG.out;have hbd:=HBD.out;have hN:=HN.out;subst hg;exact fin_frame HNK.out hN hbd HO8.out HB8.out (by omega)
end
section
open Go.RowKit
open Fr Ms
theorem lmhas_any (k:Int) (w:World) :
    Calls Tryz.prog 67 #[.int .i64 k] w (HasGives k w):=by
  by_cases h:1≤k∧k≤15
  · obtain ⟨K,rfl⟩:=Int.eq_ofNat_of_zero_le (show 0≤k by omega)
    have hk:isK K=true:=isK_iff.2 h;have c1:=row16 w nus 3 K _ (nus_at K (by omega));have c2:=row16 (w.alloc (.cells nus 3)) txs 3 K _ (txs_at K (by omega))
    have c3:((w.alloc (.cells nus 3)).alloc (.cells txs 3)).heap.size=w.heap.size+2:=by simp
    have h1:(1:Int)≤K:=h.1;have h2:(K:Int)≤15:=h.2
    have h3:K<16:=by omega
    unfold nus at c1 c2;unfold txs at c2;rw [show (w.alloc (.cells #[Value.int IntKind.i64 0,Value.int IntKind.i64 2,Value.int IntKind.i64 1,Value.int IntKind.i64 0,Value.int IntKind.i64 0,Value.int IntKind.i64 2,Value.int IntKind.i64 1,Value.int IntKind.i64 2,Value.int IntKind.i64 2,Value.int IntKind.i64 1,Value.int IntKind.i64 0,Value.int IntKind.i64 0,Value.int IntKind.i64 0,Value.int IntKind.i64 1,Value.int IntKind.i64 0,Value.int IntKind.i64 1] 3)).heap.size=w.heap.size+1 by simp] at c2;have HK:=lj hk;clear h hk c3
    go_enter Tryz.func67,Tryz.ntmps67
    go_wp2
    go_ret2
    exact has_is HK.out (by rfl) (by rfl) (((Below.refl _ _).alloc (Nat.le_refl _) _).alloc (by simp) _)
  · by_cases h1:k<1
    · go_enter Tryz.func67,Tryz.ntmps67
      go_wp2
      go_ret2
      exact has_not h (Below.refl _ _)
    · have h2:15<k:=by omega
      go_enter Tryz.func67,Tryz.ntmps67
      go_wp2
      go_ret2
      exact has_not h (Below.refl _ _)
theorem lmright_any (k a b:Int) (s:ByteArray) (w:World) :
  Calls Tryz.prog 40 #[.agg #[.int .i64 k,.int .i64 a,.int .i64 b,.string s]] w fun e w'=>e = .returned (.bool (rt k a b s.size))∧Below w.heap.size w w':=by
 have HR:=lj (show rt k a b s.size=(isK k && okN a (decide (1≤nu k)) && okN b (decide (2≤nu k)) && decide (s.size≤tx k)) from rfl);have hn:=nu_cases k
 have hfin:∀ v:Bool,v=(isK k && okN a (decide (1≤nu k)) && okN b (decide (2≤nu k)) && decide (s.size≤tx k))→v=rt k a b s.size:=fun v h=>h.trans HR.out.symm
 have HF:=lj hfin;clear hfin HR
 go_enter Tryz.func40,Tryz.ntmps40
 go_wp2_with fail
 refine (lmhas_any k _).mono ?_;rintro e w1 ⟨n,t,rfl,hb,hyes,hno⟩;obtain ⟨hc,hf⟩:=bcell hb;have HB:=lj (Below.trans ((Below.refl _ _).alloc (Nat.le_refl _) _) (hb.mono (by simp)))
 have hz:w.heap.size<w1.heap.size:=by have:=hb.size; simp at this; omega
 generalize nu k=N at *;generalize tx k=T at *;generalize isK k=ok at *;cases ok
 ·obtain ⟨rfl,rfl⟩:=hno rfl
  clear hyes hno;go_wp2;go_ret;exact ⟨ret_bool (HF.out _ rfl),HB.out⟩
 ·obtain ⟨rfl,rfl⟩:=hyes rfl
  clear hyes hno;have HF2:=lj (fun v (h:v=(true && okN a (decide (1≤N)) && okN b (decide (2≤N)) && decide (s.size≤T)))=>HF.out v h);clear HF;have hn3:=hn
  by_cases hs:T<s.size
  ·go_wp2
   go_ret;exact ⟨ret_bool (HF2.out _ (by simp; omega)),HB.out⟩
  by_cases ha:a<0∨1099511627776<a∨b<0∨1099511627776<b
  ·go_wp2
   all_goals
    go_ret;exact ⟨ret_bool (HF2.out _ (by unfold okN; rcases hn3 with rfl | rfl | rfl <;> rw [Bool.eq_iff_iff] <;> simp <;> omega)),HB.out⟩
  ·go_wp2
   all_goals
    go_ret;exact ⟨ret_bool (HF2.out _ (by unfold okN; rcases hn3 with rfl | rfl | rfl <;> rw [Bool.eq_iff_iff] <;> simp <;> omega)),HB.out⟩
end
end Go.Proofs.YtdpagmcickkbmaaGreatDoor
