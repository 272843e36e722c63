/- PSumw -/
import Derived.Test.YtdpagmcickkbmaaGreatDoorRows
import Derived.Lib.SlBytesConst
import Derived.Test.YtdpagmcickkbmaaGreatDoorZd01
import Derived.Test.YtdpagmcickkbmaaGreatDoorZd05
namespace Go.Proofs.YtdpagmcickkbmaaGreatDoor
set_option maxRecDepth 100000
open Go.Lib renaming hid → lj
section
open Go.RowKit
open Crc
theorem and_top (s:BitVec 16):bits .and .u16 (s.toNat) 32768=if s.msb then 32768 else 0:=by
 have h:=u16_and_nat s.toNat 32768 s.isLt (by decide);rw [show ((32768:Nat):Int)=32768 from rfl] at h;rw [h]
 have h2:s &&& E=if s.getLsbD 15 then E else 0#16:=BitVec.and_twoPow s 15
 have h3:s.toNat &&& 32768=(s &&& E).toNat:=rfl;rw [h3,h2,BitVec.msb_eq_getLsbD_last]
 cases s.getLsbD 15 <;> rfl
theorem shl_int (s:BitVec 16):IntKind.u16.wrap ((s.toNat:Int) * 2)=(s <<< 1).toNat:=by
 rw [IntKind.wrap_u16,BitVec.toNat_shiftLeft,Nat.shiftLeft_eq];omega
theorem T_hi (s:BitVec 16) (h:s.msb=true):bits .xor .u16 (IntKind.u16.wrap ((s.toNat:Int) * 2)) 4129=(T s).toNat:=by
 rw [shl_int];have h1:=u16_xor_nat (s <<< 1).toNat 4129 (s <<< 1).isLt (by decide);rw [show ((4129:Nat):Int)=4129 from rfl] at h1;rw [h1];unfold T;rw [h,BitVec.toNat_xor];rfl
theorem T_lo (s:BitVec 16) (h:s.msb=false):IntKind.u16.wrap ((s.toNat:Int) * 2)=(T s).toNat:=by
 rw [shl_int];unfold T;rw [h];simp
theorem xor_hi (s:BitVec 16) (c:BitVec 8):bits .xor .u16 (s.toNat) ((c.toNat:Int) * 256)=(s ^^^ hi c).toNat:=by
 have e:((c.toNat:Int) * 256)=((hi c).toNat:Nat):=by
  have:=c.isLt;unfold hi;rw [BitVec.toNat_shiftLeft,Nat.shiftLeft_eq,BitVec.toNat_setWidth];omega
 rw [e,u16_xor_nat _ _ s.isLt (hi c).isLt,BitVec.toNat_xor]
theorem step_any (s:BitVec 16) (w:World) :
  Calls Tryz.prog 103 #[.int .u16 s.toNat] w fun e w'=>e = .returned (.int .u16 (iter 8 s).toNat)∧w=w':=by
 go_enter Tryz.func103,Tryz.ntmps103
 go_wp2
 go_loop [0,4] (fun t i=>∃ k:Nat,k≤8∧i = .int .i64 k∧t = .int .u16 (iter k s).toNat) (fun _ i=>8 - (intOf i).toNat)
 case atStart=>exact ⟨0,by omega,rfl,rfl⟩
 case round =>
  obtain ⟨k,hk,rfl,rfl⟩:=hrel
  by_cases hlt:k<8
  ·cases hm:(iter k s).msb
   ·have ha:=and_top (iter k s)
    rw [hm] at ha;simp only [Bool.false_eq_true,if_false] at ha;have HT:=lj (T_lo _ hm);clear hm;go_wp2
    go_round
    case rel=>exact ⟨k+1,by omega,by go_num,by rw [HT.out]; rfl⟩
    case measure=>simp [intOf]; omega
   ·have ha:=and_top (iter k s)
    rw [hm] at ha;simp only [if_true] at ha;have HT:=lj (T_hi _ hm);clear hm;go_wp2
    go_round
    case rel=>exact ⟨k+1,by omega,by go_num,by rw [HT.out]; rfl⟩
    case measure=>simp [intOf]; omega
  ·obtain rfl:k=8:=by omega
   go_wp2;go_ret;exact ⟨rfl,rfl⟩
theorem take_more (s:BitVec 16) (l:List (BitVec 8)) (k:Nat) (hk:k<l.length):more s (l.take (k+1))=iter 8 (more s (l.take k) ^^^ hi (l[k]?.getD 0#8)):=by
 rw [List.take_succ_eq_append_getElem hk,more_snoc];simp [List.getElem?_eq_getElem hk]
theorem more_any (s:BitVec 16) (a:Option Addr) (n cap B:Nat) (l:List (BitVec 8)) (w:World) (hn:n≤9223372036854775807) (hl:Bytes w B a n l) :
  Calls Tryz.prog 87 #[.int .u16 s.toNat,.slice a n cap] w fun e w'=>e = .returned (.int .u16 (more s l).toNat)∧w=w':=by
 have H:=lj hl;have hlen:=hl.1;clear hl;have HL:=lj hlen;clear hlen
 go_enter Tryz.func87,Tryz.ntmps87
 go_wp2
 go_loop [0,9] (fun t i=>∃ k:Nat,k≤n∧i = .int .i64 k∧t = .int .u16 (more s (l.take k)).toNat) (fun _ i=>n - (intOf i).toNat)
 case atStart=>exact ⟨0,by omega,rfl,rfl⟩
 case round =>
  obtain ⟨k,hk,rfl,rfl⟩:=hrel
  by_cases hlt:k<n
  ·obtain ⟨b,off,rfl,_,hc⟩:=H.out.2 (by omega)
   have hck:=hc k hlt;clear hc;have HT:=lj (take_more s l k (by rw [HL.out]; exact hlt))
   go_wp2_with fail
   rw [xor_hi];refine (step_any _ _).mono ?_;rintro e w' ⟨rfl,rfl⟩;go_wp2
   go_round
   case rel=>exact ⟨k+1,by omega,by go_num,by rw [HT.out]⟩
   case measure=>simp [intOf]; omega
  ·obtain rfl:k=n:=by omega
   go_wp2;go_ret;exact ⟨ret_int (by rw [List.take_of_length_le (Nat.le_of_eq HL.out)]),rfl⟩
theorem of_any (a:Option Addr) (n cap B:Nat) (l:List (BitVec 8)) (w:World) (hn:n≤9223372036854775807) (hl:Bytes w B a n l) :
  Calls Tryz.prog 59 #[.slice a n cap] w fun e w'=>e = .returned (.int .u16 (more 0xffff#16 l).toNat)∧w=w':=by
 have H:=lj hl;clear hl;have hm:=more_any 0xffff#16 a n cap B l w hn H.out;have HM:=lj hm;clear hm
 go_enter Tryz.func59,Tryz.ntmps59
 go_wp2_with fail
 refine HM.out.mono ?_;rintro e w' ⟨rfl,rfl⟩;go_wp2;go_ret;exact ⟨rfl,rfl⟩
end
end Go.Proofs.YtdpagmcickkbmaaGreatDoor
