/- What the law's own Few answers of events. -/
import Derived.Test.YtjmdddhbdofppaaGreatDoorZiLe
namespace Go.Proofs.YtjmdddhbdofppaaGreatDoor
open Go.RowKit
open Fr Bk
theorem sumL_le {Ln : Nat→Nat} {n : Nat} : ∀ {k : Nat},k≤n→(∀ r,r < n→Ln r≤most)→sumL Ln k≤k * most
  | 0,_,_=>Nat.zero_le _
  | k + 1,hk,h=>by
    have h1:=sumL_le (k:=k) (by omega) h
    have h2:=h k (by omega)
    show sumL Ln k + Ln k≤(k + 1) * most
    rw [Nat.add_mul]
    omega
def FewEv (n : Nat) (Ln : Nat→Nat) (w : World) (e : Ending) (w' : World) : Prop:=∃ f : Bool,e = .returned (.bool f)∧(f = true→n≤120∧sumL Ln n≤6000)∧Below w.heap.size w w'
set_option maxRecDepth 100000 in
theorem lfew_any {a : Option Addr} {n cap : Nat} {K I R : Nat→Int} {A : Nat→Option Addr} {Ln Cp : Nat→Nat} {T : Nat→Bs} (w : World) (hl : Ievs w w.heap.size a n K I R A Ln Cp T) (hm : n≤9223372036854775807) :
    Calls Tryz.prog 20 #[.slice a n cap] w (FewEv n Ln w):=by
  have HL:=Lib.hid hl
  have HLe:=Lib.hid (show ∀ r,r < n→Ln r≤most from fun r hr=>Nat.le_trans (hl.inner r hr).2.2.1 (hl.inner r hr).2.2.2)
  have HB:=Lib.hid (Below.refl w.heap.size w)
  clear hl
  obtain ⟨g,hg⟩ : ∃ g,w.heap.size = g:=⟨_,rfl⟩
  rw [hg] at HL HB
  have HG:=Lib.hid hg
  clear hg
  go_enter Tryz.func20,Tryz.ntmps20
  go_wp2_with fail
  go_loopw [3,8] (fun s i wr=>∃ (k : Nat) (v : Int),k≤n∧i = .int .i64 (k : Nat)∧s = .int .i64 v∧Hid (k≤120→v = (sumL Ln k : Nat))∧Below g w wr) (fun _ i _=>n - (intOf i).toNat)
  case atStart=>exact ⟨0,0,by omega,rfl,rfl,Lib.hid fun _=>rfl,HB.out⟩
  case round =>
    obtain ⟨k,v,hk,rfl,rfl,HV,hb⟩:=hrel
    have HBk:=Lib.hid hb
    have hgw:=hb.size
    rw [HG.out] at hgw
    clear hb HB
    by_cases hlt : k < n
    · have dk : decide ((k : Int) < (n : Int)) = true:=by simp; omega
      obtain ⟨bb,off,rfl,hbB,hc⟩:=(HL.out.below HBk.out).outer (by omega)
      obtain ⟨hc0,hc1,hc2,hc3⟩:=hc k hlt
      have HV2 : Hid (k + 1≤120→wrap64 (v + (Ln k : Nat)) = (sumL Ln (k + 1) : Nat)):=Lib.hid fun h=>by
        have h1:=HV.out (by omega)
        have h2:=sumL_le (k:=k + 1) hlt HLe.out
        have h3 : (k + 1) * most≤120 * most:=Nat.mul_le_mul_right _ h
        have h4 : 120 * most≤9223372036854775807:=by decide
        show _ = ((sumL Ln k + Ln k : Nat) : Int)
        replace h2 : sumL Ln k + Ln k≤(k + 1) * most:=h2
        rw [h1,IntWalk.wrap64_in _ (by omega)]
        omega
      clear hc
      have HE:=Lib.hid (Bx.new wr wr.heap.size rfl #[.int .i64 (K k),.int .i64 (I k),.int .i64 (R k),.slice (A k) (Ln k) (Cp k)] 34)
      have HBe:=Lib.hid (HBk.out.alloc (by omega) (.cells #[.int .i64 (K k),.int .i64 (I k),.int .i64 (R k),.slice (A k) (Ln k) (Cp k)] 34))
      go_upto_region 5 with fail
      generalize wr.alloc _ = w5 at *
      have e3:=HE.out.cell 3 (.slice (A k) (Ln k) (Cp k)) rfl
      clear hc0 hc1 hc2 hc3 HBk
      go_wp2
      exact ⟨⟨k + 1,_,by omega,by go_num,rfl,HV2,HBe.out⟩,by simp [intOf]; omega⟩
    · obtain rfl : k = n:=by omega
      have dk : decide ((k : Int) < (k : Int)) = false:=by simp
      by_cases h120 : k≤120
      · have d1 : decide ((k : Int)≤120) = true:=by simp; omega
        have hv:=HV.out h120
        subst hv
        by_cases h6 : sumL Ln k≤6000
        · have d2 : decide (((sumL Ln k : Nat) : Int)≤6000) = true:=by simp; omega
          have HR:=Lib.hid (And.intro h120 h6)
          go_wp2
          go_ret
          exact ⟨true,rfl,fun _=>HR.out,by rw [HG.out]; exact HBk.out⟩
        · have d2 : decide (((sumL Ln k : Nat) : Int)≤6000) = false:=by simp; omega
          go_wp2
          go_ret
          exact ⟨false,rfl,fun h=>(by cases h),by rw [HG.out]; exact HBk.out⟩
      · have d1 : decide ((k : Int)≤120) = false:=by simp; omega
        go_wp2
        go_ret
        exact ⟨false,rfl,fun h=>(by cases h),by rw [HG.out]; exact HBk.out⟩
end Go.Proofs.YtjmdddhbdofppaaGreatDoor
