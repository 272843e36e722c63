/- PVx PVy -/
import Derived.Laws.Cover1
import Derived.Test.YtdpagmcickkbmaaGreatDoorZd16
namespace Go.Proofs.YtdpagmcickkbmaaGreatDoor
set_option maxRecDepth 100000
open Go.Lib renaming hid → lj
section
open Go.RowKit
theorem Bytes.tight {w:World} {B n:Nat} {a:Option Addr} {l:Bs} (h:Bytes w B a n l):Bytes w w.heap.size a n l:=
 ⟨h.1,fun hn=>by
  obtain ⟨b,off,e,_,hc⟩:=h.2 hn
  exact ⟨b,off,e,cell_lt (hc 0 hn),hc⟩⟩
theorem below_alloc_drew' (w:World) (o:Obj):Below w.heap.size w (w.drew.alloc o):=by
 have h:=(Below.refl w.heap.size w.drew).alloc (Nat.le_refl _) o;exact ⟨h.os,h.tape,h.output,h.size,h.block⟩
section
variable {z:Zo} {w w':World} {gr gk room g p s:Nat} {L:Bs}
def countOf (n p:Nat) (room most:Int):Nat:=(min (min (min most (max room 11 - 11)) 2042) ((n:Int) - p)).toNat
def SendGives (p s g cnt:Nat) (t:Bs) (w:World) (e:Ending) (w':World):Prop:=
 (cnt=0→e = .returned (.tuple #[MZ,.bool false])∧Only (fun _=>False) w w') ∧
  (0<cnt→e = .returned (.tuple #[MD p t,.bool true])∧Bx g w' (VV (p+cnt) s)∧Only (fun k=>k=g) w w')
theorem vsend_any (hR:Ring z w gr gk room L) (h:Bx g w (VV p s)) (rm most:Int) (hrm:rm≤9223372036854775807) (hlo:L.length≤p+room) (hhi:p≤L.length) :
  Calls Tryz.prog 100 #[.pointer (some ⟨g,0,none⟩),.pointer (some ⟨gr,z.o,none⟩),.int .i64 rm,.int .i64 most] w (SendGives p s g (countOf L.length p rm most) ((L.drop p).take (countOf L.length p rm most)) w):=by
 obtain ⟨cnt,hcnt⟩:∃ c,countOf L.length p rm most=c:=⟨_,rfl⟩
 rw [hcnt];have HC:=lj (show cnt=(min (min (min most (max rm 11 - 11)) 2042) ((L.length:Int) - p)).toNat from hcnt.symm);have hg:g<w.heap.size:=h.room;have HX:=lj h;have HRg:=lj hR;clear hcnt h hR
 go_enter Tryz.func100,Tryz.ntmps100
 go_upto_region 1 with fail
 have hA:Only (fun _=>False) w (w.alloc (.cells #[.int .i64 0,.int .i64 0,.int .i64 0,.string ⟨#[]⟩] 38)):=(Only.refl (fun _=>False) w).alloc _;have HZ:=lj (Bx.new w w.heap.size rfl #[.int .i64 0,.int .i64 0,.int .i64 0,.string ⟨#[]⟩] 38);have HX1:=lj (HX.out.keep hA (fun h=>h));have HR1:=lj (HRg.out.keep hA (fun h=>h) (fun h=>h));have HA:=lj hA;clear hA HX HRg;generalize w.alloc (.cells #[.int .i64 0,.int .i64 0,.int .i64 0,.string ⟨#[]⟩] 38)=W at *
 go_cut [10] (fun v wx=>v = .int .i64 (max rm 11 - 11)∧wx=W)
 case first =>
  rcases (show rm<11∨11≤rm by omega) with h1 | h1
  all_goals
   go_wp2
   go_meet
   exact ⟨by congr 1; omega,rfl⟩
 case rest =>
  obtain ⟨rfl,rfl⟩:=hcut
  obtain ⟨f,hf⟩:∃ f,max rm 11 - 11=f:=⟨_,rfl⟩
  rw [hf] at HC
  have hf0:0≤f:=by omega
  have HFF:=lj hf;rw [hf];have hc0:=HX1.out.cell 0 (.int .i64 p) rfl;have hfew:=HR1.out.few;clear hf
  go_upto_region 2 with fail
  go_cut [11,12] (fun v x wx=>∃ a,v = .slice a cnt cnt∧Bytes wx wx.heap.size a cnt ((L.drop p).take cnt)∧Only (fun _=>False) wc wx)
  case first =>
   rcases (show (most≤f∧most≤2042)∨(most≤f∧2042<most)∨(f<most∧f≤2042)∨(f<most∧2042<f) by omega) with ⟨h1,h2⟩ | ⟨h1,h2⟩ | ⟨h1,h2⟩ | ⟨h1,h2⟩
   all_goals
    go_wp2_with fail
    refine (read_ring HR1.out p _ cnt hlo hhi (by have:=HC.out; omega)).mono ?_;rintro e w2 ⟨a,rfl,hb,ha,ho⟩;have HB:=lj hb.tight;have HO:=lj ho;clear hb ha ho;go_wp2
    go_meet
    exact ⟨a,rfl,HB.out,HO.out⟩
  case rest =>
   obtain ⟨a,rfl,hb,ho⟩:=hcut;have HO2:=lj (HA.out.trans ho);have HX2:=lj (HX1.out.keep ho (fun h=>h));have HZ2:=lj (HZ.out.keep ho (fun h=>h))
   have hcv:=fun W (hW:Bytes W wc.heap.size a cnt ((L.drop p).take cnt))=>conv_str (w:=W) (cap:=cnt) hW
   have hG:w.heap.size<wc.heap.size:=HZ2.out.room;have HT:=lj hb;have hlen:=hb.1;clear hb ho HA HX1 HZ HR1 hc0;generalize hGe:w.heap.size=G at *
   have n1:¬ g=G:=by omega
   have HGe:=lj hGe;have HL:=lj hlen;clear hGe hlen;have z0:=HZ2.out.cell 0 _ rfl;have z1:=HZ2.out.cell 1 _ rfl;have z2:=HZ2.out.cell 2 _ rfl;have z3:=HZ2.out.cell 3 _ rfl;have f0:=HZ2.out.free;have g0:=HX2.out.cell 0 (.int .i64 p) rfl;have f1:=HX2.out.free;generalize hT:(L.drop p).take cnt=t at *;clear hT
   by_cases h0:cnt=0
   ·subst h0
    clear hcv;go_wp2;refine bodyPost_ret (v:=.tuple #[MZ,.bool false]) (by simp [results,Tryz.results100,go_sem,z0,z1,z2,z3]; rfl) rfl ⟨fun _=>⟨rfl,?_⟩,fun h=>absurd h (by omega)⟩;exact HO2.out.trans' (only4 wc G _ _ _ _) (fun i hi=>.inr (by rw [HGe.out,hi]; exact Nat.le_refl _))
   ·have hd:((cnt:Int) == 0)=false:=by simpa using h0
    have hcw:=hcv wc HT.out;have hcd:=hcv wc.drew HT.out.drew
    have hca:=fun o=>hcv (wc.drew.alloc o) (HT.out.below (below_alloc_drew' wc o))
    clear hcv;go_wp2
    go_region_held (fun w'=>w'.cell? ⟨g,0,none⟩=some (.int .i64 p)∧(convert 41 9 (.slice a cnt cnt)).run Tryz.prog w' = .ok (.string (str t)) w') (first | exact ⟨g0,hcd⟩ | exact ⟨((Below.refl _ _).alloc (Nat.le_refl _) _).cell (p:=⟨g,0,none⟩) (show g<wc.heap.size from by omega) |>.trans g0,hca _⟩) (fail)
    have ho5:Only (fun _=>False) wc (wc.alloc (.cells #[.int .i64 6,.int .i64 p,.int .i64 0,.string (str t)] 38)).drew:=((Only.refl (fun _=>False) wc).alloc _).drew;have hm5:=(Bx.new wc wc.heap.size rfl #[.int .i64 6,.int .i64 p,.int .i64 0,.string (str t)] 38).keep ((Only.refl (fun _=>False) _).drew) (fun h=>h);have HX5:=lj (HX2.out.keep ho5 (fun h=>h));have HZ5:=lj (HZ2.out.keep ho5 (fun h=>h));have HO5:=lj (HO2.out.trans ho5);have hN:wc.heap.size<(wc.alloc (.cells #[.int .i64 6,.int .i64 p,.int .i64 0,.string (str t)] 38)).drew.heap.size:=hm5.room;have m0:=hm5.cell 0 _ rfl;have m1:=hm5.cell 1 _ rfl;have m2:=hm5.cell 2 _ rfl;have m3:=hm5.cell 3 _ rfl;clear z0 z1 z2 z3 f0 g0 f1 hcw hcd hca HT ho5 hm5 HZ2 HX2 HO2;generalize (wc.alloc (.cells #[.int .i64 6,.int .i64 p,.int .i64 0,.string (str t)] 38)).drew=W at *;generalize wc.heap.size=M at *;have z0:=HZ5.out.cell 0 _ rfl;have z1:=HZ5.out.cell 1 _ rfl;have z2:=HZ5.out.cell 2 _ rfl;have z3:=HZ5.out.cell 3 _ rfl;have f0:=HZ5.out.free;have g0:=HX5.out.cell 0 (.int .i64 p) rfl;have f1:=HX5.out.free
    have n2:¬ g=M:=by omega
    have hsum:p+cnt≤2199023255552:=by have:=HC.out; omega
    go_wp2;refine bodyPost_ret (v:=.tuple #[MD p t,.bool true]) (by simp [results,Tryz.results100,go_sem,z0,z1,z2,z3]) rfl ⟨fun h=>absurd h h0,fun _=>⟨rfl,?_,?_⟩⟩
    ·exact (HX5.out.set 0 (.int .i64 (p+cnt:Nat))).keep (only4 _ G _ _ _ _) (fun e=>n1 e)
    ·exact (HO5.out.mono (T:=fun k=>k=g) (fun _ _ h=>h.elim)).trans' (((Only.refl (fun k=>k=g∨k=G) W).setCell (p:=⟨g,0,none⟩) (.inl rfl) _).trans ((only4 _ G _ _ _ _).mono fun k _ hk=>.inr hk))
      (fun i hi=>hi.imp (fun h=>h) (fun h=>by rw [HGe.out,h]; exact Nat.le_refl _))
end
end
section
open Go.RowKit
section
variable {z:Zo} {w w':World} {gr gk room g p s:Nat} {L:Bs}
theorem vnext_no (hR:Ring z w gr gk room L) (h:Bx g w (VV p s)) (rm most strikes:Int) (hp:p<L.length - room) (hno:strikes≤s∨rm<17) :
  Calls Tryz.prog 83 #[.pointer (some ⟨g,0,none⟩),.pointer (some ⟨gr,z.o,none⟩),.int .i64 rm,.int .i64 most,.int .i64 strikes] w (fun e w'=>e = .returned (.tuple #[ME,.bool true])∧Only (fun _=>False) w w'):=by
 have hg:g<w.heap.size:=h.room;have hfew:=hR.few;have HX:=lj h;have HRg:=lj hR
 have hb:∃ b,L.length - room=b:=⟨_,rfl⟩
 obtain ⟨b,hb⟩:=hb;have HB:=lj (fun W (hW:Ring z W gr gk room L)=>base_ring hW);rw [hb] at HB hp
 have hb2:b≤1099511627776:=by omega
 have hd:decide ((p:Int)<(b:Int))=true:=by simpa using hp
 clear h hR hb
 go_enter Tryz.func83,Tryz.ntmps83
 go_upto_region 1 with fail
 have hA:Only (fun _=>False) w (w.alloc (.cells #[.int .i64 0,.int .i64 0,.int .i64 0,.string ⟨#[]⟩] 38)):=(Only.refl (fun _=>False) w).alloc _;have HZ:=lj (Bx.new w w.heap.size rfl #[.int .i64 0,.int .i64 0,.int .i64 0,.string ⟨#[]⟩] 38);have HX1:=lj (HX.out.keep hA (fun h=>h));have HR1:=lj (HRg.out.keep hA (fun h=>h) (fun h=>h));have HA:=lj hA;clear hA HX HRg;generalize w.alloc (.cells #[.int .i64 0,.int .i64 0,.int .i64 0,.string ⟨#[]⟩] 38)=W at *
 have g0:=fun n=>(HX1.out.drewN n).cell 0 (.int .i64 p) rfl
 have g1:=HX1.out.cell 0 (.int .i64 p) rfl
 go_quiet (first | (go_at_call 98; exact Calls.quiet_of (HB.out _ (HR1.out.drewN _))) | fail)
 have HX2:=lj (HX1.out.drewN nq);have HR2:=lj (HR1.out.drewN nq);have HZ2:=lj (HZ.out.drewN nq);have HA2:=lj (HA.out.drewN nq);clear g0 g1 HX1 HR1 HZ HA;generalize W.drewN nq=W2 at *
 go_wp2_with fail
 refine (HB.out _ HR2.out).mono ?_;rintro e w3 ⟨rfl,m,hw3⟩;have HX3:=lj (hw3 ▸ HX2.out.drewN m);have HZ3:=lj (hw3 ▸ HZ2.out.drewN m);have HA3:=lj (hw3 ▸ HA2.out.drewN m);clear hw3 HX2 HR2 HZ2 HA2
 go_wp2_with fail
 refine (vmiss_no HX3.out b rm strikes (by omega) hb2 hno).mono ?_;rintro e w4 ⟨rfl,ho⟩;have HZ4:=lj (HZ3.out.keep ho (fun h=>h));have HA4:=lj (HA3.out.trans ho);clear ho HX3 HZ3 HA3;have z0:=HZ4.out.cell 0 _ rfl;have z1:=HZ4.out.cell 1 _ rfl;have z2:=HZ4.out.cell 2 _ rfl;have z3:=HZ4.out.cell 3 _ rfl;have f0:=HZ4.out.free;have hG:w.heap.size<w4.heap.size:=HZ4.out.room;clear HZ4;generalize hGe:w.heap.size=G at *
 have n1:¬ g=G:=by omega
 have HGe:=lj hGe;clear hGe;go_wp2;refine bodyPost_ret (v:=.tuple #[ME,.bool true]) (by simp [results,Tryz.results83,go_sem,z0,z1,z2,z3]) rfl ⟨rfl,?_⟩;exact HA4.out.trans' (only4 w4 G _ _ _ _) (fun i hi=>.inr (by rw [HGe.out,hi]; exact Nat.le_refl _))
theorem vnext_yes (hR:Ring z w gr gk room L) (h:Bx g w (VV p s)) (rm most strikes:Int) (hp:p<L.length - room) (hs:(s:Int)<strikes) (hrm:17≤rm) (hs2:s≤1000000) :
  Calls Tryz.prog 83 #[.pointer (some ⟨g,0,none⟩),.pointer (some ⟨gr,z.o,none⟩),.int .i64 rm,.int .i64 most,.int .i64 strikes] w (fun e w'=>e = .returned (.tuple #[MG p (L.length - room),.bool true])∧Bx g w' (VV (L.length - room) (s+1))∧Only (fun k=>k=g) w w'):=by
 have hg:g<w.heap.size:=h.room;have hfew:=hR.few;have HX:=lj h;have HRg:=lj hR
 have hb:∃ b,L.length - room=b:=⟨_,rfl⟩
 obtain ⟨b,hb⟩:=hb;have HB:=lj (fun W (hW:Ring z W gr gk room L)=>base_ring hW);rw [hb] at HB hp ⊢
 have hb2:b≤1099511627776:=by omega
 have hd:decide ((p:Int)<(b:Int))=true:=by simpa using hp
 clear h hR hb
 go_enter Tryz.func83,Tryz.ntmps83
 go_upto_region 1 with fail
 have hA:Only (fun _=>False) w (w.alloc (.cells #[.int .i64 0,.int .i64 0,.int .i64 0,.string ⟨#[]⟩] 38)):=(Only.refl (fun _=>False) w).alloc _;have HZ:=lj (Bx.new w w.heap.size rfl #[.int .i64 0,.int .i64 0,.int .i64 0,.string ⟨#[]⟩] 38);have HX1:=lj (HX.out.keep hA (fun h=>h));have HR1:=lj (HRg.out.keep hA (fun h=>h) (fun h=>h));have HA:=lj hA;clear hA HX HRg;generalize w.alloc (.cells #[.int .i64 0,.int .i64 0,.int .i64 0,.string ⟨#[]⟩] 38)=W at *
 have g0:=fun n=>(HX1.out.drewN n).cell 0 (.int .i64 p) rfl
 have g1:=HX1.out.cell 0 (.int .i64 p) rfl
 go_quiet (first | (go_at_call 98; exact Calls.quiet_of (HB.out _ (HR1.out.drewN _))) | fail)
 have HX2:=lj (HX1.out.drewN nq);have HR2:=lj (HR1.out.drewN nq);have HZ2:=lj (HZ.out.drewN nq);have HA2:=lj (HA.out.drewN nq);clear g0 g1 HX1 HR1 HZ HA;generalize W.drewN nq=W2 at *
 go_wp2_with fail
 refine (HB.out _ HR2.out).mono ?_;rintro e w3 ⟨rfl,m,hw3⟩;have HX3:=lj (hw3 ▸ HX2.out.drewN m);have HZ3:=lj (hw3 ▸ HZ2.out.drewN m);have HA3:=lj (hw3 ▸ HA2.out.drewN m);clear hw3 HX2 HR2 HZ2 HA2
 go_wp2_with fail
 refine (vmiss_yes HX3.out b rm strikes (by omega) hb2 hs hrm hs2).mono ?_;rintro e w4 ⟨rfl,hx4,ho⟩;have HX4:=lj hx4;have HZ4:=lj (HZ3.out.keep ho (by show ¬ _=g; omega));have HA4:=lj ((HA3.out.mono (T:=fun k=>k=g) (fun _ _ h=>h.elim)).trans ho);clear ho hx4 HX3 HZ3 HA3;have z0:=HZ4.out.cell 0 _ rfl;have z1:=HZ4.out.cell 1 _ rfl;have z2:=HZ4.out.cell 2 _ rfl;have z3:=HZ4.out.cell 3 _ rfl;have f0:=HZ4.out.free;have hG:w.heap.size<w4.heap.size:=HZ4.out.room;clear HZ4;generalize hGe:w.heap.size=G at *
 have n1:¬ g=G:=by omega
 have HGe:=lj hGe;clear hGe;go_wp2;refine bodyPost_ret (v:=.tuple #[MG p b,.bool true]) (by simp [results,Tryz.results83,go_sem,z0,z1,z2,z3]) rfl ⟨rfl,?_,?_⟩
 ·exact HX4.out.keep (only4 _ G _ _ _ _) (fun e=>n1 e)
 ·exact HA4.out.trans' (only4 w4 G _ _ _ _) (fun i hi=>.inr (by rw [HGe.out,hi]; exact Nat.le_refl _))
theorem vnext_send (hR:Ring z w gr gk room L) (h:Bx g w (VV p s)) (rm most strikes:Int) (hrm:rm≤9223372036854775807) (hlo:L.length≤p+room) (hhi:p≤L.length) :
  Calls Tryz.prog 83 #[.pointer (some ⟨g,0,none⟩),.pointer (some ⟨gr,z.o,none⟩),.int .i64 rm,.int .i64 most,.int .i64 strikes] w (SendGives p s g (countOf L.length p rm most) ((L.drop p).take (countOf L.length p rm most)) w):=by
 have hg:g<w.heap.size:=h.room;have hfew:=hR.few;have HX:=lj h;have HRg:=lj hR
 have hb:∃ b,L.length - room=b:=⟨_,rfl⟩
 obtain ⟨b,hb⟩:=hb;have HB:=lj (fun W (hW:Ring z W gr gk room L)=>base_ring hW);rw [hb] at HB;have HBB:=lj hlo
 have hb2:b≤1099511627776:=by omega
 have hd:decide ((p:Int)<(b:Int))=false:=by simp; omega
 have hd2:¬ p<b:=by omega
 clear h hR hb
 go_enter Tryz.func83,Tryz.ntmps83
 go_upto_region 1 with fail
 have hA:Only (fun _=>False) w (w.alloc (.cells #[.int .i64 0,.int .i64 0,.int .i64 0,.string ⟨#[]⟩] 38)):=(Only.refl (fun _=>False) w).alloc _;have HZ:=lj (Bx.new w w.heap.size rfl #[.int .i64 0,.int .i64 0,.int .i64 0,.string ⟨#[]⟩] 38);have HX1:=lj (HX.out.keep hA (fun h=>h));have HR1:=lj (HRg.out.keep hA (fun h=>h) (fun h=>h));have HA:=lj hA;clear hA HX HRg;generalize w.alloc (.cells #[.int .i64 0,.int .i64 0,.int .i64 0,.string ⟨#[]⟩] 38)=W at *
 have g0:=fun n=>(HX1.out.drewN n).cell 0 (.int .i64 p) rfl
 have g1:=HX1.out.cell 0 (.int .i64 p) rfl
 go_quiet (first | (go_at_call 98; exact Calls.quiet_of (HB.out _ (HR1.out.drewN _))) | fail)
 have HX2:=lj (HX1.out.drewN nq);have HR2:=lj (HR1.out.drewN nq);have HZ2:=lj (HZ.out.drewN nq);have HA2:=lj (HA.out.drewN nq);clear g0 g1 HX1 HR1 HZ HA;generalize W.drewN nq=W2 at *
 go_wp2_with fail
 refine (vsend_any HR2.out HX2.out rm most hrm (by have:=HBB.out; omega) hhi).mono ?_;intro e w4 hs
 by_cases h0:countOf L.length p rm most=0
 ·obtain ⟨rfl,ho⟩:=hs.1 h0
  have HZ4:=lj (HZ2.out.keep ho (fun h=>h));have HA4:=lj (HA2.out.trans ho);clear ho hs HX2 HZ2 HA2;have H0:=lj h0;clear h0;generalize countOf L.length p rm most=cnt at *;have z0:=HZ4.out.cell 0 _ rfl;have z1:=HZ4.out.cell 1 _ rfl;have z2:=HZ4.out.cell 2 _ rfl;have z3:=HZ4.out.cell 3 _ rfl;have f0:=HZ4.out.free;have hG:w.heap.size<w4.heap.size:=HZ4.out.room;clear HZ4;generalize hGe:w.heap.size=G at *
  have n1:¬ g=G:=by omega
  have HGe:=lj hGe;clear hGe;go_wp2;refine bodyPost_ret (v:=.tuple #[MZ,.bool false]) (by simp [results,Tryz.results83,go_sem,z0,z1,z2,z3]) rfl ⟨fun _=>⟨rfl,?_⟩,fun h=>absurd h (by have:=H0.out; omega)⟩;exact HA4.out.trans' (only4 w4 G _ _ _ _) (fun i hi=>.inr (by rw [HGe.out,hi]; exact Nat.le_refl _))
 ·obtain ⟨rfl,hx4,ho⟩:=hs.2 (by omega)
  have HX4:=lj hx4;have HZ4:=lj (HZ2.out.keep ho (by show ¬ _=g; omega));have HA4:=lj ((HA2.out.mono (T:=fun k=>k=g) (fun _ _ h=>h.elim)).trans ho);clear ho hx4 hs HX2 HZ2 HA2;have H0:=lj h0;clear h0;generalize countOf L.length p rm most=cnt at *;generalize (L.drop p).take cnt=t at *;have z0:=HZ4.out.cell 0 _ rfl;have z1:=HZ4.out.cell 1 _ rfl;have z2:=HZ4.out.cell 2 _ rfl;have z3:=HZ4.out.cell 3 _ rfl;have f0:=HZ4.out.free;have hG:w.heap.size<w4.heap.size:=HZ4.out.room;clear HZ4;generalize hGe:w.heap.size=G at *
  have n1:¬ g=G:=by omega
  have HGe:=lj hGe;clear hGe;go_wp2;refine bodyPost_ret (v:=.tuple #[MD p t,.bool true]) (by simp [results,Tryz.results83,go_sem,z0,z1,z2,z3]) rfl ⟨fun h=>absurd h H0.out,fun _=>⟨rfl,?_,?_⟩⟩
  ·exact HX4.out.keep (only4 _ G _ _ _ _) (fun e=>n1 e)
  ·exact HA4.out.trans' (only4 w4 G _ _ _ _) (fun i hi=>.inr (by rw [HGe.out,hi]; exact Nat.le_refl _))
end
end
end Go.Proofs.YtdpagmcickkbmaaGreatDoor
