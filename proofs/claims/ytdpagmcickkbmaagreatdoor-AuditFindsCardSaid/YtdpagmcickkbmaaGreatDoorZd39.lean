/- PFoz -/
import Derived.Maps.RangeWalk
import Derived.Test.YtdpagmcickkbmaaGreatDoorZd38
namespace Go.Proofs.YtdpagmcickkbmaaGreatDoor
set_option maxRecDepth 100000
open Go.Lib renaming hid → lj
section
open Go.RowKit Go.Maps
def Kept (D:DataW Unit) (left:Lit→Bool) (ks:List Int):Prop:=ks.Nodup∧∀ x,x∈ks↔(Maps.has D (.int .i64 x)=true∧left (.int .i64 x)=false)
theorem Kept.start (D:DataW Unit):Kept D (Maps.has D) []:=⟨List.nodup_nil,fun x=>by cases Maps.has D (.int .i64 x) <;> simp⟩
theorem Kept.step {D:DataW Unit} {left:Lit→Bool} {ks:List Int} (h:Kept D left ks) {x:Int} {y:DataW Unit} (hlk:left (.int .i64 x)=true) (hat:∀ zd,D.atKey (.int .i64 x) zd=y):Kept D (fun z=>left z && !z.sameKey (.int .i64 x)) (ks ++ [x]):=by
 have hhas:Maps.has D (.int .i64 x)=true:=has_true_of_atKey hat
 have hnew:x ∉ ks:=fun hx=>by have:=((h.2 x).1 hx).2; rw [hlk] at this; cases this
 refine ⟨List.nodup_append.2 ⟨h.1,by simp,fun a ha b hb=>by simp at hb; subst hb; exact fun e=>hnew (e ▸ ha)⟩,fun y=>?_⟩
 by_cases hy:y=x
 ·subst hy; simp [hhas,Lit.sameKey]
 ·simp [h.2 y,hy,Lit.sameKey]
theorem Kept.sorted {D:DataW Unit} {left:Lit→Bool} {ks:List Int} (h:Kept D left ks) (hl:∀ kl,left kl=false) {rs:List (Int×Int)} (hrs:Rising rs) (hh:∀ id,Maps.has D (.int .i64 id)=rhas rs id) :
  (ks.mergeSort fun x y=>decide (x≤y))=rs.map (·.1):=by
 have hlt:(rs.map (·.1)).Pairwise (· < ·):=by
  rw [List.pairwise_map];exact hrs
 have hnd:(rs.map (·.1)).Nodup:=hlt.imp (fun h=>by omega)
 have hperm:ks.Perm (rs.map (·.1)):=(List.perm_ext_iff_of_nodup h.1 hnd).2 fun x=>by
  rw [h.2 x,hh,List.mem_map]
  constructor
  ·rintro ⟨h1,_⟩
   exact ⟨_,rhas_of_mem h1,rfl⟩
  ·rintro ⟨p,hp,rfl⟩
   refine ⟨?_,hl _⟩;unfold rhas;rw [rget_of_mem hrs (k:=p.1) (v:=p.2) hp];rfl
 refine List.Perm.eq_of_pairwise (le:=fun a b=>decide (a≤b)=true) (fun a b _ _ h1 h2=>?_) (List.pairwise_mergeSort (fun a b c h1 h2=>?_) (fun a b=>?_) ks) (hlt.imp fun h=>by simpa using (by omega)) ((List.mergeSort_perm ks _).trans hperm)
 ·simp only [decide_eq_true_eq] at h1 h2; omega
 ·simp only [decide_eq_true_eq] at h1 h2 ⊢; omega
 ·simp only [Bool.or_eq_true,decide_eq_true_eq]; omega
theorem ranges_only {P:Program} {k:TypeId} {R:Value→Option (DataW Unit×List MemPlace)} {w w':World} {b r n cnt:Nat} {D:DataW Unit} {left:Lit→Bool} {S:Nat→Prop}
  (h:w.ranges P k R b r n D left cnt) (hO:Only S w w') (hb':¬ S b) (hr':¬ S r):w'.ranges P k R b r n D left cnt:=by
 have h1:=h.owns.lt;have h2:=h.lt;obtain ⟨es,clock,since,seen,c0,hb,F,hs,hD,hr,rest⟩:=h;exact ⟨es,clock,since,seen,c0,(hO.block b h1 hb').trans hb,F,hs,hD,(hO.block r h2 hr').trans hr,rest⟩
theorem only_grow (w:World) (os:Array Obj):Only (fun _=>False) w (Go.Sort.grow w os):=⟨rfl,rfl,rfl,by simp,fun k hk _=>Go.Sort.heap_grow_old w os hk⟩
theorem sort_any {w:World} {base n c:Nat} {a:Option Addr} {ks:List Int} (h:Rw base w a n c (ints ks)) (hn:n≤1000000) :
  Calls Tryz.prog 167 #[.slice a n c] w fun e w'=>e = .returned (.tuple #[])∧Vals w' w'.heap.size a n (ints (ks.mergeSort fun x y=>decide (x≤y)))∧Only (In a) w w':=by
 have hl:=h.len;rw [ints_len] at hl
 rcases Nat.eq_zero_or_pos n with rfl | hp
 ·obtain rfl:ks=[]:=List.eq_nil_of_length_eq_zero hl
  refine (Tryz.slices_Sort_int_none a c w).mono ?_;rintro e w' ⟨rfl,rfl⟩;exact ⟨rfl,by simpa [ints] using h.vals,Only.refl _ _⟩
 ·obtain ⟨b,off,rfl,hbB,_⟩:=ints_at h.vals hp
  have h0:=h.mono (Nat.zero_le _);have hcon:=Tryz.slices_Sort_int b off c ks w (holds_of_rw h0) hbB (by omega);rw [hl] at hcon;refine hcon.mono ?_;rintro e w' ⟨rfl,q,os,rfl⟩
  have hsl:(ks.mergeSort fun x y=>decide (x≤y)).length=n:=by rw [List.length_mergeSort]; exact hl
  have h1:=rw_putRow (q:=q) h0 (ks.mergeSort fun x y=>decide (x≤y)) hsl n (Nat.le_refl _);rw [List.take_of_length_le (by omega)] at h1;refine ⟨rfl,?_,((only_putRow w q b off _).mono (fun k _ hk=>⟨_,rfl,hk.symm⟩)).trans ((only_grow _ os).mono (fun _ _ h=>h.elim))⟩;exact (h1.vals.only (only_grow _ os) (Nat.le_refl _) (fun _ _ _ h=>h)).more (by simp)
section
variable {z:Zo} {F:Nat→Prop} {g n c N:Nat} {om:Option Nat} {a:Option Addr} {w w':World} {t:Ta}
theorem users_any (h:TaAt z F g om a n c w t) (hrise:Rising t.roles) (hn:t.roles.length≤100000) :
    Calls Tryz.prog 146 #[.pointer (some ⟨g,z.o,none⟩)] w fun e w'=>LaGives z F g w t (t.roles.map (·.1)) e w':=by
  have hc:=h.bx.cell0 (.map om) rfl
  have HEnd:=lj (show ∀ (w1:World) (A:Option Addr) (m c7:Nat) (ks:List Int) (w2:World),Only (fun _=>False) w w1→Rw w.heap.size w1 A m c7 (ints ks)→(ks.mergeSort fun x y=>decide (x≤y))=t.roles.map (·.1)→Vals w2 w2.heap.size A m (ints (ks.mergeSort fun x y=>decide (x≤y)))→Only (In A) w1 w2 →
      LaGives z F g w t (t.roles.map (·.1)) (.returned (.slice A m c7)) w2 from by
    intro w1 A m c7 ks w2 hO1 hr he hv hO2;rw [he] at hv;have hO:Only (fun _=>False) w w2:=hO1.andThen hO2 (fun b hb hin=>by have:=(hr.inlt hin).1; omega)
    exact ⟨F,A,m,c7,rfl,⟨om,a,n,c,h.keep hO (fun _ _ h=>h)⟩,fun _ h=>.inl h,hO.mono (fun _ _ h=>h.elim),hv,hr.cap,fun b hp hin=>⟨(hr.inlt hin).1,fun hF=>by have:=h.lt _ hF; have:=(hr.inlt hin).1; omega⟩⟩)
  have HM:=lj h.mo;clear h
  rcases HM.out with ⟨rfl,hr⟩ | ⟨bm,rfl,hr⟩
  · have hrg:=run_range_nilMap (P:=Tryz.prog) w 68 3 164 Tryz.underlying68
    have hnx:∀ ty,(Instr.next (.pointer (some ⟨w.heap.size,0,none⟩)) false ty).run Tryz.prog (w.alloc (.mapIter none 0 #[] 0))=_:=fun ty=>run_next_nilMap _ ty 0 0 #[]
    have HZ:=lj (fun w2=>HEnd.out (w.alloc (.mapIter none 0 #[] 0)) none 0 0 [] w2 ((Only.refl _ _).alloc _) (Rw.nil _ _) (by rw [hr]; simp));clear HEnd HM hr
    go_enter Tryz.func146,Tryz.ntmps146
    go_wp2;refine wp_loop_rounds 1 ?_;rw [rounds_succ]
    go_wp2_with fail
    refine (sort_any (ks:=[]) (Rw.nil 0 _) (Nat.zero_le _)).mono ?_;rintro e w2 ⟨rfl,hv,hO2⟩;have HQ:=lj (HZ.out w2 hv hO2);clear hv hO2 hrg hnx;go_wp2;go_ret;exact HQ.out
  · obtain ⟨D,hD,hh,_,hsz⟩:=hr.own
    have hbm:=hD.lt;have HS:=lj (And.intro hh hsz);clear hr hh hsz
    go_enter Tryz.func146,Tryz.ntmps146
    go_wp2_with (first
      | (at_range; refine wpList_range_own _ rfl _ 68 rfl 3 164 law_int Tryz.underlying68 _ bm _ _ rfl hD ?_; intro w0 hrg0 hg0 hs0)
      | fail)
    have HO0:=lj (show Only (fun _=>False) w w0 from Only.grown hg0 (fun k e _=>by cases e));clear hg0
    go_loopw [3] (fun s3 wr=>∃ (left:Lit→Bool) (cnt:Nat) (ks:List Int) (A:Option Addr) (m c7:Nat),s3 = .slice A m c7∧wr.ranges Tryz.prog 3 (plainElem Tryz.prog 164) bm w.heap.size t.roles.length D left cnt ∧
        Rw w.heap.size wr A m c7 (ints ks)∧Only (fun _=>False) w wr∧¬ In A w.heap.size∧Kept D left ks∧ks.length+cnt≤t.roles.length) (fun _ wr=>wr.rangeLeft bm w.heap.size)
    case atStart =>
      exact ⟨_,_,[],none,0,0,rfl,hrg0,Rw.nil _ _,HO0.out,(by rintro ⟨p,hp,_⟩; cases hp),Kept.start D,by have:=HS.out.2; simp; omega⟩
    case round =>
      obtain ⟨left,cnt,ks,A,m,c7,rfl,hrg,hrw,hO,hni,hK,hlen⟩:=hrel;have HK:=lj hK;have HR:=lj hrw;have HO:=lj hO;have HI:=lj hni;have HRg:=lj hrg
      have hml:m=ks.length:=by have:=hrw.len; rw [ints_len] at this; exact this.symm
      have hm0:m≤100000:=by omega
      have HL:=lj (And.intro hml hlen);clear hK hrw hO hni hrg0 HO0 hml hlen
      go_wp2_with (first
        | (at_next; refine wpList_next_ranges_ii _ rfl _ rfl 3 164 .i64 .i64 law_int Tryz.underlying3 Tryz.underlying164 bm w.heap.size _ _ _ _ rfl hrg ?_ ?_)
        | fail)
      · intro hc0 hl0
        have HE:=lj (HK.out.sorted hl0 hrise HS.out.1);have hSo:=sort_any HR.out (by omega);clear hrg HRg
        go_wp2_with fail
        refine hSo.mono ?_;rintro e w2 ⟨rfl,hv,hO2⟩;have HQ:=lj (HEnd.out wr A m c7 ks w2 HO.out HR.out HE.out hv hO2);clear hv hO2 hSo;go_wp2;go_ret;exact HQ.out
      · intro x r w1 cnt1 hwx hwr hlx hat hrg1 hlt hg1 hs1 hen
        have HO1:=lj (show Only (fun b=>b=w.heap.size) wr w1 from Only.grown hg1 (fun k e _=>by injection e with e; exact e.symm));have HKs:=lj (HK.out.step hlx hat);have HM1:=lj (HR.out.only (HO1.out.alloc (.cells #[.int .i64 x] 3)) (fun b hb e=>HI.out (e ▸ hb)));have HVx:=lj (show Vals (w1.alloc (.cells #[.int .i64 x] 3)) (w1.heap.size+1) (some ⟨w1.heap.size,0,none⟩) 1 (ints [x]) from Vals.lit w1 (ints [x]) 3 (ints_one _) (0,0) _ rfl)
        have hsz0:w.heap.size<w1.heap.size:=by rw [hs1]; exact HRg.out.lt
        have HR1:=lj hrg1;clear hs1 hg1 hrg1 hat hlx hrg
        go_wp2_with (first
          | (at_builtin
             refine wpList_rw elem_int rfl (.tmp 14) (.tmp 16) rfl w.heap.size rfl HM1.out rfl HVx.out (by omega) (by simp; omega) ?_;intro A2 c8 w5 hm hO5 hp5;have HM5:=lj (show Rw w.heap.size w5 A2 (m+1) c8 (ints (ks ++ [x])) from by rw [ints_app]; exact hm);have HO5:=lj hO5;have HP5:=lj hp5
             clear hm hO5 hp5)
          | fail)
        have hI1:¬ In A (w.heap.size):=HI.out;have hOa:Only (fun _=>False) w1 (w1.alloc (.cells #[.int .i64 x] 3)):=(Only.refl _ _).alloc _
        have hIbm:¬ In A bm:=fun hin=>by have:=(HR.out.inlt hin).1; omega
        have hrg5:=ranges_only (ranges_only HR1.out hOa (fun h=>h) (fun h=>h)) HO5.out hIbm hI1;go_roundw
        case rel =>
          refine ⟨_,cnt1,ks ++ [x],A2,m+1,c8,rfl,hrg5,HM5.out,?_,?_,HKs.out,by have:=HL.out.2; simp; omega⟩
          · have h1:Only (fun b=>w.heap.size≤b) w1 w5:=(hOa.mono (fun _ _ h=>h.elim)).andThen HO5.out (fun b _ hin=>(HR.out.inlt hin).1)
            have h2:Only (fun b=>w.heap.size≤b) wr w5:=(HO1.out.mono (fun k _ hk=>by omega)).andThen h1 (fun b _ hb=>hb);exact HO.out.andThen h2 (fun b hb hin=>by omega)
          · intro hin
            rcases HP5.out _ hin with h1 | h1
            · exact HI.out h1
            · simp at h1; omega
        case measure=>rw [hrg5.left_eq,HRg.out.left_eq]; exact hlt
end
end
end Go.Proofs.YtdpagmcickkbmaaGreatDoor
