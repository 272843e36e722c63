/- BrokerInput: for every input the law answers true, and its arguments read as before. Conditions: none. -/
import Derived.BigQuiet
import Derived.Test.YtjmdddhbdofppaaGreatDoorZi10
import Derived.Test.YtjmdddhbdofppaaGreatDoorZi19
import Derived.Test.YtjmdddhbdofppaaGreatDoorZi41
import Derived.Test.YtjmdddhbdofppaaGreatDoorZi42
import Derived.Test.YtjmdddhbdofppaaGreatDoorZiInse
import Derived.Test.YtjmdddhbdofppaaGreatDoorZiLg
import Derived.Test.YtjmdddhbdofppaaGreatDoorZiQy
namespace Go.Proofs.YtjmdddhbdofppaaGreatDoor.brokerInput
open Go.ChangeShapes Go.WideShapes Go.ChangeAt Go.RowKit
open Fr Bk
def cfQ (cf : Cf) : Cf:=⟨cf.log,cf.data,60000,cf.input,cf.strikes,cf.lease,cf.idle,cf.width⟩
theorem cfQ_ok {cf : Cf} (h : CfOk cf) : CfOk (cfQ cf):=⟨h.log,h.data,⟨by show 220≤60000; decide,by show 60000≤65536; decide⟩,h.input,h.strikes,h.lease,h.idle,h.width⟩
theorem EvOk.mono {b : Br} {i T m i' T' m' : Nat} (h : EvOk b i T m) (hi : i≤i') (hT : T≤T') (hm : m≤m') : EvOk b i' T' m':=⟨h.ok,fun k c hc=>⟨Nat.le_trans (h.cn k c hc).1 hi,(h.cn k c hc).2⟩,Nat.le_trans h.tot hT,Nat.le_trans h.len hm,h.sp⟩
theorem InAt.mono {b : Br} {i T m i' T' m' : Nat} (h : InAt b i T m) (hi : i≤i') (hT : T≤T') (hm : m≤m') : InAt b i' T' m':=⟨EvOk.mono h.ev hi hT hm,h.in16,h.rest,h.qc,h.ended,h.queue,h.inp,h.r3⟩
theorem InAt.wlen {b : Br} {i T m : Nat} (h : InAt b i T m) (id n : Int) : (writeT b id n).length≤60000:=by
  unfold writeT
  split
  · rcases hc : b.cs id.toNat with _ | c
    · exact Nat.zero_le _
    · have:=h.r3.out _ c hc
      rw [h.queue] at this
      show (c.out.take _).length≤_
      rw [List.length_take]
      omega
  · exact Nat.zero_le _
def rj (l : List M) : Nat:=(l.filter fun m=>decide (m.k = 8)).length
theorem rj_app (a b : List M) : rj (a ++ b) = rj a + rj b:=by unfold rj; rw [List.filter_append,List.length_append]
theorem rj_next (l : List M) (j : Nat) (m : M) (h : l[j]? = some m) : rj (l.take (j + 1)) = rj (l.take j) + (if m.k = 8 then 1 else 0):=by
  rw [List.take_add_one,h,rj_app]
  congr 1
  show ([m].filter fun m=>decide (m.k = 8)).length = _
  by_cases e : m.k = 8
  · rw [if_pos e,List.filter_cons_of_pos (by simp [e])]; rfl
  · rw [if_neg e,List.filter_cons_of_neg (by simp [e])]; rfl
theorem rj_data {ms : List M} (h : AreData ms) : rj ms = 0:=by
  unfold rj
  rw [List.filter_eq_nil_iff.2 fun m hm=>by have:=(h m hm).2; simp [this]]
  rfl
theorem typed_out {b : Br} {i T m : Nat} (h : InAt b i T m) {k : Nat} {c : Cn} {ms : List M} (hc : b.cs k = some c) (hst : c.st = 1) (hout : c.out = encs ms) (hd : AreData ms) (hq : c.out.length + 200≤60000) (h1 : 1≤k) (h2 : k≤16) (hr : rhas b.fl.roles k = true) {seq : Int} {t : Bs} (h0 : 0≤seq) (hs1 : seq≤1099511627776) (ht : ∀ x∈t,x≠29#8) (hn : t.length≤100) (hne : t≠[]) :
    InAt (bytesB b (k : Nat) (enc (keys seq t))) i (T + 2200) m∧∃ ml : List M,(∀ x∈ml,x.ok = true)∧writeT (bytesB b (k : Nat) (enc (keys seq t))) (k : Nat) 70000 = encs ml∧rj ml≤1∧(∀ x∈ml,x.k = 8→x.a = seq) ∧
      (rj ml = 0→fhold b.fl = k∧(bytesB b (k : Nat) (enc (keys seq t))).inp = b.inp ++ t)∧(rj ml = 1→(bytesB b (k : Nat) (enc (keys seq t))).inp = b.inp):=by
  obtain ⟨hA,hB⟩:=h.typed hc hst hout hq h1 h2 hr h0 hs1 ht hn hne
  refine ⟨hA,?_⟩
  rcases hB with ⟨e1,e2,e3⟩ | ⟨w,hw,e1,e2⟩
  · exact ⟨ms,fun x hx=>(hd x hx).1,e3,by rw [rj_data hd]; decide,fun x hx e=>by rw [(hd x hx).2] at e; exact absurd e (by decide),fun _=>⟨e1,e2⟩,fun e=>by rw [rj_data hd] at e; cases e⟩
  · have hj : rj (ms ++ [rejectM seq w]) = 1:=by rw [rj_app,rj_data hd]; rfl
    refine ⟨ms ++ [rejectM seq w],fun x hx=>?_,e2,by rw [hj]; decide,fun x hx e=>?_,fun e=>(by rw [hj] at e; cases e),fun _=>e1⟩
    · rcases List.mem_append.1 hx with hx | hx
      · exact (hd x hx).1
      · rw [List.mem_singleton.1 hx]; exact Bk.reject_ok h0 hs1 hw
    · rcases List.mem_append.1 hx with hx | hx
      · rw [(hd x hx).2] at e; exact absurd e (by decide)
      · rw [List.mem_singleton.1 hx]; rfl
def flt (t : Bs) : Bs:=t.filter fun x=>decide (x≠29#8)
theorem flt_next (t : Bs) (j : Nat) (x : BitVec 8) (h : t[j]? = some x) : flt (t.take (j + 1)) = flt (t.take j) ++ (if x≠29#8 then [x] else []):=by
  unfold flt
  rw [List.take_add_one,h,List.filter_append]
  congr 1
  show [x].filter _ = _
  by_cases e : x = 29#8
  · rw [if_neg (by simp [e]),List.filter_cons_of_neg (by simp [e])]; rfl
  · rw [if_pos e,List.filter_cons_of_pos (by simp [e])]; rfl
theorem flt_ok (t : Bs) : ∀ x∈flt t,x≠29#8:=fun x hx=>by simpa using (List.mem_filter.1 hx).2
def inB (ge : Nat) (row : Array Value) (W : World) : Prop:=Bx ge W row
theorem inB.cell {ge : Nat} {K I R : Int} {A : Option Addr} {L C : Nat} {W : World} (h : inB ge #[.int .i64 K,.int .i64 I,.int .i64 R,.slice A L C] W) : W.cell? ⟨ge,1,none⟩ = some (.int .i64 I):=Bx.cell h 1 _ rfl
def inS (ge gp N : Nat) (row : Array Value) (ks : Bs) (W : World) : Prop:=Bx ge W row∧Bytes W (gp + 1) (some ⟨gp,0,none⟩) N ks
theorem inS.only {ge gp N : Nat} {row : Array Value} {ks : Bs} {w w' : World} {S : Nat→Prop} (h : inS ge gp N row ks w) (hg : gp < w.heap.size) (ho : Only S w w') (h1 : ¬ S ge) (h2 : ¬ S gp) : inS ge gp N row ks w':=
  ⟨h.1.keep ho h1,h.2.only ho hg fun _ p hp=>by injection hp with hp; subst hp; exact h2⟩
theorem inS.cell {ge gp N : Nat} {K I R : Int} {A : Option Addr} {L C : Nat} {ks : Bs} {W : World} (h : inS ge gp N #[.int .i64 K,.int .i64 I,.int .i64 R,.slice A L C] ks W) : W.cell? ⟨ge,1,none⟩ = some (.int .i64 I):=Bx.cell h.1 1 _ rfl
theorem own_at {base n c g : Nat} {w : World} {l : Bs} (h : Own base w (some ⟨g,0,none⟩) n c l) : Bytes w (g + 1) (some ⟨g,0,none⟩) n l:=
  ⟨h.len,fun _=>⟨g,0,rfl,Nat.lt_succ_self _,fun i hi=>by rw [Nat.zero_add]; exact own_cell h.row i (by rw [h.len]; exact hi)⟩⟩
theorem encs_ge : ∀ (l : List M),l.length≤(encs l).length
  | []=>Nat.le_refl _
  | m :: l=>by
    have:=encs_ge l
    rw [show encs (m :: l) = enc m ++ encs l from rfl,List.length_append,List.length_cons,enc_len5]
    omega
theorem ls_bytes {n0 g : Nat} {S : Nat→Prop} {w w1 : World} {b : Br} {i T m : Nat} {A : Option Addr} {n : Nat} (h : LS n0 S g w b) (hb : Below w.heap.size w w1) (ha : ∀ p,A = some p→w.heap.size≤p.block) (he : EvOk b i T m) (hT : T≤100000000) (id : Int) (hid : wf64 id) {B : Nat} (c2 : Nat) {t : Bs} (ht : Bytes w1 B A n t) (hn : n≤1000000) :
    Calls Tryz.prog 34 #[.pointer (some (at0 g)),.int .i64 id,.slice A n c2] w1 fun e w'=>e = .returned (.int .i64 (bytesE b id : Nat))∧LS n0 S g w' (bytesB b id t)∧Only (fun x=>n0≤x∧¬ S x) w1 w':=by
  obtain ⟨F,rs,h,hs⟩:=h
  have h1 : LB n0 F g rs w1 b:=⟨h.is.quiet (only_of_below hb),h.new,Nat.le_trans h.le hb.size⟩
  exact (bbytes_any h1.is he hT id hid c2 ht hn (fun _ p hp hF=>by
    obtain ⟨y,_,hy⟩:=h.is
    have:=hy.lt hF
    have:=ha p hp
    omega)).mono fun e w' hg=>h1.e2 (fun x hx=>⟨Nat.lt_of_lt_of_le (hs x hx).1 hb.size,(hs x hx).2⟩) hg
theorem ls_do {n0 g : Nat} {S : Nat→Prop} {w : World} {b : Br} {i T m : Nat} {A : Option Addr} {L C : Nat} (h : LS n0 S g w b) (ha : 0 < L→∀ p,A = some p→p.block < n0) (he : EvOk b i T m) (hi : i≤1000000000) (hT : T≤100000000) (k id n : Int) (hid : wf64 id) {B : Nat} {t : Bs} (ht : Bytes w B A L t) (hB : B≤w.heap.size) (hLC : L≤C) (hm : m + L≤1000000) {q : Nat} (hq : bits .and .i64 k 7 = (q : Int)) (hq7 : q≤7) :
    Calls Tryz.prog 24 #[.pointer (some (at0 g)),.agg #[.int .i64 k,.int .i64 id,.int .i64 n,.slice A L C]] w fun e w'=>e = .returned (.tuple #[.string (str (doTx q b id n)),.int .i64 (doEx q b id n : Nat)])∧LS n0 S g w' (doEv q b id n t)∧Only (fun x=>n0≤x∧¬ S x) w w':=by
  obtain ⟨F,rs,h,hs⟩:=h
  exact (ldo_any h.is he hi hT k id n hid ht hB hLC (fun hp p hpp hF=>by have:=h.new _ hF; have:=ha hp p hpp; omega) hm hq hq7).mono fun e w' hg=>h.e2 hs hg
set_option maxRecDepth 100000 in
set_option maxHeartbeats 8000000 in
theorem walk (ca0 cb0 cc0 cd0 ce0 cf0 cg0 ch0 : Int) (a1 : Option Addr) (len1 cap1 : Nat) (K1 I1 R1 : Nat→Int) (A1 : Nat→Option Addr) (L1 C1 : Nat→Nat) (T1 : Nat→Bs) (w : World)  (w1 : Ievs w w.heap.size a1 len1 K1 I1 R1 A1 L1 C1 T1) (g1 : len1≤cap1∧cap1≤maxLen) (ht : TI w) :
    Calls Tryz.prog 5 #[.agg (cv ca0 cb0 cc0 cd0 ce0 cf0 cg0 ch0),.slice a1 len1 cap1] w fun e w'=>e = .returned (.bool true)∧Below w.heap.size w w':=by
  have HTI:=Lib.hid ht
  have HEV:=Lib.hid w1
  have hln : len1≤9223372036854775807:=by have:=g1; unfold maxLen at this; omega
  clear ht w1 g1
  by_cases hrt : rt ca0 cb0 cc0 cd0 ce0 cf0 cg0 ch0 = true
  rotate_left
  · have hrt : rt ca0 cb0 cc0 cd0 ce0 cf0 cg0 ch0 = false:=by simpa using hrt
    unfold cv
    go_enter Tryz.func5,Tryz.ntmps5
    have hxm:=Bx.new w _ rfl #[.int .i64 ca0,.int .i64 cb0,.int .i64 cc0,.int .i64 cd0,.int .i64 ce0,.int .i64 cf0,.int .i64 cg0,.int .i64 ch0] 23
    have hba : Below w.heap.size w (w.alloc (.cells #[.int .i64 ca0,.int .i64 cb0,.int .i64 cc0,.int .i64 cd0,.int .i64 ce0,.int .i64 cf0,.int .i64 cg0,.int .i64 ch0] 23)):=(Below.refl _ _).alloc (Nat.le_refl _) _
    have hsz : w.heap.size < (w.alloc (.cells #[.int .i64 ca0,.int .i64 cb0,.int .i64 cc0,.int .i64 cd0,.int .i64 ce0,.int .i64 cf0,.int .i64 cg0,.int .i64 ch0] 23)).heap.size:=by simp
    go_wp2_with fail
    generalize w.alloc (.cells #[.int .i64 ca0,.int .i64 cb0,.int .i64 cc0,.int .i64 cd0,.int .i64 ce0,.int .i64 cf0,.int .i64 cg0,.int .i64 ch0] 23) = wa at *
    obtain ⟨gm,hgm⟩ : ∃ gm,w.heap.size = gm:=⟨_,rfl⟩
    rw [hgm] at hxm hba hsz
    have HG:=Lib.hid hgm
    have hTI:=HTI.out.below (hgm ▸ hba)
    have HE0:=Lib.hid (show Ievs w gm a1 len1 K1 I1 R1 A1 L1 C1 T1 from hgm ▸ HEV.out)
    rw [hgm]
    clear hgm HEV
    refine (bhead_any wa hTI).mono ?_
    rintro e w1 ⟨rfl,hb1⟩
    have HX1:=Lib.hid (hxm.go hb1 hsz)
    have HB1:=Lib.hid (Below.trans hba (hb1.mono (Nat.le_of_lt hsz)))
    have HT1:=Lib.hid (hTI.below hb1)
    have HS1:=Lib.hid (Nat.lt_of_lt_of_le hsz hb1.size)
    clear hxm hba hb1 hTI hsz
    have HF:=Lib.hid (lfew_any (cap:=cap1) w1 (show Ievs w1 w1.heap.size a1 len1 K1 I1 R1 A1 L1 C1 T1 from (HE0.out.below HB1.out).more (Nat.le_of_lt HS1.out)) hln)
    go_wp2_with fail
    refine HF.out.mono ?_
    rintro e w2 ⟨f,rfl,hfew,hb2⟩
    have HX2:=Lib.hid (HX1.out.go hb2 HS1.out)
    have HB2:=Lib.hid (Below.trans HB1.out (hb2.mono (Nat.le_of_lt HS1.out)))
    have HT2:=Lib.hid (HT1.out.below hb2)
    have HS2:=Lib.hid (Nat.lt_of_lt_of_le HS1.out hb2.size)
    clear hb2 HX1 HB1 HT1 HS1 HF
    rcases f with _ | _
    · go_wp2
      go_ret
      exact ⟨rfl,by rw [HG.out]; exact HB2.out⟩
    have z0:=HX2.out.cell 0 (.int .i64 ca0) rfl
    have z1:=HX2.out.cell 1 (.int .i64 cb0) rfl
    have z2:=HX2.out.cell 2 (.int .i64 cc0) rfl
    have z3:=HX2.out.cell 3 (.int .i64 cd0) rfl
    have z4:=HX2.out.cell 4 (.int .i64 ce0) rfl
    have z5:=HX2.out.cell 5 (.int .i64 cf0) rfl
    have z6:=HX2.out.cell 6 (.int .i64 cg0) rfl
    have z7:=HX2.out.cell 7 (.int .i64 ch0) rfl
    go_wp2_with fail
    refine (lright_any ca0 cb0 cc0 cd0 ce0 cf0 cg0 ch0 w2).mono ?_
    rintro e w3 ⟨rfl,hb3⟩
    rw [hrt]
    have HB3:=Lib.hid (Below.trans HB2.out (hb3.mono (Nat.le_of_lt HS2.out)))
    go_wp2
    go_ret
    exact ⟨rfl,by rw [HG.out]; exact HB3.out⟩
  obtain ⟨cf,hcf,hev0,rfl,rfl,rfl,rfl,rfl,rfl,rfl,rfl⟩:=rt_cf hrt
  have HC:=Lib.hid (cfQ_ok hcf)
  clear hcf hev0
  unfold cv
  go_enter Tryz.func5,Tryz.ntmps5
  have hxm:=Bx.new w _ rfl #[.int .i64 (cf.log : Nat),.int .i64 (cf.data : Nat),.int .i64 (cf.queue : Nat),.int .i64 (cf.input : Nat),.int .i64 (cf.strikes : Nat),.int .i64 (cf.lease : Nat),.int .i64 (cf.idle : Nat),.int .i64 (cf.width : Nat)] 23
  have hba : Below w.heap.size w (w.alloc (.cells #[.int .i64 (cf.log : Nat),.int .i64 (cf.data : Nat),.int .i64 (cf.queue : Nat),.int .i64 (cf.input : Nat),.int .i64 (cf.strikes : Nat),.int .i64 (cf.lease : Nat),.int .i64 (cf.idle : Nat),.int .i64 (cf.width : Nat)] 23)):=(Below.refl _ _).alloc (Nat.le_refl _) _
  have hsz : w.heap.size < (w.alloc (.cells #[.int .i64 (cf.log : Nat),.int .i64 (cf.data : Nat),.int .i64 (cf.queue : Nat),.int .i64 (cf.input : Nat),.int .i64 (cf.strikes : Nat),.int .i64 (cf.lease : Nat),.int .i64 (cf.idle : Nat),.int .i64 (cf.width : Nat)] 23)).heap.size:=by simp
  go_wp2_with fail
  generalize w.alloc (.cells #[.int .i64 (cf.log : Nat),.int .i64 (cf.data : Nat),.int .i64 (cf.queue : Nat),.int .i64 (cf.input : Nat),.int .i64 (cf.strikes : Nat),.int .i64 (cf.lease : Nat),.int .i64 (cf.idle : Nat),.int .i64 (cf.width : Nat)] 23) = wa at *
  obtain ⟨gm,hgm⟩ : ∃ gm,w.heap.size = gm:=⟨_,rfl⟩
  rw [hgm] at hxm hba hsz
  have HG:=Lib.hid hgm
  have hTI:=HTI.out.below (hgm ▸ hba)
  have HE0:=Lib.hid (show Ievs w gm a1 len1 K1 I1 R1 A1 L1 C1 T1 from hgm ▸ HEV.out)
  rw [hgm]
  clear hgm HEV
  refine (bhead_any wa hTI).mono ?_
  rintro e w1 ⟨rfl,hb1⟩
  have HX1:=Lib.hid (hxm.go hb1 hsz)
  have HB1:=Lib.hid (Below.trans hba (hb1.mono (Nat.le_of_lt hsz)))
  have HT1:=Lib.hid (hTI.below hb1)
  have HS1:=Lib.hid (Nat.lt_of_lt_of_le hsz hb1.size)
  clear hxm hba hb1 hTI hsz
  have HF:=Lib.hid (lfew_any (cap:=cap1) w1 (show Ievs w1 w1.heap.size a1 len1 K1 I1 R1 A1 L1 C1 T1 from (HE0.out.below HB1.out).more (Nat.le_of_lt HS1.out)) hln)
  go_wp2_with fail
  refine HF.out.mono ?_
  rintro e w2 ⟨f,rfl,hfew,hb2⟩
  have HX2:=Lib.hid (HX1.out.go hb2 HS1.out)
  have HB2:=Lib.hid (Below.trans HB1.out (hb2.mono (Nat.le_of_lt HS1.out)))
  have HT2:=Lib.hid (HT1.out.below hb2)
  have HS2:=Lib.hid (Nat.lt_of_lt_of_le HS1.out hb2.size)
  clear hb2 HX1 HB1 HT1 HS1 HF
  rcases f with _ | _
  · go_wp2
    go_ret
    exact ⟨rfl,by rw [HG.out]; exact HB2.out⟩
  have hfew:=hfew rfl
  have hf1:=hfew.1
  have HFW:=Lib.hid hfew.2
  clear hfew
  have z0:=HX2.out.cell 0 (.int .i64 (cf.log : Nat)) rfl
  have z1:=HX2.out.cell 1 (.int .i64 (cf.data : Nat)) rfl
  have z2:=HX2.out.cell 2 (.int .i64 (cf.queue : Nat)) rfl
  have z3:=HX2.out.cell 3 (.int .i64 (cf.input : Nat)) rfl
  have z4:=HX2.out.cell 4 (.int .i64 (cf.strikes : Nat)) rfl
  have z5:=HX2.out.cell 5 (.int .i64 (cf.lease : Nat)) rfl
  have z6:=HX2.out.cell 6 (.int .i64 (cf.idle : Nat)) rfl
  have z7:=HX2.out.cell 7 (.int .i64 (cf.width : Nat)) rfl
  go_wp2_with fail
  refine (lright_any (cf.log : Nat) (cf.data : Nat) (cf.queue : Nat) (cf.input : Nat) (cf.strikes : Nat) (cf.lease : Nat) (cf.idle : Nat) (cf.width : Nat) w2).mono ?_
  rintro e w3 ⟨rfl,hb3⟩
  rw [hrt]
  have hx3:=HX2.out.go hb3 HS2.out
  have hx5:=hx3.set 2 (.int .i64 60000)
  have HX5:=Lib.hid (show Bx gm (w3.setCell ⟨gm,2,none⟩ (.int .i64 60000)) #[.int .i64 (cf.log : Nat),.int .i64 (cf.data : Nat),.int .i64 60000,.int .i64 (cf.input : Nat),.int .i64 (cf.strikes : Nat),.int .i64 (cf.lease : Nat),.int .i64 (cf.idle : Nat),.int .i64 (cf.width : Nat)] from hx5)
  have hbb : Below gm w2 (w3.setCell ⟨gm,2,none⟩ (.int .i64 60000)):=(hb3.mono (Nat.le_of_lt HS2.out)).setCell (p:=⟨gm,2,none⟩) (Nat.le_refl _) _
  have HB3:=Lib.hid (Below.trans HB2.out hbb)
  have HT3:=Lib.hid (HTI.out.below (show Below w.heap.size w _ from by rw [HG.out]; exact HB3.out))
  have hs3 : gm < (w3.setCell ⟨gm,2,none⟩ (.int .i64 60000)).heap.size:=Nat.lt_of_lt_of_le HX5.out.room (Nat.le_refl _)
  have f2:=hx3.free 2
  have c2:=hx3.cell 2 (.int .i64 (cf.queue : Nat)) rfl
  clear hx3 hx5 hbb HX2 HT2 HS2 z0 z1 z2 z3 z4 z5 z6 z7
  go_upto_region 6 with fail
  generalize w3.setCell ⟨gm,2,none⟩ (.int .i64 60000) = w4 at *
  have HS3:=Lib.hid hs3
  have z0:=HX5.out.cell 0 (.int .i64 (cf.log : Nat)) rfl
  have z1:=HX5.out.cell 1 (.int .i64 (cf.data : Nat)) rfl
  have z2:=HX5.out.cell 2 (.int .i64 60000) rfl
  have z3:=HX5.out.cell 3 (.int .i64 (cf.input : Nat)) rfl
  have z4:=HX5.out.cell 4 (.int .i64 (cf.strikes : Nat)) rfl
  have z5:=HX5.out.cell 5 (.int .i64 (cf.lease : Nat)) rfl
  have z6:=HX5.out.cell 6 (.int .i64 (cf.idle : Nat)) rfl
  have z7:=HX5.out.cell 7 (.int .i64 (cf.width : Nat)) rfl
  clear hs3 f2 c2
  have HNew:=Lib.hid (show Calls Tryz.prog 21 #[.agg #[.int .i64 (cf.log : Nat),.int .i64 (cf.data : Nat),.int .i64 60000,.int .i64 (cf.input : Nat),.int .i64 (cf.strikes : Nat),.int .i64 (cf.lease : Nat),.int .i64 (cf.idle : Nat),.int .i64 (cf.width : Nat)]] w4 fun e w'=>∃ g,e = .returned (.pointer (some (at0 g)))∧LBx w4.heap.size g w' (bnew (cfQ cf))∧Below w4.heap.size w4 w' from lb_new HC.out w4 HT3.out)
  go_wp2_with fail
  refine HNew.out.mono ?_
  rintro e w5 ⟨g,rfl,hl5,hb5⟩
  have HL5:=Lib.hid hl5
  have HB5:=Lib.hid (Below.trans HB3.out (hb5.mono (Nat.le_of_lt HS3.out)))
  have hn0:=HS3.out
  clear hl5 hb5 HX5 HB2 HB3 HT3 HS3 HNew z0 z1 z2 z3 z4 z5 z6 z7
  generalize w4.heap.size = n0 at *
  have hn1 : gm≤n0:=Nat.le_of_lt hn0
  have HI0:=Lib.hid (in_begin (conf_ev HC.out) rfl)
  go_wp2
  go_loopw [6,7,8,45] (fun s6 s7 s8 s45 wr=>∃ (k sq : Nat) (tk gv : Bs) (b : Br),s45 = .int .i64 (k : Nat)∧s8 = .int .i64 (sq : Nat)∧s6 = .string (str tk)∧s7 = .string (str gv)∧k≤len1∧sq≤k∧tk.length≤100 * k∧Hid (InAt b k (k * 5000 + sumL L1 k) (sumL L1 k))∧Hid (tk = gv ++ b.inp)∧LBx n0 g wr b∧Below gm w wr) (fun _ _ _ s _=>len1 - (intOf s).toNat)
  case atStart=>exact ⟨0,0,[],[],bnew (cfQ cf),rfl,rfl,rfl,rfl,Nat.zero_le _,Nat.le_refl _,Nat.le_refl _,HI0,Lib.hid rfl,HL5.out,HB5.out⟩
  case round =>
    obtain ⟨k,sq,tk,gv,b,rfl,rfl,rfl,rfl,hk,hsq,htk,HI,HTK,hl,hb⟩:=hrel
    have HL:=Lib.hid hl
    have HB:=Lib.hid hb
    have hgw : gm≤wr.heap.size:=by rw [← HG.out]; exact hb.size
    have hs6:=str_size tk
    have hs7:=str_size gv
    clear hl hb HL5 HB5 HI0
    by_cases hlt : k < len1
    rotate_left
    · obtain rfl : k = len1:=by omega
      have dk : decide ((k : Int) < (k : Int)) = false:=decide_eq_false (by omega)
      have HD:=Lib.hid (lb_drain HL.out 70000)
      have hgl : gv.length + b.inp.length = tk.length:=by rw [HTK.out,List.length_append]
      have hdr : drainT b 70000 = b.inp:=by
        unfold drainT takeN
        rw [show (min (max (70000 : Int) 0) (b.inp.length : Int)).toNat = b.inp.length by omega]
        exact List.take_length
      go_wp2_with fail
      refine HD.out.mono ?_
      rintro e w9 ⟨A9,m9,c9,rfl,_,hb9,hy9⟩
      rw [hdr] at hy9
      have hl9:=hy9.1
      have hcv:=conv_str (cap:=c9) hy9
      have hts : (str b.inp).size = m9:=by rw [str_size]; exact hl9
      have hov : ¬ (9223372036854775807 < gv.length + m9):=by omega
      have hcat : str gv ++ str b.inp = str tk:=by rw [← str_app,← HTK.out]
      have hsr : ((str tk).toList == (str tk).toList) = true:=by simp
      have HB9:=Lib.hid (Below.trans HB.out (hb9.mono hn1))
      clear hb9 HD
      go_wp2
      exact bodyPost_ret (v:=.bool true) (by simp [results,Tryz.results5,go_sem]) rfl ⟨rfl,by rw [HG.out]; exact HB9.out⟩
    have hmix : Tryz.prog.follows .mixedOrders = true:=by kernel_rfl
    have dk : decide ((k : Int) < (len1 : Int)) = true:=decide_eq_true (by omega)
    have HSum:=Lib.hid (show sumL L1 (k + 1)≤6000 from Nat.le_trans (sumL_mono (show k + 1≤len1 from hlt)) HFW.out)
    have HS1:=Lib.hid (show sumL L1 (k + 1) = sumL L1 k + L1 k from rfl)
    obtain ⟨bb,off,rfl,hbB,hc⟩:=(HE0.out.below HB.out).outer (by omega)
    obtain ⟨hc0,hc1,hc2,hc3⟩:=hc k hlt
    obtain ⟨⟨hw0,hw1,hw2⟩,hby,hcap,_⟩:=HE0.out.inner k hlt
    obtain ⟨eA,hA⟩ : ∃ x,A1 k = x:=⟨_,rfl⟩
    rw [hA] at hc3 hby
    have HY:=Lib.hid (And.intro hby hcap)
    obtain ⟨q,hq7,hq⟩:=bits_any (K1 k) 7 (by decide)
    have hq : bits .and .i64 (K1 k) 7 = (q : Int):=hq
    clear hc hby hcap hw0 hw2 hA
    have HE:=Lib.hid (Bx.new wr wr.heap.size rfl #[.int .i64 (K1 k),.int .i64 (I1 k),.int .i64 (R1 k),.slice eA (L1 k) (C1 k)] 34)
    have hbe : Below wr.heap.size wr (wr.alloc (.cells #[.int .i64 (K1 k),.int .i64 (I1 k),.int .i64 (R1 k),.slice eA (L1 k) (C1 k)] 34)):=(Below.refl _ _).alloc (Nat.le_refl _) _
    have HNW:=Lib.hid (show n0≤wr.heap.size from HL.out.le)
    go_upto_region 15 with fail
    generalize hge : wr.heap.size = ge at *
    have HLS:=Lib.hid (HL.out.ls (S:=fun x=>x = ge) (by rw [hge]; exact hbe) (fun x hx=>by subst hx; exact ⟨by rw [hge]; exact Nat.le_refl _,HE.out.room⟩))
    generalize wr.alloc _ = w5 at *
    have HB5:=Lib.hid (Below.trans HB.out (hbe.mono hgw))
    have e0:=HE.out.cell 0 (.int .i64 (K1 k)) rfl
    have e1:=HE.out.cell 1 (.int .i64 (I1 k)) rfl
    have e2:=HE.out.cell 2 (.int .i64 (R1 k)) rfl
    have e3:=HE.out.cell 3 (.slice eA (L1 k) (C1 k)) rfl
    have hn5 : n0≤w5.heap.size:=Nat.le_trans HNW.out (Nat.le_of_lt HE.out.room)
    have hAw : 0 < L1 k→∀ p,eA = some p→p.block < n0:=fun hp p e=>by
      obtain ⟨b9,off9,e9,h9,_⟩:=HY.out.1.2 hp
      rw [e] at e9
      injection e9 with e9
      subst e9
      show b9 < n0
      omega
    have HAw:=Lib.hid hAw
    have hTT : k * 5000 + sumL L1 k≤1000000:=by have:=HSum.out; have:=HS1.out; omega
    have hk9 : k≤1000000000:=by omega
    have hmm : sumL L1 k + L1 k≤1000000:=by have:=HSum.out; have:=HS1.out; omega
    have HDoS:=fun (q : Nat) (hq : bits .and .i64 (K1 k) 7 = (q : Int)) (hq7 : q≤7)=>ls_do (A:=eA) (L:=L1 k) (C:=C1 k) (w:=w5) HLS.out HAw.out HI.out.ev hk9 (by omega) (K1 k) (I1 k) (R1 k) hw1 (HY.out.1.below HB5.out) (Nat.le_trans hn1 hn5) HY.out.2 hmm hq hq7
    have HDoS:=Lib.hid HDoS
    clear hc0 hc1 hc2 hc3 hbe hAw HL HB HE0
    rcases (by omega : q = 0∨q = 1∨q = 2∨q = 3∨q = 4∨q = 5∨q = 6∨q = 7) with rfl | rfl | rfl | rfl | rfl | rfl | rfl | rfl
    · as_aux_lemma =>
        have hq : bits .and .i64 (K1 k) 7 = 0:=hq
        have HD:=Lib.hid (HDoS.out 0 hq (by decide))
        clear HDoS
        go_wp2_with fail
        refine HD.out.mono ?_
        rintro e w6 ⟨rfl,hl6,ho6⟩
        obtain ⟨i6,p6⟩:=HI.out.connect (I1 k)
        obtain ⟨b6,hb6⟩ : ∃ x,connectB b (I1 k) = x:=⟨_,rfl⟩
        obtain ⟨ce,hce⟩ : ∃ x,connectE b (I1 k) = x:=⟨_,rfl⟩
        rw [show doEx 0 b (I1 k) (R1 k) = ce from hce]
        rw [hb6] at i6 p6
        have HL6:=Lib.hid (show LS n0 (fun x=>x = ge) g w6 b6 from hb6 ▸ hl6)
        have HX6:=Lib.hid (HE.out.keep ho6 (fun h=>h.2 rfl))
        have HB6:=Lib.hid (Below.trans HB5.out (ho6.below (Nat.le_trans hn1 hn5) fun x hx h=>by have:=h.1; omega))
        have HI6:=Lib.hid i6
        have HTK6:=Lib.hid (show tk = gv ++ b6.inp from by rw [p6]; exact HTK.out)
        clear hl6 ho6 i6 p6 hb6 hce HD HLS HB5 HI HTK e0 e1 e2 e3 HE hs6 hs7
        by_cases h0 : ce = 0
        rotate_left
        · have dce : decide ((ce : Int) = 0) = false:=decide_eq_false (by omega)
          have dce2 : ((ce : Int) == 0) = false:=by simp; omega
          clear HX6
          have hsT:=str_size tk
          have hsG:=str_size gv
          have hgt : gv.length≤tk.length:=by rw [HTK6.out,List.length_append]; omega
          have dgt : decide ((gv.length : Int) > (tk.length : Int)) = false:=decide_eq_false (by omega)
          have dgt2 : decide ((tk.length : Int) < (gv.length : Int)) = false:=decide_eq_false (by omega)
          have dgt3 : decide (tk.length < gv.length) = false:=decide_eq_false (by omega)
          have hcut : (str tk).extract 0 gv.length = str gv:=by rw [s_cut,HTK6.out]; simp
          have hsg : ((str gv).toList == (str gv).toList) = true:=by simp
          go_wp2
          go_roundw
          case rel=>exact ⟨k + 1,sq,tk,gv,b6,by go_num,rfl,rfl,rfl,by omega,by omega,by omega,Lib.hid (InAt.mono HI6.out (by omega) (by have:=HS1.out; omega) (by have:=HS1.out; omega)),HTK6,HL6.out.lbx,HB6.out⟩
          case measure=>simp [intOf]; omega
        subst h0
        have hSy0 : inB ge #[.int .i64 (K1 k),.int .i64 (I1 k),.int .i64 (R1 k),.slice eA (L1 k) (C1 k)] w6.drew:=HX6.out.keep ((Only.refl (fun _=>False) w6).drew) (fun h=>h)
        have HLdy:=Lib.hid (HL6.out.quiet ((Only.refl Nay w6).drew))
        go_wp2_with fail
        refine wp_region_held (S:=fun W=>inB ge #[.int .i64 (K1 k),.int .i64 (I1 k),.int .i64 (R1 k),.slice eA (L1 k) (C1 k)] W) hmix ?_
        change wpAnyH _ _ _ _ _ _ _ _ (World.drew _)
        refine wpAnyH_take (i:=0) (v:=.pointer (some (at0 g))) rfl (by kernel_rfl) (by kernel_rfl) (by kernel_rfl) (fun _ _ _ h=>h) (.inl ⟨by kernel_rfl,fun W hW=>?_⟩) hSy0 ?_
        · go_simp
        refine wpAnyH_take (i:=1) (v:=.pointer (some ⟨ge,1,none⟩)) rfl (by kernel_rfl) (by kernel_rfl) (by kernel_rfl) (fun _ _ _ h=>h) (.inl ⟨by kernel_rfl,fun W hW=>?_⟩) hSy0 ?_
        · go_simp
        refine wpAnyH_take (i:=2) (v:=.int .i64 (I1 k)) rfl (by kernel_rfl) (by kernel_rfl) (by kernel_rfl) (fun _ _ _ h=>h) (.inl ⟨by kernel_rfl,fun W hW=>?_⟩) hSy0 ?_
        · have hc1:=inB.cell hW; go_simp
        refine wpAnyH_all (rs:=[3]) (by kernel_rfl) (by simp) ?_
        intro z hz
        rw [List.mem_singleton.1 hz]
        clear hz
        unfold wpOp
        go_simp
        refine .inl ?_
        refine (lhello_any [117#8] (by decide) w6.drew).mono ?_
        rintro e wyy ⟨Ay,cy,rfl,hyy,hny,_,hby⟩
        have hSy1 : inB ge #[.int .i64 (K1 k),.int .i64 (I1 k),.int .i64 (R1 k),.slice eA (L1 k) (C1 k)] wyy:=Bx.go hSy0 hby (Bx.room hSy0)
        have HByy:=Lib.hid (ls_bytes HLdy.out hby hny HI6.out.ev (by omega) (I1 k) hw1 cy hyy (by rw [enc_len5]; decide))
        have hbyg:=hby.mono (show gm≤w6.drew.heap.size from by rw [← HG.out]; exact HB6.out.size)
        clear hyy hny hby
        refine ⟨hSy1,?_⟩
        refine wpAnyH_all (rs:=[4]) (by kernel_rfl) (by simp) ?_
        intro z hz
        rw [List.mem_singleton.1 hz]
        clear hz
        unfold wpOp
        go_simp
        refine .inl ?_
        refine HByy.out.mono ?_
        rintro e w7 ⟨rfl,hly,hoy⟩
        have hSy2 : inB ge #[.int .i64 (K1 k),.int .i64 (I1 k),.int .i64 (R1 k),.slice eA (L1 k) (C1 k)] w7:=Bx.keep hSy1 hoy (fun h=>h.2 rfl)
        refine ⟨hSy2,?_⟩
        refine wpAnyH_done (by kernel_rfl) ?_ _
        go_simp
        obtain ⟨iy,py⟩:=HI6.out.hello (I1 k)
        have HXy:=Lib.hid (show Bx ge w7 #[.int .i64 (K1 k),.int .i64 (I1 k),.int .i64 (R1 k),.slice eA (L1 k) (C1 k)] from hSy2)
        have HLy:=Lib.hid hly
        have HBy:=Lib.hid (Below.trans (below_drew HB6.out) (hbyg.trans (hoy.below (by rw [← HG.out]; exact Nat.le_trans HB6.out.size hbyg.size) fun x hx h=>by have:=h.1; omega)))
        clear hSy0 hSy1 hSy2 HLdy HByy hbyg hoy hly
        have HIy:=Lib.hid iy
        have HPy:=Lib.hid py
        clear iy py HL6 HX6 HB6
        have hSz0 : inB ge #[.int .i64 (K1 k),.int .i64 (I1 k),.int .i64 (R1 k),.slice eA (L1 k) (C1 k)] w7.drew:=HXy.out.keep ((Only.refl (fun _=>False) w7).drew) (fun h=>h)
        have HLdz:=Lib.hid (HLy.out.quiet ((Only.refl Nay w7).drew))
        go_wp2_with fail
        refine wp_region_held (S:=fun W=>inB ge #[.int .i64 (K1 k),.int .i64 (I1 k),.int .i64 (R1 k),.slice eA (L1 k) (C1 k)] W) hmix ?_
        change wpAnyH _ _ _ _ _ _ _ _ (World.drew _)
        refine wpAnyH_take (i:=0) (v:=.pointer (some (at0 g))) rfl (by kernel_rfl) (by kernel_rfl) (by kernel_rfl) (fun _ _ _ h=>h) (.inl ⟨by kernel_rfl,fun W hW=>?_⟩) hSz0 ?_
        · go_simp
        refine wpAnyH_take (i:=1) (v:=.pointer (some ⟨ge,1,none⟩)) rfl (by kernel_rfl) (by kernel_rfl) (by kernel_rfl) (fun _ _ _ h=>h) (.inl ⟨by kernel_rfl,fun W hW=>?_⟩) hSz0 ?_
        · go_simp
        refine wpAnyH_take (i:=2) (v:=.int .i64 (I1 k)) rfl (by kernel_rfl) (by kernel_rfl) (by kernel_rfl) (fun _ _ _ h=>h) (.inl ⟨by kernel_rfl,fun W hW=>?_⟩) hSz0 ?_
        · have hc1:=inB.cell hW; go_simp
        refine wpAnyH_all (rs:=[3]) (by kernel_rfl) (by simp) ?_
        intro z hz
        rw [List.mem_singleton.1 hz]
        clear hz
        unfold wpOp
        go_simp
        refine .inl ?_
        refine (ltyped_any 0 (esc wFloor) (by decide) (by decide) (by decide) w7.drew).mono ?_
        rintro e wyz ⟨Az,cz,rfl,hyz,hnz,_,hbz⟩
        have hSz1 : inB ge #[.int .i64 (K1 k),.int .i64 (I1 k),.int .i64 (R1 k),.slice eA (L1 k) (C1 k)] wyz:=Bx.go hSz0 hbz (Bx.room hSz0)
        have HByz:=Lib.hid (ls_bytes HLdz.out hbz hnz HIy.out.ev (by omega) (I1 k) hw1 cz hyz (by rw [enc_len5]; decide))
        have hbzg:=hbz.mono (show gm≤w7.drew.heap.size from by rw [← HG.out]; exact HBy.out.size)
        clear hyz hnz hbz
        refine ⟨hSz1,?_⟩
        refine wpAnyH_all (rs:=[4]) (by kernel_rfl) (by simp) ?_
        intro z hz
        rw [List.mem_singleton.1 hz]
        clear hz
        unfold wpOp
        go_simp
        refine .inl ?_
        refine HByz.out.mono ?_
        rintro e w8 ⟨rfl,hlz,hoz⟩
        have hSz2 : inB ge #[.int .i64 (K1 k),.int .i64 (I1 k),.int .i64 (R1 k),.slice eA (L1 k) (C1 k)] w8:=Bx.keep hSz1 hoz (fun h=>h.2 rfl)
        refine ⟨hSz2,?_⟩
        refine wpAnyH_done (by kernel_rfl) ?_ _
        go_simp
        obtain ⟨iz,pz⟩:=HIy.out.floor (I1 k)
        have HXz:=Lib.hid (show Bx ge w8 #[.int .i64 (K1 k),.int .i64 (I1 k),.int .i64 (R1 k),.slice eA (L1 k) (C1 k)] from hSz2)
        have HLz:=Lib.hid hlz
        have HBz:=Lib.hid (Below.trans (below_drew HBy.out) (hbzg.trans (hoz.below (by rw [← HG.out]; exact Nat.le_trans HBy.out.size hbzg.size) fun x hx h=>by have:=h.1; omega)))
        clear hSz0 hSz1 hSz2 HLdz HByz hbzg hoz hlz
        obtain ⟨b9,hb9⟩ : ∃ x,bytesB (bytesB b6 (I1 k) (enc (helloM [117#8]))) (I1 k) (enc (keys 0 (esc wFloor))) = x:=⟨_,rfl⟩
        rw [hb9] at iz pz
        have HI9:=Lib.hid iz
        have HTK9:=Lib.hid (show tk = gv ++ b9.inp from by rw [pz,HPy.out]; exact HTK6.out)
        have HL9:=Lib.hid (show LS n0 (fun x=>x = ge) g w8 b9 from hb9 ▸ HLz.out)
        clear iz pz hb9 HIy HPy HTK6 HI6 HLy HXy HBy HLz HXz
        have hsT:=str_size tk
        have hsG:=str_size gv
        have hgt : gv.length≤tk.length:=by rw [HTK9.out,List.length_append]; omega
        have dgt : decide ((gv.length : Int) > (tk.length : Int)) = false:=decide_eq_false (by omega)
        have dgt2 : decide ((tk.length : Int) < (gv.length : Int)) = false:=decide_eq_false (by omega)
        have dgt3 : decide (tk.length < gv.length) = false:=decide_eq_false (by omega)
        have hcut : (str tk).extract 0 gv.length = str gv:=by rw [s_cut,HTK9.out]; simp
        have hsg : ((str gv).toList == (str gv).toList) = true:=by simp
        go_wp2
        go_roundw
        case rel=>exact ⟨k + 1,sq,tk,gv,b9,by go_num,rfl,rfl,rfl,by omega,by omega,by omega,Lib.hid (InAt.mono HI9.out (by omega) (by have:=HS1.out; omega) (by have:=HS1.out; omega)),HTK9,HL9.out.lbx,HBz.out⟩
        case measure=>simp [intOf]; omega
    · as_aux_lemma =>
        have hq : bits .and .i64 (K1 k) 7 = 1:=hq
        clear HDoS
        have HRo:=Lib.hid (lb_role HLS.out.lbx HI.out.ev.ok (I1 k) hw1)
        go_wp2_with fail
        refine HRo.out.mono ?_
        rintro e w6 ⟨rfl,_,hb6⟩
        have HL6:=Lib.hid (HLS.out.quiet (only_of_below hb6))
        have HX6:=Lib.hid (HE.out.go hb6 HE.out.room)
        have HB6:=Lib.hid (Below.trans HB5.out (hb6.mono (Nat.le_trans hn1 hn5)))
        have hgw6 : gm≤w6.heap.size:=by rw [← HG.out]; exact HB6.out.size
        have f1:=HX6.out.cell 1 (.int .i64 (I1 k)) rfl
        have f3:=HX6.out.cell 3 (.slice eA (L1 k) (C1 k)) rfl
        obtain ⟨rl,hrl⟩ : ∃ x,rrole b.fl.roles (I1 k) = x:=⟨_,rfl⟩
        obtain ⟨rh,hrh⟩ : ∃ x,rhas b.fl.roles (I1 k) = x:=⟨_,rfl⟩
        rw [hrl,hrh]
        have HRH:=Lib.hid hrh
        clear hb6 hrl hrh HRo HLS HE HB5 e0 e1 e2 e3
        cases rh
        · go_wp2
          go_roundw
          case rel=>exact ⟨k + 1,sq,tk,gv,b,by go_num,rfl,rfl,rfl,by omega,by omega,by omega,Lib.hid (InAt.mono HI.out (by omega) (by have:=HS1.out; omega) (by have:=HS1.out; omega)),HTK,HL6.out.lbx,HB6.out⟩
          case measure=>simp [intOf]; omega
        by_cases h100 : 100 < L1 k
        · have dL : decide ((L1 k : Int) > 100) = true:=decide_eq_true (by omega)
          have dL1 : decide (100 < (L1 k : Int)) = true:=decide_eq_true (by omega)
          have dL2 : decide (100 < L1 k) = true:=decide_eq_true (by omega)
          go_wp2
          go_roundw
          case rel=>exact ⟨k + 1,sq,tk,gv,b,by go_num,rfl,rfl,rfl,by omega,by omega,by omega,Lib.hid (InAt.mono HI.out (by omega) (by have:=HS1.out; omega) (by have:=HS1.out; omega)),HTK,HL6.out.lbx,HB6.out⟩
          case measure=>simp [intOf]; omega
        have dL : decide ((L1 k : Int) > 100) = false:=decide_eq_false (by omega)
        have dL1 : decide (100 < (L1 k : Int)) = false:=decide_eq_false (by omega)
        have dL2 : decide (100 < L1 k) = false:=decide_eq_false (by omega)
        obtain ⟨kk,hkk,hk1,hk16⟩ : ∃ kk : Nat,I1 k = (kk : Nat)∧1≤kk∧kk≤16:=by
          have hm : 1≤I1 k∧I1 k≤16:=HI.out.ev.ok.rin _ (rhas_of_mem HRH.out)
          exact ⟨(I1 k).toNat,by omega,by omega,by omega⟩
        have HKK:=Lib.hid hkk
        clear hkk
        have hb6k : Below w6.heap.size w6 (w6.alloc (.cells #[] 5)):=(Below.refl _ _).alloc (Nat.le_refl _) _
        have HO0:=Lib.hid (own_new w6 w6.heap.size (Nat.le_refl _))
        go_upto_region 21 with fail
        generalize w6.alloc (.cells #[] 5) = wk at *
        have f3k:=(HX6.out.go hb6k HX6.out.room).cell 3 (.slice eA (L1 k) (C1 k)) rfl
        go_wp2
        clear f3k
        go_loopw [13,76] (fun s13 s76 wr=>∃ (j : Nat) (A : Option Addr) (N c : Nat),s76 = .int .i64 (j : Nat)∧s13 = .slice A N c∧j≤L1 k∧N≤j∧Own w6.heap.size wr A N c (flt ((T1 k).take j))∧Below w6.heap.size w6 wr) (fun _ s _=>L1 k - (intOf s).toNat)
        case atStart=>exact ⟨0,_,0,0,rfl,rfl,Nat.zero_le _,Nat.le_refl _,by rw [List.take_zero]; exact HO0.out,hb6k⟩
        case round =>
          obtain ⟨j,A,N,c,rfl,rfl,hj,hN,hown,hbq⟩:=hrel
          have HO:=Lib.hid hown
          have HBq:=Lib.hid hbq
          have hzq:=hbq.size
          clear hown hbq
          by_cases hjl : j < L1 k
          · have dj : decide ((j : Int) < (L1 k : Int)) = true:=decide_eq_true (by omega)
            have hby:=HY.out.1.below (HB6.out.trans (HBq.out.mono hgw6))
            obtain ⟨b9,off9,rfl,hb9,hc9⟩:=hby.2 (by omega)
            obtain ⟨x,hx⟩ : ∃ x,(T1 k)[j]? = some x:=⟨_,List.getElem?_eq_getElem (by rw [HY.out.1.1]; exact hjl)⟩
            have hcx:=hc9 j hjl
            rw [hx] at hcx
            have hcx : wr.cell? ⟨b9,off9 + j,none⟩ = some (.int .u8 x.toNat):=hcx
            have hfn:=flt_next (T1 k) j x hx
            have hc100 : N≤100:=by omega
            clear hc9 hby hx f1 f3
            by_cases hx9 : x = 29#8
            · subst hx9
              rw [if_neg (by simp),List.append_nil] at hfn
              have HFn:=Lib.hid hfn
              clear hfn
              go_wp2
              go_roundw
              case rel=>exact ⟨j + 1,A,N,c,by go_num,rfl,hjl,by omega,by rw [HFn.out]; exact HO.out,HBq.out⟩
              case measure=>simp [intOf]; omega
            · rw [if_pos hx9] at hfn
              have hxn : x.toNat≠29:=fun e=>hx9 (BitVec.eq_of_toNat_eq e)
              have dx : decide ((x.toNat : Int) = 29) = false:=decide_eq_false (by omega)
              have dx2 : ((x.toNat : Int) == 29) = false:=by simp; omega
              have dx3 : ((x.toNat : Int) != 29) = true:=by simp; omega
              have HFn:=Lib.hid hfn
              clear hfn hxn hx9
              go_wp2_with (first
                | (at_builtin
                   refine wpList_put rfl (.tmp 82) (.tmp 84) rfl w6.heap.size A N c (flt ((T1 k).take j)) rfl (HO.out.below ((Below.refl _ _).alloc (Nat.le_refl _) _)) _ (some ⟨wr.heap.size,0,none⟩) 1 1 [x] rfl (show Bytes (wr.alloc (.cells #[.int .u8 x.toNat] 5)) _ _ 1 [x] from one_new wr x) (by omega) (by simp; omega) ?_
                   intro A2 c2 w2 hown hbel
                   have HO2:=Lib.hid hown
                   have HB2:=Lib.hid (Below.trans HBq.out (Below.trans ((Below.refl _ _).alloc hzq _) hbel))
                   clear hown hbel))
              go_roundw
              case rel=>exact ⟨j + 1,A2,N + 1,c2,by go_num,by go_num,hjl,by omega,by rw [HFn.out]; exact HO2.out,HB2.out⟩
              case measure=>simp [intOf]; omega
          have hje : j = L1 k:=by omega
          subst hje
          have dj : decide ((L1 k : Int) < (L1 k : Int)) = false:=decide_eq_false (by omega)
          have HTk : (T1 k).take (L1 k) = T1 k:=List.take_of_length_le (by rw [HY.out.1.1]; exact Nat.le_refl _)
          obtain ⟨ks,hks⟩ : ∃ x,flt (T1 k) = x:=⟨_,rfl⟩
          have HO2:=Lib.hid (show Own w6.heap.size wr A N c ks from by have:=HO.out; rwa [HTk,hks] at this)
          have HOK:=Lib.hid (show ∀ x∈ks,x≠29#8 from by rw [← hks]; exact flt_ok _)
          have hkl : ks.length = N:=HO2.out.len
          have hN100 : N≤100:=by omega
          have HBw:=Lib.hid (HB6.out.trans (HBq.out.mono hgw6))
          have hgq : gm≤wr.heap.size:=Nat.le_trans hgw6 hzq
          clear HTk hks HO f1 f3
          by_cases hN0 : N = 0
          · subst hN0
            have HLc:=Lib.hid (HL6.out.lbx.below HBq.out)
            clear HL6 HX6
            go_wp2
            go_roundw
            case rel=>exact ⟨k + 1,sq,tk,gv,b,by go_num,rfl,rfl,rfl,by omega,by omega,by omega,Lib.hid (InAt.mono HI.out (by omega) (by have:=HS1.out; omega) (by have:=HS1.out; omega)),HTK,HLc.out,HBw.out⟩
            case measure=>simp [intOf]; omega
          have d0 : decide ((N : Int) = 0) = false:=decide_eq_false (by omega)
          have d01 : ((N : Int) == 0) = false:=by simp; omega
          obtain ⟨gp,rfl,hg1,hg2⟩:=HO2.out.form (by omega)
          have HLq:=Lib.hid (HL6.out.more (T:=fun x=>x = gp) HBq.out (fun x hx=>by subst hx; exact ⟨hg1,hg2⟩))
          have HSq:=Lib.hid (show inS ge gp N #[.int .i64 (K1 k),.int .i64 (I1 k),.int .i64 (R1 k),.slice eA (L1 k) (C1 k)] ks wr from ⟨HX6.out.go HBq.out HX6.out.room,own_at HO2.out⟩)
          have hg6 : ge < w6.heap.size:=HX6.out.room
          obtain ⟨cc,ms,q1,q2,q3,q4,q5,q6,q7,q8⟩:=HI.out.flush (k:=kk) (by rw [← HKK.out]; exact HRH.out)
          obtain ⟨i7,p7⟩:=HI.out.write (I1 k) 70000
          obtain ⟨b7,hb7⟩ : ∃ x,writeB b (I1 k) 70000 = x:=⟨_,rfl⟩
          have hb7k : writeB b (kk : Nat) 70000 = b7:=by rw [← HKK.out]; exact hb7
          rw [hb7k] at q1 q6
          rw [hb7] at i7 p7
          obtain ⟨sn,hsn⟩ : ∃ x : Int,(sq : Int) + 1 = x:=⟨_,rfl⟩
          have hsn0 : 0≤sn:=by omega
          have hsn1 : sn≤1099511627776:=by omega
          obtain ⟨i8,ml,m1,m2,m3,m4,m5,m6⟩:=typed_out i7 q1 q2 q3 q4 q5 q7 q8 (by rw [q6,← HKK.out]; exact HRH.out) (seq:=sn) (t:=ks) hsn0 hsn1 HOK.out (by omega) (fun e=>hN0 (by rw [← hkl,e]; rfl))
          rw [← HKK.out] at i8 m2 m5 m6
          obtain ⟨b8,hb8⟩ : ∃ x,bytesB b7 (I1 k) (enc (keys sn ks)) = x:=⟨_,rfl⟩
          rw [hb8] at i8 m2 m5 m6
          rw [p7] at m5 m6
          have HI7:=Lib.hid i7
          have HI8:=Lib.hid i8
          have HM:=Lib.hid (And.intro m1 (And.intro m2 (And.intro m3 (And.intro m4 (And.intro m5 m6)))))
          have HW7:=Lib.hid (ls_write HLq.out HI.out.ev.ok (I1 k) 70000 hw1)
          have hvs:=HX6.out.go HBq.out HX6.out.room
          have f1:=hvs.cell 1 (.int .i64 (I1 k)) rfl
          clear q1 q2 q3 q4 q5 q6 q7 q8 i7 p7 i8 m1 m2 m3 m4 m5 m6 hvs hb7k hg1 HO2 HL6 HX6
          go_wp2_with fail
          refine HW7.out.mono ?_
          rintro e w7 ⟨A7,n7,cp7,rfl,hl7,ho7,_,_,_⟩
          rw [hb7] at hl7
          have HL7:=Lib.hid hl7
          have HS7:=Lib.hid (inS.only HSq.out hg2 ho7 (fun h=>h.2 (.inl rfl)) (fun h=>h.2 (.inr rfl)))
          have HB7:=Lib.hid (HBw.out.trans (ho7.below hgq fun x hx h=>by have:=h.1; omega))
          have hg7 : gp < w7.heap.size:=Nat.lt_of_lt_of_le hg2 ho7.size
          have hgm7 : gm≤w7.heap.size:=Nat.le_trans hgq ho7.size
          obtain ⟨hd,hhd⟩ : ∃ x,fhold b7.fl = x:=⟨_,rfl⟩
          obtain ⟨hb,hhb⟩ : ∃ x,decide (hd = I1 k) = x:=⟨_,rfl⟩
          have hhb2 : (hd == I1 k) = hb:=by rw [← hhb]; rfl
          have HHd:=Lib.hid (And.intro hhd hhb)
          have hHo:=lb_holder (w:=w7.drew) (HL7.out.lbx.quiet ((Only.refl Nay w7).drew)) HI7.out.ev.ok
          rw [hhd] at hHo
          have HHo:=Lib.hid hHo
          have hS0 : inS ge gp N #[.int .i64 (K1 k),.int .i64 (I1 k),.int .i64 (R1 k),.slice eA (L1 k) (C1 k)] ks w7.drew:=inS.only HS7.out hg7 ((Only.refl (fun _=>False) w7).drew) (fun h=>h) (fun h=>h)
          clear hl7 ho7 hhd hHo HW7 HLq HSq HBw hb7 f1
          go_upto_region 30 with fail
          clear hs6 hs7
          refine wp_region_held (S:=fun W=>inS ge gp N #[.int .i64 (K1 k),.int .i64 (I1 k),.int .i64 (R1 k),.slice eA (L1 k) (C1 k)] ks W) hmix ?_
          change wpAnyH _ _ _ _ _ _ _ _ (World.drew _)
          refine wpAnyH_take (i:=0) (v:=.pointer (some (at0 g))) rfl (by kernel_rfl) (by kernel_rfl) (by kernel_rfl) (fun _ _ _ h=>h) (.inl ⟨by kernel_rfl,fun W hW=>?_⟩) hS0 ?_
          · go_simp
          refine wpAnyH_take (i:=2) (v:=.pointer (some ⟨ge,1,none⟩)) rfl (by kernel_rfl) (by kernel_rfl) (by kernel_rfl) (fun _ _ _ h=>h) (.inl ⟨by kernel_rfl,fun W hW=>?_⟩) hS0 ?_
          · go_simp
          refine wpAnyH_take (i:=3) (v:=.int .i64 (I1 k)) rfl (by kernel_rfl) (by kernel_rfl) (by kernel_rfl) (fun _ _ _ h=>h) (.inl ⟨by kernel_rfl,fun W hW=>?_⟩) hS0 ?_
          · have hc1:=inS.cell hW; go_simp
          refine wpAnyH_all (rs:=[1]) (by kernel_rfl) (by simp) ?_
          intro z hz
          rw [List.mem_singleton.1 hz]
          clear hz
          unfold wpOp
          go_simp
          refine .inl ?_
          refine HHo.out.mono ?_
          rintro e w8 ⟨rfl,_,hb8h⟩
          have hS1 : inS ge gp N #[.int .i64 (K1 k),.int .i64 (I1 k),.int .i64 (R1 k),.slice eA (L1 k) (C1 k)] ks w8:=inS.only hS0 hg7 (only_of_below hb8h) (fun h=>h) (fun h=>h)
          have HL8:=Lib.hid ((HL7.out.quiet ((Only.refl Nay w7).drew)).quiet (only_of_below hb8h))
          have HB8:=Lib.hid (Below.trans (below_drew HB7.out) (hb8h.mono (show gm≤w7.drew.heap.size from hgm7)))
          have hg8 : gp < w8.heap.size:=Nat.lt_of_lt_of_le hg7 hb8h.size
          have hgm8 : gm≤w8.heap.size:=Nat.le_trans hgm7 hb8h.size
          clear hb8h HHo HB7
          refine ⟨hS1,?_⟩
          refine wpAnyH_take (i:=4) (v:=.bool hb) rfl (by kernel_rfl) (by kernel_rfl) (by kernel_rfl) (fun _ _ _ h=>h) (.inl ⟨by kernel_rfl,fun W hW=>?_⟩) hS1 ?_
          · go_simp
          refine wpAnyH_take (i:=5) (v:=.bool hb) rfl (by kernel_rfl) (by kernel_rfl) (by kernel_rfl) (fun _ _ _ h=>h) (.inl ⟨by kernel_rfl,fun W hW=>?_⟩) hS1 ?_
          · go_simp
          refine wpAnyH_done (by kernel_rfl) ?_ _
          go_simp
          have hS1d : inS ge gp N #[.int .i64 (K1 k),.int .i64 (I1 k),.int .i64 (R1 k),.slice eA (L1 k) (C1 k)] ks w8.drew:=inS.only hS1 hg8 ((Only.refl (fun _=>False) w8).drew) (fun h=>h) (fun h=>h)
          have HL8d:=Lib.hid (HL8.out.quiet ((Only.refl Nay w8).drew))
          clear hS0 hS1 hhb hhb2 HL7 HS7
          go_wp2_with fail
          refine wp_region_held (S:=fun W=>inS ge gp N #[.int .i64 (K1 k),.int .i64 (I1 k),.int .i64 (R1 k),.slice eA (L1 k) (C1 k)] ks W) hmix ?_
          change wpAnyH _ _ _ _ _ _ _ _ (World.drew _)
          refine wpAnyH_take (i:=0) (v:=.pointer (some (at0 g))) rfl (by kernel_rfl) (by kernel_rfl) (by kernel_rfl) (fun _ _ _ h=>h) (.inl ⟨by kernel_rfl,fun W hW=>?_⟩) hS1d ?_
          · go_simp
          refine wpAnyH_take (i:=1) (v:=.pointer (some ⟨ge,1,none⟩)) rfl (by kernel_rfl) (by kernel_rfl) (by kernel_rfl) (fun _ _ _ h=>h) (.inl ⟨by kernel_rfl,fun W hW=>?_⟩) hS1d ?_
          · go_simp
          refine wpAnyH_take (i:=2) (v:=.int .i64 (I1 k)) rfl (by kernel_rfl) (by kernel_rfl) (by kernel_rfl) (fun _ _ _ h=>h) (.inl ⟨by kernel_rfl,fun W hW=>?_⟩) hS1d ?_
          · have hc1:=inS.cell hW; go_simp
          refine wpAnyH_take (i:=3) (v:=.int .i64 sn) rfl (by kernel_rfl) (by kernel_rfl) (by kernel_rfl) (fun _ _ _ h=>h) (.inl ⟨by kernel_rfl,fun W hW=>?_⟩) hS1d ?_
          · go_simp
          refine wpAnyH_take (i:=4) (v:=.slice (some ⟨gp,0,none⟩) N c) rfl (by kernel_rfl) (by kernel_rfl) (by kernel_rfl) (fun _ _ _ h=>h) (.inl ⟨by kernel_rfl,fun W hW=>?_⟩) hS1d ?_
          · go_simp
          refine wpAnyH_take (i:=5) (v:=.string (str ks)) rfl (by kernel_rfl) (by kernel_rfl) (by kernel_rfl) (fun _ _ _ h=>h) (.inl ⟨by kernel_rfl,fun W hW=>?_⟩) hS1d ?_
          · have hcv:=conv_str (cap:=c) hW.2; go_simp
          refine wpAnyH_all (rs:=[6]) (by kernel_rfl) (by simp) ?_
          intro z hz
          rw [List.mem_singleton.1 hz]
          clear hz
          unfold wpOp
          go_simp
          refine .inl ?_
          refine (ltyped_any sn ks hsn0 hsn1 (by omega) w8.drew).mono ?_
          rintro e wy ⟨Ay,cy,rfl,hyy,hny,_,hby⟩
          have hS2 : inS ge gp N #[.int .i64 (K1 k),.int .i64 (I1 k),.int .i64 (R1 k),.slice eA (L1 k) (C1 k)] ks wy:=inS.only hS1d hg8 (only_of_below hby) (fun h=>h) (fun h=>h)
          have HBy9:=Lib.hid (ls_bytes HL8d.out hby hny HI7.out.ev (by omega) (I1 k) hw1 cy hyy (by rw [enc_len5]; show 6 * 1 + ks.length + 5≤1000000; omega))
          have hby9:=hby.mono (show gm≤w8.drew.heap.size from hgm8)
          have hgy9 : gp < wy.heap.size:=Nat.lt_of_lt_of_le hg8 hby.size
          clear hyy hny hby
          refine ⟨hS2,?_⟩
          refine wpAnyH_all (rs:=[7]) (by kernel_rfl) (by simp) ?_
          intro z hz
          rw [List.mem_singleton.1 hz]
          clear hz
          unfold wpOp
          go_simp
          refine .inl ?_
          refine HBy9.out.mono ?_
          rintro e w9 ⟨rfl,hl9,ho9⟩
          have hS3 : inS ge gp N #[.int .i64 (K1 k),.int .i64 (I1 k),.int .i64 (R1 k),.slice eA (L1 k) (C1 k)] ks w9:=inS.only hS2 hgy9 ho9 (fun h=>h.2 (.inl rfl)) (fun h=>h.2 (.inr rfl))
          refine ⟨hS3,?_⟩
          refine wpAnyH_done (by kernel_rfl) ?_ _
          go_simp
          have HS9:=Lib.hid hS3
          rw [hb8] at hl9
          have HL9:=Lib.hid hl9
          have HB9:=Lib.hid (Below.trans (below_drew HB8.out) (hby9.trans (ho9.below (Nat.le_trans hgm8 hby9.size) fun x hx h=>by have:=h.1; omega)))
          have hg9 : gp < w9.heap.size:=Nat.lt_of_lt_of_le hgy9 ho9.size
          have hgm9 : gm≤w9.heap.size:=by rw [← HG.out]; exact HB9.out.size
          have HWr:=ls_write HL9.out HI8.out.ev.ok (I1 k) 70000 hw1
          have hwl:=InAt.wlen HI8.out (I1 k) 70000
          rw [HM.out.2.1] at HWr hwl
          have HWr:=Lib.hid HWr
          have f1:=HS9.out.1.cell 1 (.int .i64 (I1 k)) rfl
          clear hS1d hS2 hS3 HL8d hl9 ho9 HBy9 hb8 hby9 HB8
          go_wp2_with fail
          refine HWr.out.mono ?_
          rintro e wa ⟨Aa,na,ca,rfl,hla,hoa,hya,hca,_⟩
          have HSa:=Lib.hid (inS.only HS9.out hg9 hoa (fun h=>h.2 (.inl rfl)) (fun h=>h.2 (.inr rfl)))
          have HBa:=Lib.hid (HB9.out.trans (hoa.below hgm9 fun x hx h=>by have:=h.1; omega))
          have hgma : gm≤wa.heap.size:=by rw [← HG.out]; exact HBa.out.size
          have hga : gp < wa.heap.size:=Nat.lt_of_lt_of_le hg9 hoa.size
          have hna : na≤1000000000:=by have:=hya.1; omega
          obtain ⟨i9,p9⟩:=HI8.out.write (I1 k) 70000
          obtain ⟨b9,hb9⟩ : ∃ x,writeB b8 (I1 k) 70000 = x:=⟨_,rfl⟩
          rw [hb9] at i9 p9 hla
          have HLa:=Lib.hid hla
          have HI9:=Lib.hid (show InAt b9 (k + 1) ((k + 1) * 5000 + sumL L1 (k + 1)) (sumL L1 (k + 1)) from InAt.mono i9 (by omega) (by have:=HS1.out; omega) (by have:=HS1.out; omega))
          have HP9:=Lib.hid p9
          have HMs:=Lib.hid (lmessages_any ml HM.out.1 wa hya (Nat.le_refl _) hca hna)
          clear hla hoa hya hca i9 p9 hb9 HWr HL9 HS9 HB9 f1 HI8 HI7
          go_wp2_with fail
          refine HMs.out.mono ?_
          rintro e wb ⟨R,rc,rfl,hrow,hbb⟩
          have HRow:=Lib.hid hrow
          have HBb:=Lib.hid (HBa.out.trans (hbb.mono hgma))
          have HLb:=Lib.hid (HLa.out.quiet (only_of_below hbb))
          have HSb:=Lib.hid (inS.only HSa.out hga (only_of_below hbb) (fun h=>h) (fun h=>h))
          have hgb : gp < wb.heap.size:=Nat.lt_of_lt_of_le hga hbb.size
          have hgmb : gm≤wb.heap.size:=Nat.le_trans hgma hbb.size
          obtain ⟨ll,hll⟩ : ∃ x,ml.length = x:=⟨_,rfl⟩
          have hll1 : ll≤1000000000:=by have:=encs_ge ml; omega
          rw [hll]
          have HLL:=Lib.hid hll
          clear hrow hbb HMs hll HLa HSa HBa
          go_wp2
          go_loopw [21,125] (fun s21 s125 wr=>∃ j cn : Nat,s125 = .int .i64 (j : Nat)∧s21 = .int .i64 (cn : Nat)∧j≤ll∧Hid (cn = rj (ml.take j))∧cn≤j∧Below wb.heap.size wb wr) (fun _ s _=>ll - (intOf s).toNat)
          case atStart=>exact ⟨0,0,rfl,rfl,Nat.zero_le _,Lib.hid (by rw [List.take_zero]; rfl),Nat.le_refl _,Below.refl _ _⟩
          case round =>
            obtain ⟨j,cn,rfl,rfl,hj2,HCN,hcn,hbr⟩:=hrel
            have HBr:=Lib.hid hbr
            have hzr:=hbr.size
            clear hbr
            by_cases hjl : j < ll
            · obtain ⟨m,hm⟩ : ∃ m,ml[j]? = some m:=⟨_,List.getElem?_eq_getElem (by rw [HLL.out]; exact hjl)⟩
              have hm8:=HM.out.2.2.2.1 m (List.mem_of_getElem? hm)
              obtain ⟨rb,off2,rfl,hlt2,hcell⟩:=HRow.out.msin.outer (by have:=HLL.out; omega)
              obtain ⟨v0,v1,v2,v3⟩:=hcell j m hm
              have v0:=(HBr.out.cell (p:=⟨rb,off2 + j * 4,none⟩) hlt2).trans v0
              have v1:=(HBr.out.cell (p:=⟨rb,off2 + j * 4 + 1,none⟩) hlt2).trans v1
              have v2:=(HBr.out.cell (p:=⟨rb,off2 + j * 4 + 2,none⟩) hlt2).trans v2
              have v3:=(HBr.out.cell (p:=⟨rb,off2 + j * 4 + 3,none⟩) hlt2).trans v3
              have hrn:=rj_next ml j m hm
              have HX:=Lib.hid (Bx.new wr _ rfl #[.int .i64 m.k,.int .i64 m.a,.int .i64 m.b,.string (str m.t)] 65)
              have HBa2:=Lib.hid (HBr.out.alloc hzr (.cells #[.int .i64 m.k,.int .i64 m.a,.int .i64 m.b,.string (str m.t)] 65))
              have dj : decide ((j : Int) < (ll : Int)) = true:=decide_eq_true (by omega)
              clear hm hcell
              go_upto_region 40 with fail
              generalize wr.alloc (.cells #[.int .i64 m.k,.int .i64 m.a,.int .i64 m.b,.string (str m.t)] 65) = wz at *
              have z0:=HX.out.cell 0 (.int .i64 m.k) rfl
              have z1:=HX.out.cell 1 (.int .i64 m.a) rfl
              by_cases hk8 : m.k = 8
              · have e8 : decide (m.k = 8) = true:=decide_eq_true hk8
                have f8 : (m.k == 8) = true:=by simp [hk8]
                have g8:=hm8 hk8
                have h8 : (m.a != sn) = false:=by simp [g8]
                have h81 : decide (m.a = sn) = true:=decide_eq_true g8
                have h82 : (m.a == sn) = true:=by simp [g8]
                rw [if_pos hk8] at hrn
                have HRN:=Lib.hid hrn
                clear hrn hk8 g8 hm8
                go_wp2
                go_roundw
                case rel=>exact ⟨j + 1,cn + 1,by go_num,by go_num,by omega,Lib.hid (by rw [HRN.out,HCN.out]),by omega,HBa2.out⟩
                case measure=>simp [intOf]; omega
              · have e8 : decide (m.k = 8) = false:=decide_eq_false hk8
                have f8 : (m.k == 8) = false:=by simp [hk8]
                rw [if_neg hk8] at hrn
                have HRN:=Lib.hid hrn
                clear hrn hk8 hm8
                go_wp2
                go_roundw
                case rel=>exact ⟨j + 1,cn,by go_num,rfl,by omega,Lib.hid (by rw [HRN.out,HCN.out]; rfl),by omega,HBa2.out⟩
                case measure=>simp [intOf]; omega
            obtain rfl : j = ll:=by omega
            have dj : decide ((j : Int) < (j : Int)) = false:=decide_eq_false (by omega)
            have hcj : cn = rj ml:=by rw [HCN.out,List.take_of_length_le (by rw [HLL.out]; exact Nat.le_refl _)]
            have hc1 : cn≤1:=by rw [hcj]; exact HM.out.2.2.1
            have hcm:=HM.out.2.2.2.2
            rw [← hcj] at hcm
            have HCM:=Lib.hid hcm
            have HBz:=Lib.hid (HBb.out.trans (HBr.out.mono hgmb))
            have HLz:=Lib.hid (HLb.out.quiet (only_of_below HBr.out))
            have HSz:=Lib.hid (inS.only HSb.out hgb (only_of_below HBr.out) (fun h=>h) (fun h=>h))
            clear hcj hcm HBb HLb HSb HCN
            by_cases hc0 : cn = 0
            · subst hc0
              obtain ⟨hf,hin⟩:=HCM.out.1 rfl
              have hbt : hb = true:=by rw [← HHd.out.2,← HHd.out.1]; exact decide_eq_true hf
              subst hbt
              have hcv:=conv_str (cap:=c) HSz.out.2
              obtain ⟨tk2,htk2⟩ : ∃ x,tk ++ ks = x:=⟨_,rfl⟩
              have hap : str tk ++ str ks = str tk2:=by rw [← str_app,htk2]
              have hs6:=str_size tk
              have hsk:=str_size ks
              have hov : ¬ (9223372036854775807 < tk.length + ks.length):=by omega
              have HTK2:=Lib.hid (show tk2 = gv ++ b9.inp from by rw [HP9.out,hin,← List.append_assoc,← HTK.out,htk2])
              have hl2 : tk2.length = tk.length + N:=by rw [← htk2,List.length_append,hkl]
              clear hf hin htk2 HTK HI
              have hsT:=str_size tk2
              have hsG:=str_size gv
              have hgt : gv.length≤tk2.length:=by rw [HTK2.out,List.length_append]; omega
              have dgt : decide ((gv.length : Int) > (tk2.length : Int)) = false:=decide_eq_false (by omega)
              have dgt2 : decide ((tk2.length : Int) < (gv.length : Int)) = false:=decide_eq_false (by omega)
              have dgt3 : decide (tk2.length < gv.length) = false:=decide_eq_false (by omega)
              have hcut : (str tk2).extract 0 gv.length = str gv:=by rw [s_cut,HTK2.out]; simp
              have hsg : ((str gv).toList == (str gv).toList) = true:=by simp
              go_wp2
              go_roundw
              case rel=>exact ⟨k + 1,sq + 1,tk2,gv,b9,by go_num,by rw [← hsn]; rfl,rfl,rfl,by omega,by omega,by omega,HI9,HTK2,HLz.out.lbx,HBz.out⟩
              case measure=>simp [intOf]; omega
            obtain rfl : cn = 1:=by omega
            have hin:=HCM.out.2 rfl
            have HTK2:=Lib.hid (show tk = gv ++ b9.inp from by rw [HP9.out,hin]; exact HTK.out)
            clear hin hc0 HTK HI
            cases hb
            · skip
              have hsT:=str_size tk
              have hsG:=str_size gv
              have hgt : gv.length≤tk.length:=by rw [HTK2.out,List.length_append]; omega
              have dgt : decide ((gv.length : Int) > (tk.length : Int)) = false:=decide_eq_false (by omega)
              have dgt2 : decide ((tk.length : Int) < (gv.length : Int)) = false:=decide_eq_false (by omega)
              have dgt3 : decide (tk.length < gv.length) = false:=decide_eq_false (by omega)
              have hcut : (str tk).extract 0 gv.length = str gv:=by rw [s_cut,HTK2.out]; simp
              have hsg : ((str gv).toList == (str gv).toList) = true:=by simp
              go_wp2
              go_roundw
              case rel=>exact ⟨k + 1,sq + 1,tk,gv,b9,by go_num,by rw [← hsn]; rfl,rfl,rfl,by omega,by omega,by omega,HI9,HTK2,HLz.out.lbx,HBz.out⟩
              case measure=>simp [intOf]; omega
            · skip
              have hsT:=str_size tk
              have hsG:=str_size gv
              have hgt : gv.length≤tk.length:=by rw [HTK2.out,List.length_append]; omega
              have dgt : decide ((gv.length : Int) > (tk.length : Int)) = false:=decide_eq_false (by omega)
              have dgt2 : decide ((tk.length : Int) < (gv.length : Int)) = false:=decide_eq_false (by omega)
              have dgt3 : decide (tk.length < gv.length) = false:=decide_eq_false (by omega)
              have hcut : (str tk).extract 0 gv.length = str gv:=by rw [s_cut,HTK2.out]; simp
              have hsg : ((str gv).toList == (str gv).toList) = true:=by simp
              go_wp2
              go_roundw
              case rel=>exact ⟨k + 1,sq + 1,tk,gv,b9,by go_num,by rw [← hsn]; rfl,rfl,rfl,by omega,by omega,by omega,HI9,HTK2,HLz.out.lbx,HBz.out⟩
              case measure=>simp [intOf]; omega
    · as_aux_lemma =>
        have hq : bits .and .i64 (K1 k) 7 = 2:=hq
        have HD:=Lib.hid (HDoS.out 2 hq (by decide))
        clear HDoS
        go_wp2_with fail
        refine HD.out.mono ?_
        rintro e w6 ⟨rfl,hl6,ho6⟩
        obtain ⟨i6,p6⟩:=HI.out.write (I1 k) (R1 k)
        obtain ⟨b6,hb6⟩ : ∃ x,doEv 2 b (I1 k) (R1 k) (T1 k) = x:=⟨_,rfl⟩
        have HI6:=Lib.hid (show InAt b6 (k + 1) ((k + 1) * 5000 + sumL L1 (k + 1)) (sumL L1 (k + 1)) from by rw [← hb6]; exact InAt.mono i6 (by omega) (by have:=HS1.out; omega) (by have:=HS1.out; have:=HY.out.1.1; omega))
        have HTK6:=Lib.hid (show tk = gv ++ b6.inp from by rw [← hb6]; exact HTK.out.trans (congrArg (gv ++ ·) p6.symm))
        have HL6:=Lib.hid (show LS n0 (fun x=>x = ge) g w6 b6 from hb6 ▸ hl6)
        have HB6:=Lib.hid (Below.trans HB5.out (ho6.below (Nat.le_trans hn1 hn5) fun x hx h=>by have:=h.1; omega))
        clear hl6 ho6 i6 p6 hb6 HD HLS HB5 HI HTK e0 e1 e2 e3 hs6 hs7
        have hsT:=str_size tk
        have hsG:=str_size gv
        have hgt : gv.length≤tk.length:=by rw [HTK6.out,List.length_append]; omega
        have dgt : decide ((gv.length : Int) > (tk.length : Int)) = false:=decide_eq_false (by omega)
        have dgt2 : decide ((tk.length : Int) < (gv.length : Int)) = false:=decide_eq_false (by omega)
        have dgt3 : decide (tk.length < gv.length) = false:=decide_eq_false (by omega)
        have hcut : (str tk).extract 0 gv.length = str gv:=by rw [s_cut,HTK6.out]; simp
        have hsg : ((str gv).toList == (str gv).toList) = true:=by simp
        go_wp2
        go_roundw
        case rel=>exact ⟨k + 1,sq,tk,gv,b6,by go_num,rfl,rfl,rfl,by omega,by omega,by omega,HI6,HTK6,HL6.out.lbx,HB6.out⟩
        case measure=>simp [intOf]; omega
    · as_aux_lemma =>
        have hq : bits .and .i64 (K1 k) 7 = 3:=hq
        have HD:=Lib.hid (HDoS.out 3 hq (by decide))
        clear HDoS
        go_wp2_with fail
        refine HD.out.mono ?_
        rintro e w6 ⟨rfl,hl6,ho6⟩
        obtain ⟨i6,p6⟩:=HI.out.output (T1 k) (by rw [HY.out.1.1]; exact hmm)
        obtain ⟨b6,hb6⟩ : ∃ x,doEv 3 b (I1 k) (R1 k) (T1 k) = x:=⟨_,rfl⟩
        have HI6:=Lib.hid (show InAt b6 (k + 1) ((k + 1) * 5000 + sumL L1 (k + 1)) (sumL L1 (k + 1)) from by rw [← hb6]; exact InAt.mono i6 (by omega) (by have:=HS1.out; omega) (by have:=HS1.out; have:=HY.out.1.1; omega))
        have HTK6:=Lib.hid (show tk = gv ++ b6.inp from by rw [← hb6]; exact HTK.out.trans (congrArg (gv ++ ·) p6.symm))
        have HL6:=Lib.hid (show LS n0 (fun x=>x = ge) g w6 b6 from hb6 ▸ hl6)
        have HB6:=Lib.hid (Below.trans HB5.out (ho6.below (Nat.le_trans hn1 hn5) fun x hx h=>by have:=h.1; omega))
        clear hl6 ho6 i6 p6 hb6 HD HLS HB5 HI HTK e0 e1 e2 e3 hs6 hs7
        have hsT:=str_size tk
        have hsG:=str_size gv
        have hgt : gv.length≤tk.length:=by rw [HTK6.out,List.length_append]; omega
        have dgt : decide ((gv.length : Int) > (tk.length : Int)) = false:=decide_eq_false (by omega)
        have dgt2 : decide ((tk.length : Int) < (gv.length : Int)) = false:=decide_eq_false (by omega)
        have dgt3 : decide (tk.length < gv.length) = false:=decide_eq_false (by omega)
        have hcut : (str tk).extract 0 gv.length = str gv:=by rw [s_cut,HTK6.out]; simp
        have hsg : ((str gv).toList == (str gv).toList) = true:=by simp
        go_wp2
        go_roundw
        case rel=>exact ⟨k + 1,sq,tk,gv,b6,by go_num,rfl,rfl,rfl,by omega,by omega,by omega,HI6,HTK6,HL6.out.lbx,HB6.out⟩
        case measure=>simp [intOf]; omega
    · as_aux_lemma =>
        have hq : bits .and .i64 (K1 k) 7 = 4:=hq
        have HD:=Lib.hid (HDoS.out 4 hq (by decide))
        clear HDoS
        go_wp2_with fail
        refine HD.out.mono ?_
        rintro e w6 ⟨rfl,hl6,ho6⟩
        obtain ⟨b6,hb6⟩ : ∃ x,drainB b (R1 k) = x:=⟨_,rfl⟩
        obtain ⟨dt,hdt⟩ : ∃ x,drainT b (R1 k) = x:=⟨_,rfl⟩
        have hin : b.inp = dt ++ b6.inp:=by rw [← hdt,← hb6]; exact (List.take_append_drop _ _).symm
        rw [show doTx 4 b (I1 k) (R1 k) = dt from hdt]
        have HI6:=Lib.hid (show InAt b6 (k + 1) ((k + 1) * 5000 + sumL L1 (k + 1)) (sumL L1 (k + 1)) from by rw [← hb6]; exact InAt.mono (HI.out.drain (R1 k)) (by omega) (by have:=HS1.out; omega) (by have:=HS1.out; omega))
        obtain ⟨gv2,hgv2⟩ : ∃ x,gv ++ dt = x:=⟨_,rfl⟩
        have HTK6:=Lib.hid (show tk = gv2 ++ b6.inp from by rw [← hgv2,List.append_assoc,← hin]; exact HTK.out)
        have hap : str gv ++ str dt = str gv2:=by rw [← str_app,hgv2]
        have hsd:=str_size dt
        have hln : gv.length + dt.length≤tk.length:=by rw [HTK6.out,← hgv2,List.length_append,List.length_append]; omega
        have hov : ¬ (9223372036854775807 < gv.length + dt.length):=by omega
        have HL6:=Lib.hid (show LS n0 (fun x=>x = ge) g w6 b6 from hb6 ▸ hl6)
        have HB6:=Lib.hid (Below.trans HB5.out (ho6.below (Nat.le_trans hn1 hn5) fun x hx h=>by have:=h.1; omega))
        clear hl6 ho6 hb6 hdt hin hgv2 HD HLS HB5 HI HTK e0 e1 e2 e3 hs6
        have hsT:=str_size tk
        have hsG:=str_size gv2
        have hgt : gv2.length≤tk.length:=by rw [HTK6.out,List.length_append]; omega
        have dgt : decide ((gv2.length : Int) > (tk.length : Int)) = false:=decide_eq_false (by omega)
        have dgt2 : decide ((tk.length : Int) < (gv2.length : Int)) = false:=decide_eq_false (by omega)
        have dgt3 : decide (tk.length < gv2.length) = false:=decide_eq_false (by omega)
        have hcut : (str tk).extract 0 gv2.length = str gv2:=by rw [s_cut,HTK6.out]; simp
        have hsg : ((str gv2).toList == (str gv2).toList) = true:=by simp
        go_wp2
        go_roundw
        case rel=>exact ⟨k + 1,sq,tk,gv2,b6,by go_num,rfl,rfl,rfl,by omega,by omega,by omega,HI6,HTK6,HL6.out.lbx,HB6.out⟩
        case measure=>simp [intOf]; omega
    · as_aux_lemma =>
        have hq : bits .and .i64 (K1 k) 7 = 5:=hq
        have HD:=Lib.hid (HDoS.out 5 hq (by decide))
        clear HDoS
        go_wp2_with fail
        refine HD.out.mono ?_
        rintro e w6 ⟨rfl,hl6,ho6⟩
        obtain ⟨i6,p6⟩:=HI.out.tick
        obtain ⟨b6,hb6⟩ : ∃ x,doEv 5 b (I1 k) (R1 k) (T1 k) = x:=⟨_,rfl⟩
        have HI6:=Lib.hid (show InAt b6 (k + 1) ((k + 1) * 5000 + sumL L1 (k + 1)) (sumL L1 (k + 1)) from by rw [← hb6]; exact InAt.mono i6 (by omega) (by have:=HS1.out; omega) (by have:=HS1.out; have:=HY.out.1.1; omega))
        have HTK6:=Lib.hid (show tk = gv ++ b6.inp from by rw [← hb6]; exact HTK.out.trans (congrArg (gv ++ ·) p6.symm))
        have HL6:=Lib.hid (show LS n0 (fun x=>x = ge) g w6 b6 from hb6 ▸ hl6)
        have HB6:=Lib.hid (Below.trans HB5.out (ho6.below (Nat.le_trans hn1 hn5) fun x hx h=>by have:=h.1; omega))
        clear hl6 ho6 i6 p6 hb6 HD HLS HB5 HI HTK e0 e1 e2 e3 hs6 hs7
        have hsT:=str_size tk
        have hsG:=str_size gv
        have hgt : gv.length≤tk.length:=by rw [HTK6.out,List.length_append]; omega
        have dgt : decide ((gv.length : Int) > (tk.length : Int)) = false:=decide_eq_false (by omega)
        have dgt2 : decide ((tk.length : Int) < (gv.length : Int)) = false:=decide_eq_false (by omega)
        have dgt3 : decide (tk.length < gv.length) = false:=decide_eq_false (by omega)
        have hcut : (str tk).extract 0 gv.length = str gv:=by rw [s_cut,HTK6.out]; simp
        have hsg : ((str gv).toList == (str gv).toList) = true:=by simp
        go_wp2
        go_roundw
        case rel=>exact ⟨k + 1,sq,tk,gv,b6,by go_num,rfl,rfl,rfl,by omega,by omega,by omega,HI6,HTK6,HL6.out.lbx,HB6.out⟩
        case measure=>simp [intOf]; omega
    · as_aux_lemma =>
        have hq : bits .and .i64 (K1 k) 7 = 6:=hq
        have HD:=Lib.hid (HDoS.out 6 hq (by decide))
        clear HDoS
        go_wp2_with fail
        refine HD.out.mono ?_
        rintro e w6 ⟨rfl,hl6,ho6⟩
        obtain ⟨i6,p6⟩:=HI.out.cut (I1 k)
        obtain ⟨b6,hb6⟩ : ∃ x,doEv 6 b (I1 k) (R1 k) (T1 k) = x:=⟨_,rfl⟩
        have HI6:=Lib.hid (show InAt b6 (k + 1) ((k + 1) * 5000 + sumL L1 (k + 1)) (sumL L1 (k + 1)) from by rw [← hb6]; exact InAt.mono i6 (by omega) (by have:=HS1.out; omega) (by have:=HS1.out; have:=HY.out.1.1; omega))
        have HTK6:=Lib.hid (show tk = gv ++ b6.inp from by rw [← hb6]; exact HTK.out.trans (congrArg (gv ++ ·) p6.symm))
        have HL6:=Lib.hid (show LS n0 (fun x=>x = ge) g w6 b6 from hb6 ▸ hl6)
        have HB6:=Lib.hid (Below.trans HB5.out (ho6.below (Nat.le_trans hn1 hn5) fun x hx h=>by have:=h.1; omega))
        clear hl6 ho6 i6 p6 hb6 HD HLS HB5 HI HTK e0 e1 e2 e3 hs6 hs7
        have hsT:=str_size tk
        have hsG:=str_size gv
        have hgt : gv.length≤tk.length:=by rw [HTK6.out,List.length_append]; omega
        have dgt : decide ((gv.length : Int) > (tk.length : Int)) = false:=decide_eq_false (by omega)
        have dgt2 : decide ((tk.length : Int) < (gv.length : Int)) = false:=decide_eq_false (by omega)
        have dgt3 : decide (tk.length < gv.length) = false:=decide_eq_false (by omega)
        have hcut : (str tk).extract 0 gv.length = str gv:=by rw [s_cut,HTK6.out]; simp
        have hsg : ((str gv).toList == (str gv).toList) = true:=by simp
        go_wp2
        go_roundw
        case rel=>exact ⟨k + 1,sq,tk,gv,b6,by go_num,rfl,rfl,rfl,by omega,by omega,by omega,HI6,HTK6,HL6.out.lbx,HB6.out⟩
        case measure=>simp [intOf]; omega
    · as_aux_lemma =>
        have hq : bits .and .i64 (K1 k) 7 = 7:=hq
        clear HDoS hs6 hs7
        have hsT:=str_size tk
        have hsG:=str_size gv
        have hgt : gv.length≤tk.length:=by rw [HTK.out,List.length_append]; omega
        have dgt : decide ((gv.length : Int) > (tk.length : Int)) = false:=decide_eq_false (by omega)
        have dgt2 : decide ((tk.length : Int) < (gv.length : Int)) = false:=decide_eq_false (by omega)
        have dgt3 : decide (tk.length < gv.length) = false:=decide_eq_false (by omega)
        have hcut : (str tk).extract 0 gv.length = str gv:=by rw [s_cut,HTK.out]; simp
        have hsg : ((str gv).toList == (str gv).toList) = true:=by simp
        go_wp2
        go_roundw
        case rel=>exact ⟨k + 1,sq,tk,gv,b,by go_num,rfl,rfl,rfl,by omega,by omega,by omega,Lib.hid (InAt.mono HI.out (by omega) (by have:=HS1.out; omega) (by have:=HS1.out; omega)),HTK,HLS.out.lbx,HB5.out⟩
        case measure=>simp [intOf]; omega
theorem w_in : Tryz.checked.prog.inits.idxOf? 5 = none:=by kernel_rfl
theorem w_ok (os : Os) : Input.okWideB Tryz.prog ((World.doorLaid Tryz.prog 400 os).forCall (fun _ _=>0) ⟨#[],#[.agg #[.int .i64 0,.int .i64 0,.int .i64 0,.int .i64 0,.int .i64 0,.int .i64 0,.int .i64 0,.int .i64 0],.slice none 0 0],[]⟩) 5 ⟨#[],#[.agg #[.int .i64 0,.int .i64 0,.int .i64 0,.int .i64 0,.int .i64 0,.int .i64 0,.int .i64 0,.int .i64 0],.slice none 0 0],[]⟩ = true:=by kernel_rfl
theorem w_pre (os : Os) (H : Type) (enc : TypeId×Value→H) : Rows.brokerInputSpec.preB enc Tryz.prog Tryz.f5 [] false ((World.doorLaid Tryz.prog 400 os).forCall (fun _ _=>0) ⟨#[],#[.agg #[.int .i64 0,.int .i64 0,.int .i64 0,.int .i64 0,.int .i64 0,.int .i64 0,.int .i64 0,.int .i64 0],.slice none 0 0],[]⟩).memory #[.agg #[.int .i64 0,.int .i64 0,.int .i64 0,.int .i64 0,.int .i64 0,.int .i64 0,.int .i64 0,.int .i64 0],.slice none 0 0] 8 = true:=by kernel_rfl
theorem w_sz (os : Os) (H : Type) (enc : TypeId×Value→H) : Rows.brokerInputSpec.sizedB enc Tryz.prog Tryz.f5 false ((World.doorLaid Tryz.prog 400 os).forCall (fun _ _=>0) ⟨#[],#[.agg #[.int .i64 0,.int .i64 0,.int .i64 0,.int .i64 0,.int .i64 0,.int .i64 0,.int .i64 0,.int .i64 0],.slice none 0 0],[]⟩).memory #[.agg #[.int .i64 0,.int .i64 0,.int .i64 0,.int .i64 0,.int .i64 0,.int .i64 0,.int .i64 0,.int .i64 0],.slice none 0 0] 8 = true:=by kernel_rfl
set_option maxRecDepth 100000 in
theorem lifted (os : Os) (started : os.Started) (H : Type) (enc : TypeId×Value→H) :
    ReturnsInHanded {} Tryz.checked os 5 .any (fun w args=>(Rows.brokerInputSpec.pre enc Tryz.prog Tryz.f5 [] false w args∧laidMetH Tryz.prog laidL w)∧sizedMet enc Tryz.prog Tryz.f5 (OpenSpec.ofChange Rows.brokerInputSpec) false w args)
      (Rows.brokerInputSpec.post enc Tryz.prog Tryz.f5 false true false false):=by
  refine returnsInHanded_of_change_and (C:=Tryz.checked) (X:=fun w _=>laidMetH Tryz.prog laidL w) (fun _ _ _ hh h=>h.of_heap hh) own started w_in Tryz.func5
    (ChangeSpec.witness_shaped (enc:=enc) (C:=Tryz.checked) (os:=os) (X:=fun w _=>laidMetH Tryz.prog laidL w) false (World.doorLaid Tryz.prog 400 os) #[.agg #[.int .i64 0,.int .i64 0,.int .i64 0,.int .i64 0,.int .i64 0,.int .i64 0,.int .i64 0,.int .i64 0],.slice none 0 0] 8 rfl (door_shaped os _) (w_ok os) (w_pre os H enc) (w_sz os H enc) (door_met os _)) ?_
  intro W base args ds gs before hval0 hW hcnd hsz0 hL _
  have hti:=ti_of hL
  have hval : ∀ (j : Nat) t v,Tryz.f5.params[j]? = some t→args[j]? = some v→Value.okWide Tryz.prog W .any base t v:=hval0
  have hW':=hW
  obtain ⟨p,q,hA0,hV,rfl,hfz,hnd⟩:=hW
  have hsz : (DataW.weightsEach Tryz.prog (Tryz.f5.params.toList ++ Rows.brokerInputSpec.plain.varTypes Tryz.prog) (ds ++ gs)).all (·≤reachBytes) = true:=hsz0
  have hA : DataW.TrodAll enc Tryz.prog W 0 (fun _=>true) true Tryz.f5.params.toList args.toList ds p:=hA0
  rw [Tryz.params5] at hA hval hsz
  obtain ⟨v0,vs0,d0,ds0,p0,q0,hargs,rfl,rfl,h0,r0⟩:=trodAll_cons hA
  obtain ⟨v1,vs1,d1,ds1,p1,q1,rfl,rfl,rfl,h1,r1⟩:=trodAll_cons r0
  obtain ⟨rfl,rfl,rfl⟩:=trodAll_nil r1
  obtain rfl : args = #[v0,v1]:=by cases args; simp_all
  obtain ⟨rfl,rfl⟩:=trodVars_none hV
  have k0:=h0
  have lt0 : ∀ x∈p0,x.block < W.heap.size:=by obtain ⟨m,hm⟩:=k0; exact DataW.trod_lt m _ _ _ hm
  obtain ⟨ca0,cb0,cc0,cd0,ce0,cf0,cg0,ch0,rfl⟩:=open_conf (hval 0 23 v0 rfl rfl) h0
  obtain ⟨a1,len1,cap1,rfl⟩:=okWide_slice Tryz.underlying24 (hval 1 24 v1 rfl rfl)
  have k1:=h1
  have lt1 : ∀ x∈p1,x.block < W.heap.size:=by obtain ⟨m,hm⟩:=k1; exact DataW.trod_lt m _ _ _ hm
  obtain ⟨K1,I1,R1,A1,L1,C1,T1,w1,g1⟩ : ∃ K I R A L C T,Ievs W W.heap.size a1 len1 K I R A L C T∧len1≤cap1∧cap1≤maxLen:=by
    obtain ⟨fuel,hf⟩:=h1
    exact open_ievs hf (fits_of hsz (j:=1) rfl rfl)
  clear hA0 hval0 hsz hsz0
  refine (walk ca0 cb0 cc0 cd0 ce0 cf0 cg0 ch0 a1 len1 cap1 K1 I1 R1 A1 L1 C1 T1 W w1 g1 hti).mono fun e W' ⟨he,bel⟩=>?_
  subst he
  exact ⟨_,rfl,_,_,_,[],_,[],hW',trodAll_mk1 (shut_bool Tryz.underlying4 _),(trodAll_cons_mk (Below.trod laidOut (by kernel_rfl) (of_decide_eq_true (by kernel_rfl)) k0 bel lt0) (trodAll_cons_mk (Below.trod laidOut (by kernel_rfl) (of_decide_eq_true (by kernel_rfl)) k1 bel lt1) trodAll_mk0)),rfl,bel.frame _,fun h=>by cases h⟩
theorem q0 : (Rows.brokerInputRow.wf (OpenSpec.ofChange Rows.brokerInputSpec)) = true:=by kernel_rfl
theorem q3 : (Tryz.f5.params.all (Tryz.prog.readableRec ·)) = true:=by kernel_rfl
theorem q4 : (namedTie Tryz.prog Rows.brokerInputRow.named Rows.brokerInputSpec.vars) = true:=by kernel_rfl
theorem q5 : ((Rows.brokerInputRow.stops == [])) = true:=by kernel_rfl
theorem q7 : ((Rows.brokerInputRow.knobs == [])) = true:=by kernel_rfl
theorem q9 : ((Rows.brokerInputRow.inPlace == Tryz.prog.inPlace 5)) = true:=by kernel_rfl
theorem q10 : ((Rows.brokerInputRow.unfollowed == Tryz.prog.unfollowed 5)) = true:=by kernel_rfl
theorem q11 : ((Rows.brokerInputRow.recurses == Tryz.prog.recurses 5)) = true:=by kernel_rfl
theorem q12 : ((Rows.brokerInputRow.named == Tryz.prog.varsNamed 5)) = true:=by kernel_rfl
theorem q13 : ((Rows.brokerInputRow.maps == (Tryz.f5.params.toList ++ Rows.brokerInputSpec.plain.varTypes Tryz.prog).any (Tryz.prog.mapsRec ·))) = true:=by kernel_rfl
theorem q14 : ((Rows.brokerInputRow.ifaces == (Tryz.f5.params.toList ++ Rows.brokerInputSpec.plain.varTypes Tryz.prog).any (Tryz.prog.ifacesRec ·))) = true:=by kernel_rfl
theorem q15 : ((Rows.brokerInputRow.mapsOut == Tryz.prog.mapsAmong Tryz.f5.resultTypes.toList)) = true:=by kernel_rfl
theorem q16 : ((Rows.brokerInputRow.loops == (Tryz.f5.params.toList ++ Rows.brokerInputSpec.plain.varTypes Tryz.prog).any (Tryz.prog.loopsFrom ·))) = true:=by kernel_rfl
theorem q17 : ((Rows.brokerInputRow.wideKeys == (Tryz.f5.params.toList ++ Rows.brokerInputSpec.plain.varTypes Tryz.prog ++ Tryz.f5.resultTypes.toList).any (Tryz.prog.wideKeysFrom ·))) = true:=by kernel_rfl
theorem q18 : (Rows.brokerInputSpec.vars.all (Tryz.prog.varReadable ·)) = true:=by kernel_rfl
theorem q19 : (Tryz.f5.resultTypes.all (fun t=>Tryz.prog.readableRec t && decide (t < Tryz.prog.types.size))) = true:=by kernel_rfl
theorem q20 : ((Rows.brokerInputRow.ifacesOut == Tryz.f5.resultTypes.toList.any (Tryz.prog.ifacesRec ·))) = true:=by kernel_rfl
theorem q21 : ((Rows.brokerInputRow.loopsOut == Tryz.f5.resultTypes.toList.any (Tryz.prog.loopsFrom ·))) = true:=by kernel_rfl
theorem q22 : ((Rows.brokerInputRow.plainKeys == Tryz.prog.plainKeys)) = true:=(show Rows.brokerInputRow.plainKeys = Rows.brokerEventsRow.plainKeys from rfl) ▸ pq22
theorem q23 : (Rows.brokerInputRow.shortTexts.isNone) = true:=by kernel_rfl
theorem q26 : ((Rows.brokerInputRow.lifted == Tryz.prog.liftsFinal)) = true:=(show Rows.brokerInputRow.lifted = Rows.brokerEventsRow.lifted from rfl) ▸ pq26
theorem q27 : ((Tryz.prog.make == some Rows.brokerInputRow.make)) = true:=(show Rows.brokerInputRow.make = Rows.brokerEventsRow.make from rfl) ▸ pq27
theorem q28 : kindsAre Tryz.prog Rows.brokerInputRow Tryz.f5 = true:=by kernel_rfl
theorem q29 : ((Rows.brokerInputRow.pinned == Rows.brokerInputRow.pinnedBy)) = true:=by kernel_rfl
theorem q30 : ((Rows.brokerInputRow.veiled == (Tryz.f5.params.toList ++ Rows.brokerInputSpec.plain.varTypes Tryz.prog ++ Tryz.f5.resultTypes.toList).any (Tryz.prog.veiledRec ·))) = true:=by kernel_rfl
theorem q31 : (Rows.brokerInputRow.veiledFits Tryz.prog Tryz.f5.params.toList (Tryz.f5.params.toList ++ Rows.brokerInputSpec.plain.varTypes Tryz.prog ++ Tryz.f5.resultTypes.toList)) = true:=by kernel_rfl
theorem q_named : Tryz.prog.funcNamed Rows.brokerInputRow.func = some 5:=by kernel_rfl
theorem q_inst : Tryz.f5.isInstance Tryz.prog Rows.brokerInputRow.origin Rows.brokerInputRow.targs:=of_decide_eq_true (by kernel_rfl)
theorem q_wrap : Tryz.f5.isWrapper Tryz.prog Rows.brokerInputRow.wrapper Rows.brokerInputRow.mainSum:=by unfold Func.isWrapper; first | (rw [if_pos (by decide +kernel)]; kernel_rfl) | (rw [if_neg (by decide +kernel)]; exact ⟨rfl,rfl⟩)
set_option maxRecDepth 100000 in
theorem q_all : joinedFacts Tryz.prog 5 Tryz.f5 Rows.brokerInputSpec Rows.brokerInputRow = true:=joined_of (P:=Tryz.prog) (f:=5) (fn:=Tryz.f5) (s:=Rows.brokerInputSpec) (c:=Rows.brokerInputRow) q0 pq1 pq2 q3 q4 q5 pq6 q7 pq8 q9 q10 q11 q12 q13 q14 q15 q16 q17 q18 q19 q20 q21 q22 q23 pq24 pq25 q26 q27 q28 q29 q30 q31
theorem over : Rows.BrokerInputSaid:=
  OpenClaim.holds_of_wide 5 Tryz.f5 rfl rfl rfl rfl rfl rfl rfl ⟨rfl,rfl,rfl,rfl,rfl⟩ rfl rfl rfl rfl rfl q_named Tryz.func5 q_all q_inst q_wrap
    (fun os started H enc _=>lifted os started H enc)
theorem c_wf : Rows.brokerInputRow.wfByText (OpenSpec.ofChange Rows.brokerInputSpec) = true:=by kernel_rfl
theorem c_looks : true = Tryz.prog.looks []:=by kernel_rfl
theorem c_stand : ([23,24].all fun u=>!Tryz.prog.wantsStandIn u) = true:=by kernel_rfl
theorem c_goes : false = Rows.brokerInputRow.goesBy Tryz.prog:=by kernel_rfl
end Go.Proofs.YtjmdddhbdofppaaGreatDoor.brokerInput
namespace Go.Proofs.YtjmdddhbdofppaaGreatDoor
theorem brokerInput_holds : Rows.BrokerInputCardSaid:=
  Claim7.holds_tied_plain_at (c:=Rows.brokerInputRow) .later [] _ true _ true
    brokerInput.over (fun _ h=>by cases h) brokerInput.c_wf (fun _ h=>by cases h) brokerInput_row_tie rfl ⟨rfl,rfl⟩ main_is rfl
    (fun f fn hf hfn=>by
      obtain rfl : f = 5:=Option.some.inj (brokerInput.q_named.symm.trans hf) |>.symm
      obtain rfl : fn = Tryz.f5:=(Option.some.inj (Tryz.func5.symm.trans hfn)).symm
      exact ⟨brokerInput.c_looks,fun j t ht=>by
        rw [Tryz.params5] at ht
        have hm : t∈[23,24]:=by simpa using Array.mem_of_getElem? ht
        exact (show Tryz.prog.wantsStandIn t = false by simpa using List.all_eq_true.1 brokerInput.c_stand t hm)⟩)
    brokerInput.c_goes
#print axioms brokerInput_holds
end Go.Proofs.YtjmdddhbdofppaaGreatDoor
