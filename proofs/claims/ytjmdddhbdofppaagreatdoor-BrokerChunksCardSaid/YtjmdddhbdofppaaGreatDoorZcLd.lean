/- Two brokers side by side (without what events do). -/
import Derived.Test.YtjmdddhbdofppaaGreatDoorZc10
import Derived.Test.YtjmdddhbdofppaaGreatDoorZc41

namespace Go.Proofs.YtjmdddhbdofppaaGreatDoor
open Go.RowKit Go.Shelf Go.Maps
open Fr Bk
theorem BrIs.aside {F : Fp} {g : Nat} {rs : List (Int×Int)} {w w' w0 : World} {b : Br} {S : Nat→Prop} (h : BrIs F g rs w b) (hO : Only S w w') (hS : ∀ x,Own1 F x→¬ S x) (ht : TI w0) (hb : Below w0.heap.size w0 w) (hF : ∀ x,Own1 F x→w0.heap.size≤x) (hS0 : ∀ x,S x→w0.heap.size≤x) : BrIs F g rs w' b:=by
  obtain ⟨y,rfl,h⟩:=h
  refine ⟨y,rfl,⟨⟨h.fit.one,fun s x hx=>Nat.lt_of_lt_of_le (h.fit.lt s x hx) hO.size⟩,h.me,h.row.keep hO (hS _ ⟨1,(h.me g).2 rfl⟩),h.ring.keep hO (fun x hx=>hS x ⟨_,hx⟩),h.spot,h.tab.keep hO (fun x hx=>hS x ⟨_,hx⟩),h.inp.keep hO (fun x hx=>hS x ⟨_,hx⟩),h.map.keep hO (fun x hx=>hS x ⟨_,hx⟩),h.rsok,fun k h1 h2=>?_,?_⟩⟩
  · have:=h.cns k h1 h2
    revert this
    rcases b.cs k with _ | c
    · exact id
    · rintro ⟨gc,h3,h4⟩
      exact ⟨gc,h3,h4.keep hO fun i x _ hx=>hS x ⟨_,hx⟩⟩
  · exact ⟨w0,ht,hb.trans (hO.below hb.size fun x hx hs=>by have:=hS0 x hs; omega),fun t x hx=>hF x ⟨t,hx⟩⟩
def LB2 (w0 : World) (S : Nat→Prop) (ga gb : Nat) (w : World) (a b : Br) : Prop:=
  ∃ Fa ra Fb rb,BrIs Fa ga ra w a∧BrIs Fb gb rb w b∧TI w0∧Below w0.heap.size w0 w∧(∀ x,Own1 Fa x→w0.heap.size≤x∧¬ Own1 Fb x)∧(∀ x,Own1 Fb x→w0.heap.size≤x)∧∀ x,S x→x < w.heap.size∧¬ Own1 Fa x∧¬ Own1 Fb x
section
variable {w0 w w' : World} {S : Nat→Prop} {ga gb : Nat} {a b a2 : Br} {v : Value} {e : Ending}
theorem LB2.symm (h : LB2 w0 S ga gb w a b) : LB2 w0 S gb ga w b a:=by
  obtain ⟨Fa,ra,Fb,rb,h1,h2,h3,h4,h5,h6,h7⟩:=h
  exact ⟨Fb,rb,Fa,ra,h2,h1,h3,h4,fun x hx=>⟨h6 x hx,fun hy=>(h5 x hy).2 hx⟩,fun x hx=>(h5 x hx).1,fun x hx=>⟨(h7 x hx).1,(h7 x hx).2.2,(h7 x hx).2.1⟩⟩
theorem LB2.below0 (h : LB2 w0 S ga gb w a b) : Below w0.heap.size w0 w:=by
  obtain ⟨_,_,_,_,_,_,_,h4,_⟩:=h
  exact h4
theorem LB2.ti (h : LB2 w0 S ga gb w a b) : TI w0:=by
  obtain ⟨_,_,_,_,_,_,h3,_⟩:=h
  exact h3
theorem LB2.below (h : LB2 w0 S ga gb w a b) (hb : Below w.heap.size w w') : LB2 w0 S ga gb w' a b:=by
  obtain ⟨Fa,ra,Fb,rb,h1,h2,h3,h4,h5,h6,h7⟩:=h
  exact ⟨Fa,ra,Fb,rb,h1.quiet (only_of_below hb),h2.quiet (only_of_below hb),h3,h4.trans (hb.mono h4.size),h5,h6,fun x hx=>⟨Nat.lt_of_lt_of_le (h7 x hx).1 hb.size,(h7 x hx).2⟩⟩
theorem LB2.gives {Fa Fb F2 : Fp} {ra rb r2 : List (Int×Int)} (_h1 : BrIs Fa ga ra w a) (h2 : BrIs Fb gb rb w b) (h3 : TI w0) (h4 : Below w0.heap.size w0 w) (h5 : ∀ x,Own1 Fa x→w0.heap.size≤x∧¬ Own1 Fb x) (h6 : ∀ x,Own1 Fb x→w0.heap.size≤x) (h7 : ∀ x,S x→x < w.heap.size∧¬ Own1 Fa x∧¬ Own1 Fb x)
    (g1 : BrIs F2 ga r2 w' a2) (g2 : ∀ x,Own1 F2 x→Own1 Fa x∨w.heap.size≤x) (g3 : Only (Own1 Fa) w w') : LB2 w0 S ga gb w' a2 b∧Only (fun x=>w0.heap.size≤x∧¬ S x) w w':=by
  obtain ⟨yb,_,hyb⟩:=id h2
  refine ⟨⟨F2,r2,Fb,rb,g1,h2.aside g3 (fun x hx hs=>(h5 x hs).2 hx) h3 h4 h6 (fun x hs=>(h5 x hs).1),h3,h4.trans (g3.below h4.size fun x hx hs=>by have:=(h5 x hs).1; omega),fun x hx=>?_,h6,fun x hx=>?_⟩,g3.mono fun x _ hs=>⟨(h5 x hs).1,fun hx=>(h7 x hx).2.1 hs⟩⟩
  · rcases g2 x hx with hs | hs
    · exact h5 x hs
    · exact ⟨Nat.le_trans h4.size hs,fun hf=>by have:=hyb.lt hf; omega⟩
  · refine ⟨Nat.lt_of_lt_of_le (h7 x hx).1 g3.size,fun hf=>?_,(h7 x hx).2.2⟩
    rcases g2 x hf with hs | hs
    · exact (h7 x hx).2.1 hs
    · have:=(h7 x hx).1; omega
theorem LB2.eg {Fa Fb : Fp} {ra rb : List (Int×Int)} (h1 : BrIs Fa ga ra w a) (h2 : BrIs Fb gb rb w b) (h3 : TI w0) (h4 : Below w0.heap.size w0 w) (h5 : ∀ x,Own1 Fa x→w0.heap.size≤x∧¬ Own1 Fb x) (h6 : ∀ x,Own1 Fb x→w0.heap.size≤x) (h7 : ∀ x,S x→x < w.heap.size∧¬ Own1 Fa x∧¬ Own1 Fb x)
    (hg : EGives Fa ga w a2 v e w') : e = .returned v∧LB2 w0 S ga gb w' a2 b∧Only (fun x=>w0.heap.size≤x∧¬ S x) w w':=by
  obtain ⟨F2,r2,he,g1,g2,g3⟩:=hg
  exact ⟨he,LB2.gives h1 h2 h3 h4 h5 h6 h7 g1 g2 g3⟩
def LW2 (w0 : World) (S : Nat→Prop) (ga gb : Nat) (w : World) (a b : Br) (A : Option Addr) (n : Nat) : Prop:=
  ∃ Fa ra Fb rb,BrIs Fa ga ra w a∧BrIs Fb gb rb w b∧TI w0∧Below w0.heap.size w0 w∧(∀ x,Own1 Fa x→w0.heap.size≤x∧¬ Own1 Fb x)∧(∀ x,Own1 Fb x→w0.heap.size≤x)∧(∀ x,S x→x < w.heap.size∧¬ Own1 Fa x∧¬ Own1 Fb x)∧(0 < n→∀ p,A = some p→¬ Own1 Fa p.block)
theorem LW2.old (h : LB2 w0 S ga gb w a b) {A : Option Addr} {n : Nat} (ha : 0 < n→∀ p,A = some p→p.block < w0.heap.size) : LW2 w0 S ga gb w a b A n:=by
  obtain ⟨Fa,ra,Fb,rb,h1,h2,h3,h4,h5,h6,h7⟩:=h
  exact ⟨Fa,ra,Fb,rb,h1,h2,h3,h4,h5,h6,h7,fun hn p hp hf=>by have:=(h5 _ hf).1; have:=ha hn p hp; omega⟩
theorem LW2.made (h : LB2 w0 S ga gb w a b) (hb : Below w.heap.size w w') {A : Option Addr} {n : Nat} (ha : ∀ p,A = some p→w.heap.size≤p.block) : LW2 w0 S ga gb w' a b A n:=by
  obtain ⟨Fa,ra,Fb,rb,h1,h2,h3,h4,h5,h6,h7⟩:=h
  obtain ⟨ya,_,hya⟩:=id h1
  exact ⟨Fa,ra,Fb,rb,h1.quiet (only_of_below hb),h2.quiet (only_of_below hb),h3,h4.trans (hb.mono h4.size),h5,h6,fun x hx=>⟨Nat.lt_of_lt_of_le (h7 x hx).1 hb.size,(h7 x hx).2⟩,fun _ p hp hf=>by have:=hya.lt hf; have:=ha p hp; omega⟩
theorem LW2.lb {A : Option Addr} {n : Nat} (h : LW2 w0 S ga gb w a b A n) : LB2 w0 S ga gb w a b:=by
  obtain ⟨Fa,ra,Fb,rb,h1,h2,h3,h4,h5,h6,h7,_⟩:=h
  exact ⟨Fa,ra,Fb,rb,h1,h2,h3,h4,h5,h6,h7⟩
theorem LB2.none (h : LB2 w0 S ga gb w a b) {T : Nat→Prop} (hT : ∀ x,T x→S x) : LB2 w0 T ga gb w a b:=by
  obtain ⟨Fa,ra,Fb,rb,h1,h2,h3,h4,h5,h6,h7⟩:=h
  exact ⟨Fa,ra,Fb,rb,h1,h2,h3,h4,h5,h6,fun x hx=>h7 x (hT x hx)⟩
theorem lb2_new {cf : Cf} (ho : CfOk cf) (hx : LBx w0.heap.size ga w a) (ht : TI w0) (hb : Below w0.heap.size w0 w) : Calls Tryz.prog 21 #[.agg (cfRow cf)] w fun e w'=>∃ gb,e = .returned (.pointer (some (at0 gb)))∧LB2 w0 (fun _=>False) ga gb w' a (bnew cf)∧Below w.heap.size w w':=by
  obtain ⟨F,rs,h1,h2,h3⟩:=hx
  obtain ⟨y,_,hy⟩:=id h1
  refine (bnew_any ho w (ht.below hb)).mono ?_
  rintro e w' ⟨F2,g2,rfl,g1,g3,g4⟩
  have hb2 : Below w.heap.size w w':=g4.below (Nat.le_refl _) fun _ _ h=>h
  exact ⟨g2,rfl,⟨F,rs,F2,[],h1.quiet g4,g1,ht,hb.trans (hb2.mono hb.size),fun x hx=>⟨h2 x hx,fun hf=>by have:=hy.lt hx; have:=g3 x hf; omega⟩,fun x hx=>Nat.le_trans hb.size (g3 x hx),fun _ h=>h.elim⟩,hb2⟩
theorem lb2_connect (h : LB2 w0 S ga gb w a b) (hk : BOk a) (id : Int) (hid : wf64 id) : Calls Tryz.prog 43 #[.pointer (some (at0 ga)),.int .i64 id] w fun e w'=>e = .returned (.int .i64 (connectE a id : Nat))∧LB2 w0 S ga gb w' (connectB a id) b∧Only (fun x=>w0.heap.size≤x∧¬ S x) w w':=by
  obtain ⟨Fa,ra,Fb,rb,h1,h2,h3,h4,h5,h6,h7⟩:=h
  exact (bconnect_any h1 hk id hid).mono fun e w' hg=>LB2.eg h1 h2 h3 h4 h5 h6 h7 hg
theorem lb2_bytes {i T m : Nat} {A : Option Addr} {n : Nat} (h : LW2 w0 S ga gb w a b A n) (he : EvOk a i T m) (hT : T≤100000000) (id : Int) (hid : wf64 id) {B : Nat} (c2 : Nat) {t : Bs} (ht : Bytes w B A n t) (hn : n≤1000000) :
    Calls Tryz.prog 34 #[.pointer (some (at0 ga)),.int .i64 id,.slice A n c2] w fun e w'=>e = .returned (.int .i64 (bytesE a id : Nat))∧LB2 w0 S ga gb w' (bytesB a id t) b∧Only (fun x=>w0.heap.size≤x∧¬ S x) w w':=by
  obtain ⟨Fa,ra,Fb,rb,h1,h2,h3,h4,h5,h6,h7,h8⟩:=h
  exact (bbytes_any h1 he hT id hid c2 ht hn h8).mono fun e w' hg=>LB2.eg h1 h2 h3 h4 h5 h6 h7 hg
theorem lb2_output {i T mm : Nat} {A : Option Addr} {n : Nat} (h : LW2 w0 S ga gb w a b A n) (he : EvOk a i T mm) {B : Nat} {c2 : Nat} {t : Bs} (ht : Bytes w B A n t) (hB : B≤w.heap.size) (hcap : n≤c2) (hm : mm + n≤1000000) :
    Calls Tryz.prog 45 #[.pointer (some (at0 ga)),.slice A n c2] w fun e w'=>e = .returned (.int .i64 (outputE a : Nat))∧LB2 w0 S ga gb w' (outputB a t) b∧Only (fun x=>w0.heap.size≤x∧¬ S x) w w':=by
  obtain ⟨Fa,ra,Fb,rb,h1,h2,h3,h4,h5,h6,h7,h8⟩:=h
  exact (boutput_any h1 he.ok he.sp A n c2 B t ht hB hcap h8 (by have:=he.len; omega)).mono fun e w' hg=>LB2.eg h1 h2 h3 h4 h5 h6 h7 hg
theorem lb2_write (h : LB2 w0 S ga gb w a b) (hk : BOk a) (id n : Int) (hid : wf64 id) : Calls Tryz.prog 32 #[.pointer (some (at0 ga)),.int .i64 id,.int .i64 n] w fun e w' =>
    ∃ A m c,e = .returned (.tuple #[.slice A m c,.int .i64 (writeE a id : Nat)])∧LB2 w0 (fun x=>S x∨∃ p,A = some p∧p.block = x) ga gb w' (writeB a id n) b∧Only (fun x=>w0.heap.size≤x∧¬ S x) w w'∧Bytes w' w'.heap.size A m (writeT a id n)∧m≤c:=by
  obtain ⟨Fa,ra,Fb,rb,h1,h2,h3,h4,h5,h6,h7⟩:=h
  obtain ⟨yb,_,hyb⟩:=_root_.id h2
  refine (bwriteo_any h1 hk id n hid).mono ?_
  rintro e w' ⟨A,m,c,F2,r2,rfl,g1,g2,g3,g4,g5,g6⟩
  obtain ⟨q1,q2⟩:=LB2.gives h1 h2 h3 h4 h5 h6 h7 g1 g2 g3
  obtain ⟨k1,k2⟩:=LB2.gives (S:=fun _=>False) h1 h2 h3 h4 h5 h6 (fun _ h=>h.elim) g1 g2 g3
  refine ⟨A,m,c,rfl,⟨F2,r2,Fb,rb,g1,h2.aside g3 (fun x hx hs=>(h5 x hs).2 hx) h3 h4 h6 (fun x hs=>(h5 x hs).1),h3,q1.below0,fun x hx=>?_,h6,fun x hx=>?_⟩,q2,g4,g5⟩
  · rcases g2 x hx with hs | hs
    · exact h5 x hs
    · exact ⟨Nat.le_trans h4.size hs,fun hf=>by have:=hyb.lt hf; omega⟩
  · rcases hx with hx | ⟨p,hp,rfl⟩
    · refine ⟨Nat.lt_of_lt_of_le (h7 x hx).1 g3.size,fun hf=>?_,(h7 x hx).2.2⟩
      rcases g2 x hf with hs | hs
      · exact (h7 x hx).2.1 hs
      · have:=(h7 x hx).1; omega
    · have:=g6 p hp
      exact ⟨this.2.1,this.2.2,fun hf=>by have:=hyb.lt hf; omega⟩
theorem lb2_drain (h : LB2 w0 S ga gb w a b) (n : Int) : Calls Tryz.prog 38 #[.pointer (some (at0 ga)),.int .i64 n] w fun e w' =>
    ∃ A m c,e = .returned (.slice A m c)∧LB2 w0 S ga gb w' (drainB a n) b∧Only (fun x=>w0.heap.size≤x∧¬ S x) w w'∧Bytes w' w'.heap.size A m (drainT a n):=by
  obtain ⟨Fa,ra,Fb,rb,h1,h2,h3,h4,h5,h6,h7⟩:=h
  refine (bdrain_any h1 n).mono ?_
  rintro e w' ⟨A,m,c,F2,rfl,g1,g2,g3,g4⟩
  obtain ⟨q1,q2⟩:=LB2.gives h1 h2 h3 h4 h5 h6 h7 g1 g2 g3
  exact ⟨A,m,c,rfl,q1,q2,g4⟩
theorem lb2_users (h : LB2 w0 S ga gb w a b) (hk : BOk a) : Calls Tryz.prog 39 #[.pointer (some (at0 ga))] w fun e w' =>
    ∃ A n c,e = .returned (.slice A n c)∧LB2 w0 S ga gb w' a b∧Only (fun x=>w0.heap.size≤x∧¬ S x) w w'∧n = a.fl.roles.length:=by
  obtain ⟨Fa,ra,Fb,rb,h1,h2,h3,h4,h5,h6,h7⟩:=h
  obtain ⟨y,hy,hb⟩:=_root_.id h1
  refine (busersw_any hb hk.fok).mono ?_
  rintro e w' ⟨F2,A,n,c,rfl,g1,g2,g3,g4,_,g5⟩
  obtain ⟨q1,q2⟩:=LB2.gives h1 h2 h3 h4 h5 h6 h7 g1 g2 g3
  refine ⟨A,n,c,rfl,q1,q2,?_⟩
  have:=g4.1
  unfold ints at this
  rw [List.length_map,List.length_map] at this
  omega
theorem LB2.x (h : LB2 w0 S ga gb w a b) : LBx w0.heap.size ga w a:=by
  obtain ⟨Fa,ra,Fb,rb,h1,h2,h3,h4,h5,h6,h7⟩:=h
  exact ⟨Fa,ra,h1,fun x hx=>(h5 x hx).1,h4.size⟩
end
end Go.Proofs.YtjmdddhbdofppaaGreatDoor
