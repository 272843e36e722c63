/- POutv PFbytes PGetw -/
import Derived.Deep.RegionHeld3
import Derived.Test.YtdpagmcickkbmaaGreatDoorZd10
namespace Go.Proofs.YtdpagmcickkbmaaGreatDoor
set_option maxRecDepth 100000
open Go.Lib renaming hid → lj
section
open Go.RowKit
theorem heap_lt {w:World} {g:Nat} {o:Obj} (h:w.heap[g]?=some o):g<w.heap.size:=by
 rcases Nat.lt_or_ge g w.heap.size with h' | h'
 ·exact h'
 ·rw [Array.getElem?_eq_none h'] at h; cases h
structure Que (z:Zo) (R:List Value) (base:Nat) (w:World) (g size:Nat) (a:Option Addr) (n c:Nat) (l:Bs):Prop where
 bx:Bo z g w (.int .i64 size :: .slice a n c :: R).toArray
 low:base≤g
 small:size≤65536
 few:n≤size
 mid:Mid base w a n c l
 apart:¬ In a g
section
variable {z:Zo} {R:List Value} {base g size n c m:Nat} {w w':World} {a:Option Addr} {l:Bs}
theorem Que.c0 (h:Que z R base w g size a n c l):w.cell? ⟨g,z.o,none⟩=some (.int .i64 size):=h.bx.cell0 _ rfl
theorem Que.c1 (h:Que z R base w g size a n c l):w.cell? ⟨g,z.o+1,none⟩=some (.slice a n c):=h.bx.cell 1 _ rfl
theorem Que.free (h:Que z R base w g size a n c l) (i:Nat):w.frozen? ⟨g,z.o+i,none⟩=false:=h.bx.free i
theorem Que.only {S:Nat→Prop} (h:Que z R base w g size a n c l) (hO:Only S w w') (h1:¬ S g) (h2:∀ p,a=some p→¬ S p.block):Que z R base w' g size a n c l:=
 ⟨h.bx.keep hO h1,h.low,h.small,h.few,h.mid.only hO h2,h.apart⟩
theorem Que.below (h:Que z R base w g size a n c l) (hb:Below w.heap.size w w'):Que z R base w' g size a n c l:=h.only (only_of_below hb) (fun h=>h) fun _ _ h=>h
theorem Que.drewN (h:Que z R base w g size a n c l) (k:Nat):Que z R base (w.drewN k) g size a n c l:=h.below (below_drewN (Below.refl _ _) k)
theorem Que.set (h:Que z R base w g size a n c l) {A:Option Addr} {m d:Nat} {k:Bs} {w2:World} (hh:w2.heap[g]?=w.heap[g]?) (hm:Mid base w2 A m d k) (hA:¬ In A g) (hf:m≤size) :
  Que z R base (w2.setCell ⟨g,z.o+1,none⟩ (.slice A m d)) g size A m d k:=by
 have hb:Bo z g w2 (.int .i64 size :: .slice a n c :: R).toArray:=by
  obtain ⟨t,ht⟩:=h.bx.bx.head;exact ⟨⟨t,hh.trans ht⟩⟩
 have hb2:=hb.set 1 (.slice A m d) (by simp);rw [show (Value.int .i64 size :: .slice a n c :: R).toArray.setIfInBounds 1 (.slice A m d)=(Value.int .i64 size :: .slice A m d :: R).toArray by simp] at hb2;refine ⟨hb2,h.low,h.small,hf,hm.only ((Only.refl (fun k=>k=g) w2).setCell rfl _) (fun p hp e=>hA ⟨p,hp,e⟩),hA⟩
end
def sizeOf' (s:Int):Nat:=(min (max s 0) 65536).toNat
theorem outq_new_at (s l:Int) (r:Nat) (hl:l=r) (hr:r≤65536) (hc:(s<0∧l=0)∨(65536<s∧l=65536)∨(0≤s∧s≤65536∧l=s)) (w:World) :
  Calls Tryz.prog 41 #[.int .i64 s] w fun e w'=>e = .returned (.pointer (some ⟨w.heap.size,0,none⟩))∧Que z0 [] w.heap.size w' w.heap.size r none 0 0 []∧Below w.heap.size w w':=by
 have H:∀ W:World,W=w.alloc (.cells #[.int .i64 r,.slice none 0 0] 75)→Que z0 [] w.heap.size W w.heap.size r none 0 0 []∧Below w.heap.size w W:=by
  rintro W rfl;exact ⟨⟨Bo.new _ _ rfl _ _,Nat.le_refl _,hr,Nat.zero_le _,Mid.nil _ _,fun ⟨_,h,_⟩=>by cases h⟩,(Below.refl _ _).alloc (Nat.le_refl _) _⟩
 rcases hc with ⟨h1,rfl⟩ | ⟨h1,rfl⟩ | ⟨h1,h2,rfl⟩
 all_goals
  have HM:=lj hl;clear hl
  go_enter Tryz.func41,Tryz.ntmps41
  go_wp2;go_ret;exact ⟨rfl,H _ (by rw [← HM.out])⟩
theorem outq_new (s:Int) (w:World) :
  Calls Tryz.prog 41 #[.int .i64 s] w fun e w'=>e = .returned (.pointer (some ⟨w.heap.size,0,none⟩))∧Que z0 [] w.heap.size w' w.heap.size (sizeOf' s) none 0 0 []∧Below w.heap.size w w':=by
 unfold sizeOf';exact outq_new_at s (min (max s 0) 65536) _ (by omega) (by omega) (by omega) w
section
variable {z:Zo} {R:List Value} {base g size n c:Nat} {a:Option Addr} {l:Bs}
theorem outq_len (w:World) (h:Que z R base w g size a n c l):Calls Tryz.prog 57 #[.pointer (some ⟨g,z.o,none⟩)] w fun e w'=>e = .returned (.int .i64 n)∧w=w':=by
 have hk:=h.c1
 go_enter Tryz.func57,Tryz.ntmps57
 go_wp2;go_ret;exact ⟨rfl,rfl⟩
theorem outq_room (w:World) (h:Que z R base w g size a n c l):Calls Tryz.prog 84 #[.pointer (some ⟨g,z.o,none⟩)] w fun e w'=>e = .returned (.int .i64 ((size:Int) - n))∧∃ m,w'=w.drewN m:=by
 have hk:=h.c1;have hs:=h.c0;have h1:=h.small;have h2:=h.few;clear h
 go_enter Tryz.func84,Tryz.ntmps84
 go_wp2
 go_quiet (fail)
 go_wp2;go_ret;exact ⟨rfl,nq,rfl⟩
theorem outq_put_no (w:World) (h:Que z R base w g size a n c l) (A:Option Addr) (m c2:Nat) (hm:size<n+m) :
  Calls Tryz.prog 85 #[.pointer (some ⟨g,z.o,none⟩),.slice A m c2] w fun e w'=>e = .returned (.bool false)∧∃ k,w'=w.drewN k:=by
 have hd:decide ((size:Int) - (n:Int)<(m:Int))=true:=by simp; omega
 have h1:=h.small;have h2:=h.few;have HQ:=lj h;clear h
 go_enter Tryz.func85,Tryz.ntmps85
 go_wp2_with fail
 refine (outq_room w HQ.out).mono ?_;rintro e w' ⟨rfl,k,rfl⟩;go_wp2;go_ret;exact ⟨rfl,k,rfl⟩
theorem outq_put_yes (w:World) (h:Que z R base w g size a n c l) (B:Nat) (A:Option Addr) (m c2:Nat) (t:Bs) (ht:Bytes w B A m t) (hbase:base≤w.heap.size) (hm:n+m≤size) :
    Calls Tryz.prog 85 #[.pointer (some ⟨g,z.o,none⟩),.slice A m c2] w fun e w'=>e = .returned (.bool true)∧∃ a2 c3,Que z R base w' g size a2 (n+m) c3 (l ++ t)∧Only (fun b=>b=g∨In a b) w w'∧∀ b,In a2 b→In a b∨w.heap.size≤b:=by
  have hd:decide ((size:Int) - (n:Int)<(m:Int))=false:=by simp; omega
  have h1:=h.small;have h2:=h.few;have HQ:=lj h;have HT:=lj ht;clear h ht
  go_enter Tryz.func85,Tryz.ntmps85
  go_wp2_with fail
  refine (outq_room w HQ.out).mono ?_;rintro e w' ⟨rfl,k,rfl⟩;have HQ2:=lj (HQ.out.drewN k);have HT2:=lj (HT.out.drewN k);have HB:=lj ((Only.refl (fun b=>b=g∨In a b) w).drewN k);have hB2:base≤(w.drewN k).heap.size:=hbase;clear HQ HT;generalize w.drewN k=W at *;have hk:=HQ2.out.c1;have hf:=HQ2.out.free 1
  go_wp2_with (first
    | (at_builtin
       (with_reducible refine wpList_mid rfl (.tmp 14) (.tmp 15) rfl base rfl HQ2.out.mid rfl HT2.out (by omega) hB2 ?_)
       intro A2 c3 w2 hm2 ho2 hp2;have HM:=lj hm2;have HO:=lj ho2;have HP:=lj hp2;have hf2:w2.frozen? ⟨g,z.o+1,none⟩=false:=(ho2.frozen (p:=⟨g,z.o+1,none⟩) (HQ2.out.bx.room) HQ2.out.apart).trans hf;have hk2:w2.cell? ⟨g,z.o+1,none⟩=some (.slice a n c):=(ho2.cell (p:=⟨g,z.o+1,none⟩) (HQ2.out.bx.room) HQ2.out.apart).trans hk
       clear hm2 ho2 hp2 hf hk))
  go_ret;have hsz:=HO.out.size;have hg:=HQ2.out.bx.room
  have hA:¬ In A2 g:=by
    rintro ⟨p,hp,hpg⟩
    rcases HP.out p hp with h | h
    · rw [hpg] at h
      exact HQ2.out.apart h
    · omega
  exact ⟨rfl,A2,c3,HQ2.out.set (HO.out.block g hg HQ2.out.apart) HM.out hA hm,(HB.out.trans (HO.out.mono fun _ _ h=>.inr h)).setCell (.inl rfl) _,fun b hb=>by
    obtain ⟨p,hp,rfl⟩:=hb
    exact (HP.out p hp).imp (fun h=>h) (fun h=>Nat.le_trans HB.out.size h)⟩
theorem byte_sz:(Tryz.prog.info? 5).map (·.size)=some 1:=by kernel_rfl
theorem fill_own {w':World} {g k:Nat} {l:Bs} (hk:l.length=k) (hk2:k≤1000000000) (hg:w'.heap[g]?=some (.cells (splice ((List.replicate k 0#8).map by8) 0 (l.map by8)).toArray 5 (0,0))) :
  Own g w' (some ⟨g,0,none⟩) k k l:=by
 refine ⟨⟨by simp [hk],.inr ⟨g,k,_,rfl,Nat.le_refl _,hg,Nat.le_refl _,by unfold maxLen; omega,?_,?_⟩⟩,Nat.le_refl _⟩
 ·simp [splice,hk]
 ·simp only [splice,List.take_zero,List.nil_append,Nat.mul_one,Nat.zero_add]
  rw [List.drop_eq_nil_of_le (by simp [hk]),List.append_nil];exact List.take_of_length_le (by simp [hk])
theorem only_of_below' {B:Nat} {w w':World} (h:Below B w w'):Only (fun k=>B≤k) w w':=⟨h.os,h.tape,h.output,h.size,fun k _ hn=>h.block k (by omega)⟩
theorem Own.only {base n c:Nat} {S:Nat→Prop} {w w':World} {a:Option Addr} {l:Bs} (h:Own base w a n c l) (hO:Only S w w') (hS:∀ b,base≤b→¬ S b):Own base w' a n c l:=by
 refine ⟨⟨h.row.1,?_⟩,h.cap⟩
 rcases h.row.2 with h0 | ⟨g,cap,cur,e,hb,hg,hrest⟩
 ·exact .inl h0
 ·exact .inr ⟨g,cap,cur,e,hb,(hO.block g (heap_lt hg) (hS g hb)).trans hg,hrest⟩
theorem take_left {R:List Value} {base G g size n c k:Nat} {a x:Option Addr} {l:Bs} {w w1 w2:World} (hG:w.heap.size=G) (hlt:∀ p,a=some p→p.block<G) (h:Que z R base w1 g size a n c l) (hg:g<G) (h1:Below w.heap.size w w1) (h2:Below G w1 w2)
  (ho:Own G w2 (some ⟨G,0,none⟩) k k (l.take k)) (hx:cutA a c k=x) (hk:k≤n) :
  Own G (w2.setCell ⟨g,z.o+1,none⟩ (.slice x (n - k) (c - k))) (some ⟨G,0,none⟩) k k (l.take k) ∧
   Que z R base (w2.setCell ⟨g,z.o+1,none⟩ (.slice x (n - k) (c - k))) g size (cutA a c k) (n - k) (c - k) (l.drop k)∧Only (fun b=>b=g) w (w2.setCell ⟨g,z.o+1,none⟩ (.slice x (n - k) (c - k))):=by
 subst hx hG;have hO:=only_of_below' h2;have hf:=h.few;have hq:Que z R base w2 g size a n c l:=h.only hO (by omega) (fun p hp=>by have:=hlt p hp; omega);refine ⟨ho.only ((Only.refl (fun k=>k=g) w2).setCell rfl _) (fun b hb=>by omega),hq.set rfl (hq.mid.cut hk) ?_ (by omega),Only.setCell (S:=fun b=>b=g) ((only_of_below (Below.trans h1 h2)).mono fun _ _ h=>h.elim) rfl _⟩;rintro ⟨p,hp,hpg⟩;obtain ⟨q,hq1,hq2⟩:=cutA_block hp;exact hq.apart ⟨q,hq1,by omega⟩
theorem step_fill {ops:Array Oper} {o:Oper} {act:Act} {w:World} {K:Act→World→Prop} {Q:Exit→Act→World→Prop} {E:Prop} (hgd:o.guard=none) (d s:Operand)
  (ho:o.op = .call { callee:=.builtin .copy,args:=#[d,s],argTypes:=#[41,41] })
  (G k:Nat) (hd:act.eval d = .slice (some ⟨G,0,none⟩) k k) (hG:w.heap[G]?=some (.cells (zb k) 5 (0,0))) (hk2:k≤1000000000)
  (A:Option Addr) (n c:Nat) (hs:act.eval s = .slice A n c) (hk:k≤n) (B:Nat) (l:Bs) (hl:Bytes w B A n l)
  (h:∀ w',Own G w' (some ⟨G,0,none⟩) k k (l.take k)→Below G w w'→K (act.put o.dst (.int .i64 k)) w') :
  if Region.wanted o (yielded ops act.tmps)=true then Oper.wp Tryz.prog o act w K Q else E:=by
 have hlen:(l.take k).length=k:=by rw [List.length_take,hl.1]; omega
 have hl2:=hl.take hk;generalize l.take k=m at *
 have hcs:(m.map by8).length=k:=by rw [List.length_map]; exact hlen
 refine step_copy_splice hgd d s 41 41 ho 5 Tryz.underlying41 byte_sz (some ⟨G,0,none⟩) A k k n c hd hs G 0 ((List.replicate k 0#8).map by8) 5 hG (m.map by8) (by rw [hcs]; exact (Nat.min_eq_right hk).symm) ?_ (by rw [hcs]; simp)
  (by intro u hu; rw [List.mem_map] at hu; obtain ⟨c,_,rfl⟩:=hu; rfl) G w (Below.refl _ _) (Nat.le_refl _) ?_
 ·intro hpos
  refine ⟨rfl,?_⟩;obtain ⟨b,off,rfl,_,hc⟩:=hl2.2 (by omega);refine ⟨_,rfl,fun j v hj=>?_⟩
  have hj2:j<m.length:=by
   rcases Nat.lt_or_ge j m.length with h | h
   ·exact h
   ·rw [List.getElem?_eq_none (by simpa using h)] at hj; cases hj
  rw [add_none,hc j (by omega),← hj];simp [List.getElem?_eq_getElem hj2,by8]
 ·intro w' hw hb
  rw [show (goInt ((m.map by8).length:Int))=Value.int .i64 (k:Int) by rw [hcs]; rfl];exact h w' (fill_own hlen hk2 hw) hb
theorem outq_take_at (w:World) (h:Que z R base w g size a n c l) (t L:Int) (k:Nat) (hL:L=k) (hk:k≤n) (hc:(t<0∧L=0)∨(0≤t∧t≤n∧L=t)∨((n:Int)<t∧L=n)) :
  Calls Tryz.prog 32 #[.pointer (some ⟨g,z.o,none⟩),.int .i64 t] w fun e w'=>e = .returned (.slice (some ⟨w.heap.size,0,none⟩) k k)∧Own w.heap.size w' (some ⟨w.heap.size,0,none⟩) k k (l.take k) ∧
   Que z R base w' g size (cutA a c k) (n - k) (c - k) (l.drop k)∧Only (fun b=>b=g) w w':=by
 have h1:=h.small;have h2:=h.few;have hk1:=h.c1;have HQ:=lj h;have hcap:=h.mid.cap
 have hmk:=fun W=>make_full W L k hL (by omega)
 have HL:=lj hL;have hg:=h.bx.room;clear h hL
 have hlt:∀ p,a=some p→p.block<w.heap.size:=fun p hp=>(HQ.out.mid.lt hp).2
 rcases hc with ⟨h3,rfl⟩ | ⟨h3,h4,rfl⟩ | ⟨h3,rfl⟩
 all_goals
  go_enter Tryz.func32,Tryz.ntmps32
  go_wp2;have hb0:Below w.heap.size w (w.alloc (.cells (zb k) 5)):=(Below.refl _ _).alloc (Nat.le_refl _) _;have HQ1:=lj (HQ.out.below hb0);have HG:=lj (heap_alloc_new w (.cells (zb k) 5));have HB0:=lj hb0;clear hb0 HQ hmk;generalize w.alloc (.cells (zb k) 5)=W at *;generalize hwG:w.heap.size=G at *;have HwG:=lj hwG;clear hwG hk1;have hk1:W.cell? ⟨g,z.o+1,none⟩=some (.slice a n c):=HQ1.out.c1;have hf1:W.frozen? ⟨g,z.o+1,none⟩=false:=HQ1.out.free 1;have hmid:Bytes W.drew W.heap.size a n l:=HQ1.out.mid.bytes;have hG:W.drew.heap[G]?=some (.cells (zb k) 5 (0,0)):=HG.out
  have hk9:k≤1000000000:=by omega
  have HH:=lj (show Que z R base W.drew g size a n c l from HQ1.out.below (below_drew (Below.refl _ _)));have HB1:=lj (below_drew HB0.out);clear HQ1 HB0
  go_region_law (first | ((with_reducible refine step_fill (o:=⟨some 25,_,_,_,_,_⟩) rfl (.tmp 20) (.tmp 24) rfl G k rfl hG hk9 a n c rfl hk _ l hmid ?_); intro w2 hG2 hb2; have hf1:=(hb2.frozen (p:=⟨g,z.o+1,none⟩) hg).trans hf1; have hk1:=(hb2.cell (p:=⟨g,z.o+1,none⟩) hg).trans hk1) | fail)
  all_goals
   generalize hx:(if c=k then a else Option.map (fun x=>x.add k) a)=x at *;have HX:Hid (cutA a c k=x):=lj hx;have HO:=lj hG2;have HB2:=lj hb2;clear hx hG2 hb2 hmid hG;go_wp2;go_ret;have hwG:=HwG.out;subst hwG;exact ⟨rfl,take_left rfl hlt HH.out hg HB1.out HB2.out HO.out HX.out hk⟩
def takes (t:Int) (n:Nat):Nat:=(min (max t 0) n).toNat
theorem outq_take (w:World) (h:Que z R base w g size a n c l) (t:Int) :
  Calls Tryz.prog 32 #[.pointer (some ⟨g,z.o,none⟩),.int .i64 t] w fun e w'=>e = .returned (.slice (some ⟨w.heap.size,0,none⟩) (takes t n) (takes t n))∧Own w.heap.size w' (some ⟨w.heap.size,0,none⟩) (takes t n) (takes t n) (l.take (takes t n)) ∧
   (∃ a2 c2,Que z R base w' g size a2 (n - takes t n) c2 (l.drop (takes t n))∧∀ b,In a2 b→In a b)∧Only (fun b=>b=g) w w':=by
 unfold takes
 exact (outq_take_at w h t (min (max t 0) n) _ (by omega) (by omega) (by omega)).mono fun e w' ⟨h1,h2,h3,h4⟩=>⟨h1,h2,⟨_,_,h3,fun b hb=>by
  obtain ⟨p,hp,rfl⟩:=hb;obtain ⟨q,hq1,hq2⟩:=cutA_block hp
  exact ⟨q,hq1,hq2⟩⟩,h4⟩
end
end
section
open Go.RowKit
open Fr
open Crc (more)
theorem put_eq (a:Option Addr) (n cap B:Nat) (l:Bs) (k:BitVec 8) (a2:Option Addr) (m c2:Nat) (body L:Bs) (N:Nat) (hN:n+m+5=N) (hL:l ++ fr k body=L) (w:World) (hl:Bytes w B a n l) (hl2:Bytes w B a2 m body) (hB:B≤w.heap.size) (hn:n≤1000000) (hm:m≤2048) :
  Calls Tryz.prog 102 #[.slice a n cap,.agg #[.int .u8 k.toNat,.slice a2 m c2]] w fun e w'=>∃ A c,e = .returned (.slice A N c)∧Own w.heap.size w' A N c L∧Below w.heap.size w w':=by
 subst hN hL;exact put_yes a n cap B l k a2 m c2 body w hl hl2 hB hn hm
end
section
open Go.RowKit
open Fr
open Crc (more)
theorem or_num (x y:BitVec 8):bits .or .u16 ((x.toNat:Int) * 256) (y.toNat:Int)=((256 * x.toNat+y.toNat:Nat):Int):=by
 have hx:=x.isLt;have hy:=y.isLt;have h:=u16_or_nat (256 * x.toNat) y.toNat (by omega) (by omega);rw [show (((256 * x.toNat:Nat):Int))=(x.toNat:Int) * 256 by omega] at h;rw [h,← Nat.two_pow_add_eq_or_of_lt (i:=8) (by omega)]
theorem number_any (a:Option Addr) (n cap B:Nat) (l:Bs) (w:World) (hl:Bytes w B a n l) (hn:2≤n) :
  Calls Tryz.prog 58 #[.slice a n cap] w fun e w'=>e = .returned (.int .u16 (num2 l))∧∃ m,w'=w.drewN m:=by
 obtain ⟨b,off,rfl,hb,hc⟩:=hl.2 (by omega);have hc0:=hc 0 (by omega);have hc1:=hc 1 (by omega);rw [Nat.add_zero] at hc0
 have hi0:(0:Int)<(n:Int):=by omega
 have hi1:(1:Int)<(n:Int):=by omega
 have H:Hid (num2 l=256 * (l[0]?.getD 0#8).toNat+(l[1]?.getD 0#8).toNat):=lj rfl;have HO:=lj or_num;generalize num2 l=v at *;generalize l[0]?.getD 0#8=x at *;generalize l[1]?.getD 0#8=y at *;have hx:=x.isLt;have hy:=y.isLt;clear hl hc hb hn
 go_enter Tryz.func58,Tryz.ntmps58
 go_wp2
 go_quiet (fail)
 go_wp2;go_ret;exact ⟨ret_int (by rw [HO.out,H.out]),nq,rfl⟩
def GivesF (w:World) (g:Got) (e:Ending) (w':World):Prop:=
 ∃ A c,e = .returned (.tuple #[.agg #[.int .u8 g.k.toNat,.slice A g.body.length c],.int .i64 g.n,.int .i64 g.err])∧Bytes w' w'.heap.size A g.body.length g.body∧Below w.heap.size w w'∧(0<g.body.length→∀ p,A=some p→w.heap.size≤p.block)∧g.body.length≤c
theorem gives_no {w w':World} {l:Bs} {er:Nat} (h:err l=er) (he:er≠0) (hb:Below w.heap.size w w') :
  GivesF w (get l) (.returned (.tuple #[.agg #[.int .u8 0,.slice none 0 0],.int .i64 0,.int .i64 er])) w':=by
 rw [get_no h he];exact ⟨none,0,rfl,Bytes.nil _,hb,(fun _ p hp=>by cases hp),Nat.le_refl 0⟩
theorem get_short (a:Option Addr) (n cap:Nat) (l:Bs) (w:World) (hl:l.length=n) (hn:n<2) :
  Calls Tryz.prog 34 #[.slice a n cap] w (GivesF w (get l)):=by
 have H:=lj (err_short (l:=l) (by omega));clear hl
 go_enter Tryz.func34,Tryz.ntmps34
 go_wp2;exact bodyPost_ret (v:=.tuple #[.agg #[.int .u8 0,.slice none 0 0],.int .i64 0,.int .i64 (5:Nat)]) (by simp [results,Tryz.results34,go_sem]) rfl (gives_no H.out (by omega) ((Below.refl _ _).alloc (Nat.le_refl _) _))
theorem get_long (a:Option Addr) (n cap B:Nat) (l:Bs) (w:World) (hl:Bytes w B a n l) (hB:B≤w.heap.size) (hn:2≤n) (h:num2 l=0∨2049<num2 l) :
  Calls Tryz.prog 34 #[.slice a n cap] w (GivesF w (get l)):=by
 have H:=lj (err_long (l:=l) (by rw [hl.1]; omega) h);have HL:=lj hl;have hlt:=num2_lt l;generalize hv:num2 l=v at *;have HV:=lj hv;clear hl hv
 go_enter Tryz.func34,Tryz.ntmps34
 go_wp2_with fail
 refine (number_any a n cap B l _ (HL.out.below ((Below.refl _ _).alloc hB _)) hn).mono ?_;rintro e w1 ⟨rfl,m1,rfl⟩;rw [HV.out];have hb1:=below_drewN ((Below.refl w.heap.size w).alloc (Nat.le_refl _) (.cells #[Value.int IntKind.u8 0,Value.slice none 0 0] 96)) m1
 rcases h with rfl | h
 ·go_wp2
  exact bodyPost_ret (v:=.tuple #[.agg #[.int .u8 0,.slice none 0 0],.int .i64 0,.int .i64 (6:Nat)]) (by simp [results,Tryz.results34,go_sem]) rfl (gives_no H.out (by omega) ((hb1.setCell (by simp) _).setCell (by simp) _))
 ·go_wp2
  exact bodyPost_ret (v:=.tuple #[.agg #[.int .u8 0,.slice none 0 0],.int .i64 0,.int .i64 (6:Nat)]) (by simp [results,Tryz.results34,go_sem]) rfl (gives_no H.out (by omega) ((hb1.setCell (by simp) _).setCell (by simp) _))
theorem get_cut (a:Option Addr) (n cap B:Nat) (l:Bs) (w:World) (hl:Bytes w B a n l) (hB:B≤w.heap.size) (hn:2≤n) (h0:0<num2 l) (h1:num2 l≤2049) (h2:n<num2 l+4) :
  Calls Tryz.prog 34 #[.slice a n cap] w (GivesF w (get l)):=by
 have H:=lj (err_cut (l:=l) (by rw [hl.1]; omega) h0 h1 (by rw [hl.1]; omega));have HL:=lj hl;generalize hv:num2 l=v at *;have HV:=lj hv
 have hv0:((v:Int) == 0)=false:=by simp; omega
 have hv1:decide (2049<(v:Int))=false:=by simp; omega
 clear hl hv
 go_enter Tryz.func34,Tryz.ntmps34
 go_wp2_with fail
 refine (number_any a n cap B l _ (HL.out.below ((Below.refl _ _).alloc hB _)) hn).mono ?_;rintro e w1 ⟨rfl,m1,rfl⟩;rw [HV.out];have hb1:=below_drewN ((Below.refl w.heap.size w).alloc (Nat.le_refl _) (.cells #[Value.int IntKind.u8 0,Value.slice none 0 0] 96)) m1;go_wp2;exact bodyPost_ret (v:=.tuple #[.agg #[.int .u8 0,.slice none 0 0],.int .i64 0,.int .i64 (5:Nat)]) (by simp [results,Tryz.results34,go_sem]) rfl (gives_no H.out (by omega) ((hb1.setCell (by simp) _).setCell (by simp) _))
structure Res (w:World) (g:Nat) (W:World):Prop where
 below:Below w.heap.size w W
 eq:w.heap.size=g
 room:g<W.heap.size
 c0:W.cell? ⟨g,0,none⟩=some (.int .u8 0)
 c1:W.cell? ⟨g,1,none⟩=some (.slice none 0 0)
 f0:W.frozen? ⟨g,0,none⟩=false
 f1:W.frozen? ⟨g,1,none⟩=false
theorem res_new (w:World) (m:Nat):Res w w.heap.size ((w.alloc (.cells #[.int .u8 0,.slice none 0 0] 96)).drewN m):=
 ⟨below_drewN ((Below.refl _ _).alloc (Nat.le_refl _) _) m,rfl,by simp,
  (cell_of_row (w.alloc (.cells #[.int .u8 0,.slice none 0 0] 96)) _ _ _ _ _ (heap_alloc_new _ _)).trans rfl,
  (cell_of_row (w.alloc (.cells #[.int .u8 0,.slice none 0 0] 96)) _ _ _ _ _ (heap_alloc_new _ _)).trans rfl,
  frozen_of_row (w.alloc (.cells #[.int .u8 0,.slice none 0 0] 96)) _ _ _ _ (heap_alloc_new _ _),frozen_of_row (w.alloc (.cells #[.int .u8 0,.slice none 0 0] 96)) _ _ _ _ (heap_alloc_new _ _)⟩
theorem Res.drewN {w W:World} {g:Nat} (h:Res w g W) (n:Nat):Res w g (W.drewN n):=⟨below_drewN h.below n,h.eq,h.room,h.c0,h.c1,h.f0,h.f1⟩
theorem Res.go {w W W':World} {g:Nat} (h:Res w g W) (hb:Below W.heap.size W.drew W'):Res w g W':=
 ⟨Below.trans h.below ((show Below W.heap.size W W' from ⟨hb.os,hb.tape,hb.output,hb.size,hb.block⟩).mono h.below.size),h.eq,Nat.lt_of_lt_of_le h.room hb.size,(hb.cell (p:=⟨g,0,none⟩) h.room).trans h.c0,(hb.cell (p:=⟨g,1,none⟩) h.room).trans h.c1,
  (hb.frozen (p:=⟨g,0,none⟩) h.room).trans h.f0,(hb.frozen (p:=⟨g,1,none⟩) h.room).trans h.f1⟩
theorem get_sum (a:Option Addr) (n cap B:Nat) (l:Bs) (w:World) (hl:Bytes w B a n l) (hB:B≤w.heap.size) (hcap:n≤cap) (h0:0<num2 l) (h1:num2 l≤2049) (h2:num2 l+4≤n)
  (h3:sum ((l.drop 2).take (num2 l))≠num2 (l.drop (num2 l+2))) :
  Calls Tryz.prog 34 #[.slice a n cap] w (GivesF w (get l)):=by
 have H:=lj (err_sum (l:=l) h0 h1 (by rw [hl.1]; omega) h3);obtain ⟨b,off,rfl,hb,_⟩:=hl.2 (by omega);have HL:=lj hl
 have hs:Bytes w B (some ⟨b,off+2,none⟩) (num2 l) ((l.drop 2).take (num2 l)):=by
  exact (hl.cut2 (j:=2) (by omega) hcap (by omega)).take (by omega)
 have ht:Bytes w B (some ⟨b,off+(2+num2 l),none⟩) (n - (2+num2 l)) (l.drop (2+num2 l)):=hl.cut2 (by omega) hcap (by omega);rw [Nat.add_comm (num2 l) 2] at h3
 have hne:(((more 0xffff#16 ((l.drop 2).take (num2 l))).toNat:Int) != ((num2 (l.drop (2+num2 l)):Nat):Int))=true:=by
  have:((sum ((l.drop 2).take (num2 l)):Nat):Int)≠(num2 (l.drop (2+num2 l)):Nat):=by omega
  simpa [sum] using this
 generalize hv:num2 l=v at *;have HV:=lj hv;have HS:=lj hs;have HT:=lj ht;generalize (l.drop 2).take v=body at *;generalize l.drop (2+v)=tail at *
 have hv0:((v:Int) == 0)=false:=by simp; omega
 have hv1:decide (2049<(v:Int))=false:=by simp; omega
 have hc1:¬ cap=2+v:=by omega
 clear hl hv h3 hs ht
 go_enter Tryz.func34,Tryz.ntmps34
 go_wp2_with fail
 refine (number_any _ n cap B l _ (HL.out.below ((Below.refl _ _).alloc hB _)) (by omega)).mono ?_;rintro e w1 ⟨rfl,m1,rfl⟩;rw [HV.out];have HR:=lj (res_new w m1);generalize (w.alloc (.cells #[Value.int IntKind.u8 0,Value.slice none 0 0] 96)).drewN m1=W at *;generalize hg:w.heap.size=g at *;have HG:=lj hg;clear hg;go_wp2;have HS2:=lj (HS.out.below (HR.out.below.mono (by rw [HG.out]; exact hB)));have HT2:=lj (HT.out.below (HR.out.below.mono (by rw [HG.out]; exact hB)))
 go_quiet (first
  | (go_at_call 59; exact quiet_left (of_any _ _ _ B _ _ (by omega) (HS2.out.drewN _)))
  | (go_at_call 58; exact quiet_right (number_any _ _ _ B _ _ (HT2.out.drewN _) (by omega))))
 have c0:=HR.out.c0;have c1:=HR.out.c1;have f0:=HR.out.f0;have f1:=HR.out.f1;go_wp2;have hg:=HG.out;subst hg;exact bodyPost_ret (v:=.tuple #[.agg #[.int .u8 0,.slice none 0 0],.int .i64 0,.int .i64 (7:Nat)]) (by simp [results,Tryz.results34,go_sem,c0,c1]) rfl (gives_no H.out (by omega) (((below_drewN HR.out.below nq).setCell (by simp) _).setCell (by simp) _))
theorem get_ok (a:Option Addr) (n cap B:Nat) (l:Bs) (w:World) (hl:Bytes w B a n l) (hB:B≤w.heap.size) (hcap:n≤cap) (hn:n≤140737488355328) (h0:0<num2 l) (h1:num2 l≤2049) (h2:num2 l+4≤n)
  (h3:sum ((l.drop 2).take (num2 l))=num2 (l.drop (num2 l+2))) :
  Calls Tryz.prog 34 #[.slice a n cap] w (GivesF w (get l)):=by
 have H:=lj (get_yes (err_ok (l:=l) h0 h1 (by rw [hl.1]; omega) h3));obtain ⟨b,off,rfl,hb,hcell⟩:=hl.2 (by omega);have hk:=hcell 2 (by omega);have HL:=lj hl
 have hs:Bytes w B (some ⟨b,off+2,none⟩) (num2 l) ((l.drop 2).take (num2 l)):=by
  exact (hl.cut2 (j:=2) (by omega) hcap (by omega)).take (by omega)
 have hbd:Bytes w B (some ⟨b,off+3,none⟩) (num2 l - 1) ((l.drop 3).take (num2 l - 1)):=by
  exact (hl.cut2 (j:=3) (by omega) hcap (by omega)).take (by omega)
 have ht:Bytes w B (some ⟨b,off+(2+num2 l),none⟩) (n - (2+num2 l)) (l.drop (2+num2 l)):=hl.cut2 (by omega) hcap (by omega);rw [Nat.add_comm (num2 l) 2] at h3
 have hne:(((more 0xffff#16 ((l.drop 2).take (num2 l))).toNat:Int) != ((num2 (l.drop (2+num2 l)):Nat):Int))=false:=by
  have:((sum ((l.drop 2).take (num2 l)):Nat):Int)=(num2 (l.drop (2+num2 l)):Nat):=by omega
  simpa [sum] using this
 generalize hv:num2 l=v at *;have HV:=lj hv;have HS:=lj hs;have HT:=lj ht;have HBD:=lj hbd;generalize (l.drop 2).take v=sumd at *;generalize (l.drop 3).take (v - 1)=body at *;generalize l[2]?.getD 0#8=kind at *;generalize l.drop (2+v)=tail at *
 have hv0:((v:Int) == 0)=false:=by simp; omega
 have hv1:decide (2049<(v:Int))=false:=by simp; omega
 have hc1:¬ cap=2+v:=by omega
 have hc2:¬ cap - 2=1:=by omega
 clear hl hv h3 hs ht hbd hcell
 go_enter Tryz.func34,Tryz.ntmps34
 go_wp2_with fail
 refine (number_any _ n cap B l _ (HL.out.below ((Below.refl _ _).alloc hB _)) (by omega)).mono ?_;rintro e w1 ⟨rfl,m1,rfl⟩;rw [HV.out];have HR:=lj (res_new w m1);generalize (w.alloc (.cells #[Value.int IntKind.u8 0,Value.slice none 0 0] 96)).drewN m1=W at *;generalize hg:w.heap.size=g at *;have HG:=lj hg;clear hg;go_wp2;have hW:Below B w W:=HR.out.below.mono (by rw [HG.out]; exact hB)
 have hW2:W.heap.size ≥ g:=by have:=HR.out.room; omega
 have HS2:=lj (HS.out.below hW);have HT2:=lj (HT.out.below hW);have HBD2:=lj (HBD.out.below hW);have hk2:=(hW.cell (p:=⟨b,off+2,none⟩) hb).trans hk;have HK:=lj hk2;clear hW hk hk2
 go_quiet (first
  | (go_at_call 59; exact quiet_left (of_any _ _ _ B _ _ (by omega) (HS2.out.drewN _)))
  | (go_at_call 58; exact quiet_right (number_any _ _ _ B _ _ (HT2.out.drewN _) (by omega))))
 have HR2:=lj (HR.out.drewN nq);have HB3:=lj (HBD2.out.drewN nq);have HK2:Hid ((W.drewN nq).cell? ⟨b,off+2,none⟩=some (.int .u8 kind.toNat)):=lj HK.out;clear HS HT HBD HS2 HT2 HBD2 HK HR;go_wp2;generalize W.drewN nq=W2 at *;have c0:=HR2.out.c0;have c1:=HR2.out.c1;have f0:=HR2.out.f0;have f1:=HR2.out.f1;have hk:=HK2.out
 have hbg:b<g:=by omega
 have hneA:∀ i,(⟨g,i,none⟩:Addr)≠⟨b,off+2,none⟩:=by
  intro i h;have h2:=congrArg Addr.block h;simp only at h2;omega
 have hi0:(0:Int)<(v:Int):=by omega
 have hi1:(1:Int)≤(v:Int):=by omega
 have hi2:v≤cap - 2:=by omega
 have hB2:B≤W2.heap.size:=by have:=HR2.out.room; omega
 have hbW:b<W2.heap.size:=by omega
 have hsum:IntKind.i64.wrap (2+(v:Int)+2)=2+(v:Int)+2:=IntWalk.i64_in _ (by omega)
 go_region_held3 (fun w'=>w'.cell? ⟨b,off+2,none⟩=some (.int .u8 kind.toNat)) (first | go_keep | exact (World.cell?_setCell_other _ _ _ _ (hneA 1)).trans ((World.cell?_setCell_other _ _ _ _ (hneA 0)).trans hk3))
  (first | (go_at_call 60; refine (clone_any (some ⟨b,off+2+1,none⟩) _ _ B body _ (HB3.out.keep (w':=W2.drew) (fun _ _=>rfl)) hB2 (by omega)).mono ?_; rintro e w3 ⟨A3,c3,rfl,hown,hb3⟩; have HR3:=lj (HR2.out.go hb3); have hk3:=(hb3.cell (p:=⟨b,off+2,none⟩) hbW).trans hk; have HO:=lj hown; have q0:=HR3.out.c0; have q1:=HR3.out.c1; have q2:=HR3.out.f0; have q3:=HR3.out.f1; clear hown hb3))
 rename_i hh
 clear hh;go_wp2;have hg:=HG.out;subst hg;refine bodyPost_ret (v:=.tuple #[.agg #[.int .u8 kind.toNat,.slice A3 (v - 1) c3],.int .i64 (v+4:Nat),.int .i64 (0:Nat)]) (by simp [results,Tryz.results34,go_sem,q0,q1]; omega) rfl ?_;unfold GivesF;rw [H.out];have hl:=HO.out.len;have hgW:w.heap.size<W2.drew.heap.size:=HR2.out.room;refine ⟨A3,c3,by rw [hl],?_,(HR3.out.below.setCell (by simp) _).setCell (by simp) _,(fun hpos p hp=>?_),by rw [hl]; exact HO.out.cap⟩
 case refine_2 =>
  obtain ⟨g3,hg3,hb3,_⟩:=HO.out.form (by rw [← hl]; exact hpos);rw [hg3] at hp
  injection hp with hp
  subst hp
  show w.heap.size≤g3
  omega
 rw [hl];exact Bytes.of_own (ownsRow_setCell_below (ownsRow_setCell_below HO.out.row (by exact hgW) _) (by exact hgW) _)
theorem get_anyF (a:Option Addr) (n cap B:Nat) (l:Bs) (w:World) (hl:Bytes w B a n l) (hB:B≤w.heap.size) (hcap:n≤cap) (hn:n≤140737488355328) :
  Calls Tryz.prog 34 #[.slice a n cap] w (GivesF w (get l)):=by
 by_cases h:n<2
 ·exact get_short a n cap l w hl.1 h
 by_cases h2:num2 l=0∨2049<num2 l
 ·exact get_long a n cap B l w hl hB (by omega) h2
 by_cases h3:n<num2 l+4
 ·exact get_cut a n cap B l w hl hB (by omega) (by omega) (by omega) h3
 by_cases h4:sum ((l.drop 2).take (num2 l))=num2 (l.drop (num2 l+2))
 ·exact get_ok a n cap B l w hl hB hcap hn (by omega) (by omega) (by omega) h4
 ·exact get_sum a n cap B l w hl hB hcap (by omega) (by omega) (by omega) h4
end
end Go.Proofs.YtdpagmcickkbmaaGreatDoor
