/- The reference's numbers M 2^E: the walks of Sign and level. The walk of the reference's Order. The reference's Order: what it answers. -/
import Derived.Test.YtbejmklkicoibaaKe04
namespace Go.Proofs.Ytbejmklkicoibaa
open Go.ChangeShapes Go.WideShapes Go.ChangeAt Go.RowKit
theorem BigIs.shape {w:World} {v:Value} {n:Nat} (h:BigIs w v n):∃ao l cap,v=.slice ao l cap/\(l=0↔n=0):=by
 obtain⟨ds,d1,d2,rfl,hr⟩:=h
 obtain⟨ao,cap,rfl, -⟩:=hr.open_
 exact⟨ao,ds.length,cap,rfl,d2.zero.symm⟩
def Boxed (w:World) (b:Nat):Prop:=∃cur T fz,T≠122/\w.heap[b]?=some (.cells cur T fz)
theorem Boxed.keep {w w':World} {b:Nat} (h:Boxed w b) (hb:Below w.heap.size w w'):Boxed w' b:=by
 obtain⟨cur,T,fz,hT,hc⟩:=h
 exact⟨cur,T,fz,hT,by rw [hb.block b (Array.getElem?_eq_some_iff.1 hc).1];exact hc⟩
theorem Boxed.set {w:World} {b:Nat} (h:Boxed w b) (c o:Nat) (x:Value):Boxed (w.setCell ⟨c,o,none⟩ x) b:=by
 obtain⟨cur,T,fz,hT,hc⟩:=h
 by_cases e:b=c
 ·refine⟨cur.setIfInBounds o x,T,fz,hT, ?_⟩
  subst e
  simp [World.setCell,Array.getElem?_modify,hc]
 ·exact⟨cur,T,fz,hT,by rw [Below.heap_setCell _ _ _ _ e];exact hc⟩
theorem Boxed.new (w:World) (cur:Array Value):Boxed (w.alloc (.cells cur 125)) w.heap.size:=⟨cur,125,(0,0),by decide,heap_alloc_new w _⟩
theorem Boxed.alloc {w:World} {b:Nat} (h:Boxed w b) (o:Obj):Boxed (w.alloc o) b:=by
 obtain⟨cur,T,fz,hT,hc⟩:=h
 exact⟨cur,T,fz,hT,by rw [Below.heap_alloc w o b (Array.getElem?_eq_some_iff.1 hc).1];exact hc⟩
theorem BigIs.put {w:World} {v:Value} {n:Nat} (h:BigIs w v n) {b:Nat} (hb:Boxed w b) (o:Nat) (x:Value):BigIs (w.setCell ⟨b,o,none⟩ x) v n:=by
 obtain⟨ds,h1,h2,h3,h4⟩:=h
 refine⟨ds,h1,h2,h3,h4.1, ?_⟩
 rcases h4.2 with hn | ⟨g,cap,cur,rfl,hb2,hgg,rest⟩
 ·exact .inl hn
 ·refine .inr ⟨g,cap,cur,rfl,hb2, ?_,rest⟩
  obtain⟨cur',T,fz,hT,hc⟩:=hb
  have:g≠b:=by
   rintro rfl
   rw [hc] at hgg
   cases hgg
   exact hT rfl
  rw [Below.heap_setCell _ _ _ _ this]
  exact hgg
theorem BigIs.drew {w:World} {v:Value} {n:Nat} (h:BigIs w v n):BigIs w.drew v n:=h.keep (Below.refl _ _).drew
theorem boxed4 (w:World) (c1 c2 c3 c4:Array Value):let W:=(((w.alloc (.cells c1 125)).alloc (.cells c2 125)).alloc (.cells c3 125)).alloc (.cells c4 125)
  Boxed W w.heap.size/\Boxed W (w.heap.size+1)/\Boxed W (w.heap.size+1+1)/\Boxed W (w.heap.size+1+1+1):=by
 refine⟨(((Boxed.new _ _).alloc _).alloc _).alloc _, ?_, ?_, ?_⟩
 ·have h:=(((Boxed.new (w.alloc (.cells c1 125)) c2).alloc (.cells c3 125)).alloc (.cells c4 125))
  simpa only [World.size_alloc] using h
 ·have h:=((Boxed.new ((w.alloc (.cells c1 125)).alloc (.cells c2 125)) c3).alloc (.cells c4 125))
  simpa only [World.size_alloc] using h
 ·have h:=(Boxed.new (((w.alloc (.cells c1 125)).alloc (.cells c2 125)).alloc (.cells c3 125)) c4)
  simpa only [World.size_alloc] using h
theorem boxed3 (w:World) (c1 c2 c3:Array Value):let W:=((w.alloc (.cells c1 125)).alloc (.cells c2 125)).alloc (.cells c3 125)
  Boxed W w.heap.size/\Boxed W (w.heap.size+1)/\Boxed W (w.heap.size+1+1):=by
 refine⟨((Boxed.new _ _).alloc _).alloc _, ?_, ?_⟩
 ·have h:=((Boxed.new (w.alloc (.cells c1 125)) c2).alloc (.cells c3 125))
  simpa only [World.size_alloc] using h
 ·have h:=(Boxed.new ((w.alloc (.cells c1 125)).alloc (.cells c2 125)) c3)
  simpa only [World.size_alloc] using h
set_option maxHeartbeats 1000000 in
theorem level_w (g h:Bool) (va vb:Value) (m n K:Nat) (e f:Int) (hK:K<=1000000) (hm:m<2^K) (hn:n<2^K) (he:-100000<=e/\e<=100000) (hf:-100000<=f/\f<=100000) (w:World) (ha:BigIs w va m) (hb:BigIs w vb n) :
   Calls Try.prog 101 #[.agg #[.bool g,va,.int .i64 e],.agg #[.bool h,vb,.int .i64 f]] w fun r w' =>
     (∃v1 v2,r=.returned (.tuple #[.agg #[.bool g,v1,.int .i64 (min e f)],.agg #[.bool h,v2,.int .i64 (min e f)]])/\BigIs w' v1 (m*2^(e-min e f).toNat)/\BigIs w' v2 (n*2^(f-min e f).toNat))/\Below w.heap.size w w':=by
 obtain⟨ao,l,ca,rfl, -⟩:=ha.shape
 obtain⟨bo,k,cb,rfl, -⟩:=hb.shape
 rcases Int.lt_trichotomy e f with c | c | c
 · rw [show min e f=e by omega,show (e-e).toNat=0 by omega,Nat.pow_zero,Nat.mul_one]
   obtain⟨t,ht⟩:∃t:Nat,f-e=(t:Int):=⟨(f-e).toNat,by omega⟩
   rw [ht,Int.toNat_natCast]
   obtain⟨q,r,hqr,hr⟩:∃q r,t=32*q+r/\r<32:=⟨t/32,t%32,by omega,by omega⟩
   have hleft:=fun w2 hb2=>left_w (.slice bo k cb) n t q r K hK hn (by omega) hqr hr w2 hb2
   clear hqr hr hm hn
   go_enter Try.func101,Try.ntmps101
   go_wp2_with
    (go_at_call 99;refine (hleft _ (hb.keep (by go_grown))).mono ?_;rintro _ w1 ⟨⟨v2,rfl,hv2⟩,hb1⟩
     obtain⟨b2,k2,c2,rfl, -⟩:=hv2.shape
     have A0:Has3 w1 w.heap.size (.bool g) (.slice ao l ca) (.int .i64 e):=Has3.keep ⟨by go_simp,by go_simp,by go_simp,by go_simp,by go_simp,by go_simp,by go_size⟩ hb1
     have A1:Has3 w1 (w.heap.size+1) (.bool h) (.slice bo k cb) (.int .i64 f):=Has3.keep ⟨by go_simp,by go_simp,by go_simp,by go_simp,by go_simp,by go_simp,by go_size⟩ hb1
     have A2:Has3 w1 (w.heap.size+1+1) (.bool false) (.slice none 0 0) (.int .i64 0):=Has3.keep ⟨by go_simp,by go_simp,by go_simp,by go_simp,by go_simp,by go_simp,by go_size⟩ hb1
     have A3:Has3 w1 (w.heap.size+1+1+1) (.bool false) (.slice none 0 0) (.int .i64 0):=Has3.keep ⟨by go_simp,by go_simp,by go_simp,by go_simp,by go_simp,by go_simp,by go_size⟩ hb1
     have HB:Below w.heap.size w w1:=later (by go_grown) hb1
     obtain⟨B0,B1,B2,B3⟩:=boxed4 w _ _ _ _
     replace B0:=B0.keep hb1
     replace B1:=B1.keep hb1
     replace B2:=B2.keep hb1
     replace B3:=B3.keep hb1
     obtain⟨x0,x1,x2,x3,x4,x5,x6⟩:=A0
     obtain⟨y0,y1,y2,y3,y4,y5,y6⟩:=A1
     obtain⟨z0,z1,z2,z3,z4,z5,z6⟩:=A2
     obtain⟨t0,t1,t2,t3,t4,t5,t6⟩:=A3)
   go_region
   all_goals
     go_wp2
     have hk1:=ha.keep HB
     refine bodyPost_ret (v:=.tuple #[.agg #[.bool g,.slice ao l ca,.int .i64 e],.agg #[.bool h,.slice b2 k2 c2,.int .i64 e]]) (by simp [results,Try.results101,go_sem, *]) rfl ⟨⟨_,_,rfl, ?_, ?_⟩, ?_⟩
     all_goals repeat' (first | (with_reducible exact hv2) | (with_reducible exact hk1) | (with_reducible exact HB) | (with_reducible exact B0) | (with_reducible exact B1) | (with_reducible exact B2) | (with_reducible exact B3) | (with_reducible refine BigIs.drew ?_) | (with_reducible refine BigIs.put ?_ ?_ _ _) | (with_reducible refine Boxed.set ?_ _ _ _) | (with_reducible refine Below.drew ?_) | (with_reducible refine Below.setCell ?_ ?_ _) | go_size)
 · subst c
   rw [show min e e=e by omega,show (e-e).toNat=0 by omega,Nat.pow_zero,Nat.mul_one,Nat.mul_one]
   go_enter Try.func101,Try.ntmps101
   go_wp2_with fail
   go_region
   all_goals
     go_wp2
     refine bodyPost_ret (v:=.tuple #[.agg #[.bool g,.slice ao l ca,.int .i64 e],.agg #[.bool h,.slice bo k cb,.int .i64 e]]) (by simp [results,Try.results101,go_sem, *]) rfl ⟨⟨_,_,rfl,ha.keep (by go_grown),hb.keep (by go_grown)⟩,by go_grown⟩
 · rw [show min e f=f by omega,show (f-f).toNat=0 by omega,Nat.pow_zero,Nat.mul_one]
   obtain⟨t,ht⟩:∃t:Nat,e-f=(t:Int):=⟨(e-f).toNat,by omega⟩
   rw [ht,Int.toNat_natCast]
   obtain⟨q,r,hqr,hr⟩:∃q r,t=32*q+r/\r<32:=⟨t/32,t%32,by omega,by omega⟩
   have hleft:=fun w2 hb2=>left_w (.slice ao l ca) m t q r K hK hm (by omega) hqr hr w2 hb2
   clear hqr hr hm hn
   go_enter Try.func101,Try.ntmps101
   go_wp2_with
    (go_at_call 99;refine (hleft _ (ha.keep (by go_grown))).mono ?_;rintro _ w1 ⟨⟨v2,rfl,hv2⟩,hb1⟩
     obtain⟨b2,k2,c2,rfl, -⟩:=hv2.shape
     have A0:Has3 w1 w.heap.size (.bool g) (.slice ao l ca) (.int .i64 e):=Has3.keep ⟨by go_simp,by go_simp,by go_simp,by go_simp,by go_simp,by go_simp,by go_size⟩ hb1
     have A1:Has3 w1 (w.heap.size+1) (.bool h) (.slice bo k cb) (.int .i64 f):=Has3.keep ⟨by go_simp,by go_simp,by go_simp,by go_simp,by go_simp,by go_simp,by go_size⟩ hb1
     have A2:Has3 w1 (w.heap.size+1+1) (.bool false) (.slice none 0 0) (.int .i64 0):=Has3.keep ⟨by go_simp,by go_simp,by go_simp,by go_simp,by go_simp,by go_simp,by go_size⟩ hb1
     have A3:Has3 w1 (w.heap.size+1+1+1) (.bool false) (.slice none 0 0) (.int .i64 0):=Has3.keep ⟨by go_simp,by go_simp,by go_simp,by go_simp,by go_simp,by go_simp,by go_size⟩ hb1
     have HB:Below w.heap.size w w1:=later (by go_grown) hb1
     obtain⟨B0,B1,B2,B3⟩:=boxed4 w _ _ _ _
     replace B0:=B0.keep hb1
     replace B1:=B1.keep hb1
     replace B2:=B2.keep hb1
     replace B3:=B3.keep hb1
     obtain⟨x0,x1,x2,x3,x4,x5,x6⟩:=A0
     obtain⟨y0,y1,y2,y3,y4,y5,y6⟩:=A1
     obtain⟨z0,z1,z2,z3,z4,z5,z6⟩:=A2
     obtain⟨t0,t1,t2,t3,t4,t5,t6⟩:=A3)
   go_region
   all_goals
     go_wp2
     have hk1:=hb.keep HB
     refine bodyPost_ret (v:=.tuple #[.agg #[.bool g,.slice b2 k2 c2,.int .i64 f],.agg #[.bool h,.slice bo k cb,.int .i64 f]]) (by simp [results,Try.results101,go_sem, *]) rfl ⟨⟨_,_,rfl, ?_, ?_⟩, ?_⟩
     all_goals repeat' (first | (with_reducible exact hv2) | (with_reducible exact hk1) | (with_reducible exact HB) | (with_reducible exact B0) | (with_reducible exact B1) | (with_reducible exact B2) | (with_reducible exact B3) | (with_reducible refine BigIs.drew ?_) | (with_reducible refine BigIs.put ?_ ?_ _ _) | (with_reducible refine Boxed.set ?_ _ _ _) | (with_reducible refine Below.drew ?_) | (with_reducible refine Below.setCell ?_ ?_ _) | go_size)
theorem Has3.drew {w:World} {b:Nat} {x y z:Value} (h:Has3 w b x y z):Has3 w.drew b x y z:=h
def sgnd (g:Bool) (A:Nat):Int:=if g then -(A:Int) else (A:Int)
theorem bitsN_le {m K:Nat} (h:m<2^K):bitsN m<=K:=by
 rcases Nat.eq_zero_or_pos m with c | c
 ·subst c;simp [bitsN]
 ·obtain⟨b,hb,b1,b2⟩:=bitsN_low (show m≠0 by omega)
  have:=(Nat.pow_lt_pow_iff_right (show 1<2 by omega)).1 (Nat.lt_of_le_of_lt b1 h)
  omega
theorem pow_scale {m K t u:Nat} (h:m<2^K) (ht:t<=u):m*2^t<2^(K+u):=by
 have h1:=Nat.mul_lt_mul_of_pos_right h (Nat.two_pow_pos t)
 rw [<-Nat.pow_add] at h1
 have:=Nat.pow_le_pow_right (show 2>0 by omega) (show K+t<=K+u by omega)
 omega
end Go.Proofs.Ytbejmklkicoibaa
