/- The reference's numbers M 2^E: the walks of Sign and level. The walk of the reference's Order. The reference's Order: what it answers. -/
import Derived.Test.YtgocelaghggpmaaDoorKt13
namespace Go.Proofs.YtgocelaghggpmaaDoor
open Go.ChangeShapes Go.WideShapes Go.ChangeAt Go.RowKit
theorem BigIs.shape {w:World} {v:Value} {n:Nat} (h:BigIs w v n):∃ao l cap,v=.slice ao l cap∧(l=0↔n=0):=by
 obtain⟨ds,d1,d2,rfl,hr⟩:=h
 obtain⟨ao,cap,rfl, -⟩:=hr.open_
 exact⟨ao,ds.length,cap,rfl,d2.zero.symm⟩
def Boxed (w:World) (b:Nat):Prop:=∃cur T fz,T≠97∧w.heap[b]?=some (.cells cur T fz)
theorem Boxed.keep {w w':World} {b:Nat} (h:Boxed w b) (hb:Below w.heap.size w w'):Boxed w' b:=by
 obtain⟨cur,T,fz,hT,hc⟩:=h
 exact⟨cur,T,fz,hT,by rw [hb.block b (Array.getElem?_eq_some_iff.1 hc).1];exact hc⟩
theorem Boxed.set {w:World} {b:Nat} (h:Boxed w b) (c o:Nat) (x:Value):Boxed (w.setCell ⟨c,o,none⟩ x) b:=by
 obtain⟨cur,T,fz,hT,hc⟩:=h
 by_cases e:b=c
 · refine⟨cur.setIfInBounds o x,T,fz,hT, ?_⟩
   subst e
   simp [World.setCell,Array.getElem?_modify,hc]
 · exact⟨cur,T,fz,hT,by rw [Below.heap_setCell _ _ _ _ e];exact hc⟩
theorem Boxed.new (w:World) (cur:Array Value):Boxed (w.alloc (.cells cur 76)) w.heap.size:=⟨cur,76,(0,0),by decide,heap_alloc_new w _⟩
theorem Boxed.alloc {w:World} {b:Nat} (h:Boxed w b) (o:Obj):Boxed (w.alloc o) b:=by
 obtain⟨cur,T,fz,hT,hc⟩:=h
 exact⟨cur,T,fz,hT,by rw [Below.heap_alloc w o b (Array.getElem?_eq_some_iff.1 hc).1];exact hc⟩
theorem BigIs.put {w:World} {v:Value} {n:Nat} (h:BigIs w v n) {b:Nat} (hb:Boxed w b) (o:Nat) (x:Value):BigIs (w.setCell ⟨b,o,none⟩ x) v n:=by
 obtain⟨ds,h1,h2,h3,h4⟩:=h
 refine⟨ds,h1,h2,h3,h4.1, ?_⟩
 rcases h4.2 with hn | ⟨g,cap,cur,rfl,hb2,hgg,rest⟩
 · exact .inl hn
 · refine .inr ⟨g,cap,cur,rfl,hb2, ?_,rest⟩
   obtain⟨cur',T,fz,hT,hc⟩:=hb
   have:g≠b:=by
     rintro rfl
     rw [hc] at hgg
     cases hgg
     exact hT rfl
   rw [Below.heap_setCell _ _ _ _ this]
   exact hgg
theorem BigIs.drew {w:World} {v:Value} {n:Nat} (h:BigIs w v n):BigIs w.drew v n:=h.keep (Below.refl _ _).drew
theorem BigIs.alloc {w:World} {v:Value} {n:Nat} (h:BigIs w v n) (o:Obj):BigIs (w.alloc o) v n:=h.keep ((Below.refl _ _).alloc (Nat.le_refl _) o)
theorem boxed4 (w:World) (c1 c2 c3 c4:Array Value):let W:=(((w.alloc (.cells c1 76)).alloc (.cells c2 76)).alloc (.cells c3 76)).alloc (.cells c4 76)
   Boxed W w.heap.size∧Boxed W (w.heap.size+1)∧Boxed W (w.heap.size+1+1)∧Boxed W (w.heap.size+1+1+1):=by
 refine⟨(((Boxed.new _ _).alloc _).alloc _).alloc _, ?_, ?_, ?_⟩
 · have h:=(((Boxed.new (w.alloc (.cells c1 76)) c2).alloc (.cells c3 76)).alloc (.cells c4 76))
   simpa only [World.size_alloc] using h
 · have h:=((Boxed.new ((w.alloc (.cells c1 76)).alloc (.cells c2 76)) c3).alloc (.cells c4 76))
   simpa only [World.size_alloc] using h
 · have h:=(Boxed.new (((w.alloc (.cells c1 76)).alloc (.cells c2 76)).alloc (.cells c3 76)) c4)
   simpa only [World.size_alloc] using h
theorem boxed3 (w:World) (c1 c2 c3:Array Value):let W:=((w.alloc (.cells c1 76)).alloc (.cells c2 76)).alloc (.cells c3 76)
   Boxed W w.heap.size∧Boxed W (w.heap.size+1)∧Boxed W (w.heap.size+1+1):=by
 refine⟨((Boxed.new _ _).alloc _).alloc _, ?_, ?_⟩
 · have h:=((Boxed.new (w.alloc (.cells c1 76)) c2).alloc (.cells c3 76))
   simpa only [World.size_alloc] using h
 · have h:=(Boxed.new ((w.alloc (.cells c1 76)).alloc (.cells c2 76)) c3)
   simpa only [World.size_alloc] using h
def signZ (g:Bool) (m:Nat):Int:=if m=0 then 0 else if g then -1 else 1
theorem sign_w (g:Bool) (v:Value) (m:Nat) (e:Int) (w:World) (h:BigIs w v m) :
   Calls Tryd.prog 123 #[.agg #[.bool g,v,.int .i64 e]] w fun r w'=>r=.returned (.int .i64 (signZ g m))∧Below w.heap.size w w':=by
 obtain⟨ao,l,cap,rfl,hl⟩:=h.shape
 unfold signZ
 by_cases h0:m=0
 · have:l=0:=hl.2 h0
   subst this
   rw [if_pos h0]
   go_enter Tryd.func123,Tryd.ntmps123
   go_wp2
   go_ret
   exact⟨rfl,by go_grown⟩
 · have hne:l≠0:=fun c=>h0 (hl.1 c)
   have hz:((l:Int)==0)=false:=by rw [beq_eq_false_iff_ne];omega
   rw [if_neg h0]
   clear hl
   cases g
   all_goals
     go_enter Tryd.func123,Tryd.ntmps123
     go_wp2
     go_ret
     exact⟨rfl,by go_grown⟩
set_option maxHeartbeats 1000000 in
theorem level_w (g h:Bool) (va vb:Value) (m n K:Nat) (e f:Int) (hK:K≤1000000) (hm:m<2^K) (hn:n<2^K) (he:-100000≤e∧e≤100000) (hf:-100000≤f∧f≤100000) (w:World) (ha:BigIs w va m) (hb:BigIs w vb n) :
   Calls Tryd.prog 127 #[.agg #[.bool g,va,.int .i64 e],.agg #[.bool h,vb,.int .i64 f]] w fun r w' =>
     (∃v1 v2,r=.returned (.tuple #[.agg #[.bool g,v1,.int .i64 (min e f)],.agg #[.bool h,v2,.int .i64 (min e f)]])∧BigIs w' v1 (m*2^(e-min e f).toNat)∧BigIs w' v2 (n*2^(f-min e f).toNat))∧Below w.heap.size w w':=by
 obtain⟨ao,l,ca,rfl, -⟩:=ha.shape
 obtain⟨bo,k,cb,rfl, -⟩:=hb.shape
 rcases Int.lt_trichotomy e f with c | c | c
 · rw [show min e f=e by omega,show (e-e).toNat=0 by omega,Nat.pow_zero,Nat.mul_one]
   obtain⟨t,ht⟩:∃t:Nat,f-e=(t:Int):=⟨(f-e).toNat,by omega⟩
   rw [ht,Int.toNat_natCast]
   obtain⟨q,r,hqr,hr⟩:∃q r,t=32*q+r∧r<32:=⟨t/32,t%32,by omega,by omega⟩
   have hleft:=fun w2 hb2=>left_w (.slice bo k cb) n t q r K hK hn (by omega) hqr hr w2 hb2
   clear hqr hr hm hn
   go_enter Tryd.func127,Tryd.ntmps127
   go_wp2_with
    (go_at_call 111;refine (hleft _ (hb.keep (by go_grown))).mono ?_;rintro _ w1 ⟨⟨v2,rfl,hv2⟩,hb1⟩
     obtain⟨b2,k2,c2,rfl, -⟩:=hv2.shape
     have A0:Has3 w1 w.heap.size (.bool g) (.slice ao l ca) (.int .i64 e):=Has3.keep ⟨by go_simp,by go_simp,by go_simp,by go_simp,by go_simp,by go_simp,by go_size⟩ hb1
     have A1:Has3 w1 (w.heap.size+1) (.bool h) (.slice bo k cb) (.int .i64 f):=Has3.keep ⟨by go_simp,by go_simp,by go_simp,by go_simp,by go_simp,by go_simp,by go_size⟩ hb1
     have A2:Has3 w1 (w.heap.size+1+1) (.bool false) (.slice none 0 0) (.int .i64 0):=Has3.keep ⟨by go_simp,by go_simp,by go_simp,by go_simp,by go_simp,by go_simp,by go_size⟩ hb1
     have A3:Has3 w1 (w.heap.size+1+1+1) (.bool false) (.slice none 0 0) (.int .i64 0):=Has3.keep ⟨by go_simp,by go_simp,by go_simp,by go_simp,by go_simp,by go_simp,by go_size⟩ hb1
     have HB:Below w.heap.size w w1:=later (by go_grown) hb1
     obtain⟨B0,B1,B2,B3⟩:=boxed4 w _ _ _ _
     replace B0:=B0.keep hb1
     replace B1:=B1.keep hb1
     replace B2:=B2.keep hb1
     replace B3:=B3.keep hb1
     obtain⟨x0,x1,x2,x3,x4,x5,x6⟩:=A0
     obtain⟨y0,y1,y2,y3,y4,y5,y6⟩:=A1
     obtain⟨z0,z1,z2,z3,z4,z5,z6⟩:=A2
     obtain⟨t0,t1,t2,t3,t4,t5,t6⟩:=A3)
   go_region
   all_goals
     go_wp2
     have hk1:=ha.keep HB
     refine bodyPost_ret (v:=.tuple #[.agg #[.bool g,.slice ao l ca,.int .i64 e],.agg #[.bool h,.slice b2 k2 c2,.int .i64 e]]) (by simp [results,Tryd.results127,go_sem, *]) rfl ⟨⟨_,_,rfl, ?_, ?_⟩, ?_⟩
     all_goals repeat' (first | (with_reducible exact hv2) | (with_reducible exact hk1) | (with_reducible exact HB) | (with_reducible exact B0) | (with_reducible exact B1) | (with_reducible exact B2) | (with_reducible exact B3) | (with_reducible refine BigIs.drew ?_) | (with_reducible refine BigIs.put ?_ ?_ _ _) | (with_reducible refine Boxed.set ?_ _ _ _) | (with_reducible refine Below.drew ?_) | (with_reducible refine Below.setCell ?_ ?_ _) | go_size)
 · subst c
   rw [show min e e=e by omega,show (e-e).toNat=0 by omega,Nat.pow_zero,Nat.mul_one,Nat.mul_one]
   go_enter Tryd.func127,Tryd.ntmps127
   go_wp2_with fail
   go_region
   all_goals
     go_wp2
     refine bodyPost_ret (v:=.tuple #[.agg #[.bool g,.slice ao l ca,.int .i64 e],.agg #[.bool h,.slice bo k cb,.int .i64 e]]) (by simp [results,Tryd.results127,go_sem, *]) rfl ⟨⟨_,_,rfl,ha.keep (by go_grown),hb.keep (by go_grown)⟩,by go_grown⟩
 · rw [show min e f=f by omega,show (f-f).toNat=0 by omega,Nat.pow_zero,Nat.mul_one]
   obtain⟨t,ht⟩:∃t:Nat,e-f=(t:Int):=⟨(e-f).toNat,by omega⟩
   rw [ht,Int.toNat_natCast]
   obtain⟨q,r,hqr,hr⟩:∃q r,t=32*q+r∧r<32:=⟨t/32,t%32,by omega,by omega⟩
   have hleft:=fun w2 hb2=>left_w (.slice ao l ca) m t q r K hK hm (by omega) hqr hr w2 hb2
   clear hqr hr hm hn
   go_enter Tryd.func127,Tryd.ntmps127
   go_wp2_with
    (go_at_call 111;refine (hleft _ (ha.keep (by go_grown))).mono ?_;rintro _ w1 ⟨⟨v2,rfl,hv2⟩,hb1⟩
     obtain⟨b2,k2,c2,rfl, -⟩:=hv2.shape
     have A0:Has3 w1 w.heap.size (.bool g) (.slice ao l ca) (.int .i64 e):=Has3.keep ⟨by go_simp,by go_simp,by go_simp,by go_simp,by go_simp,by go_simp,by go_size⟩ hb1
     have A1:Has3 w1 (w.heap.size+1) (.bool h) (.slice bo k cb) (.int .i64 f):=Has3.keep ⟨by go_simp,by go_simp,by go_simp,by go_simp,by go_simp,by go_simp,by go_size⟩ hb1
     have A2:Has3 w1 (w.heap.size+1+1) (.bool false) (.slice none 0 0) (.int .i64 0):=Has3.keep ⟨by go_simp,by go_simp,by go_simp,by go_simp,by go_simp,by go_simp,by go_size⟩ hb1
     have A3:Has3 w1 (w.heap.size+1+1+1) (.bool false) (.slice none 0 0) (.int .i64 0):=Has3.keep ⟨by go_simp,by go_simp,by go_simp,by go_simp,by go_simp,by go_simp,by go_size⟩ hb1
     have HB:Below w.heap.size w w1:=later (by go_grown) hb1
     obtain⟨B0,B1,B2,B3⟩:=boxed4 w _ _ _ _
     replace B0:=B0.keep hb1
     replace B1:=B1.keep hb1
     replace B2:=B2.keep hb1
     replace B3:=B3.keep hb1
     obtain⟨x0,x1,x2,x3,x4,x5,x6⟩:=A0
     obtain⟨y0,y1,y2,y3,y4,y5,y6⟩:=A1
     obtain⟨z0,z1,z2,z3,z4,z5,z6⟩:=A2
     obtain⟨t0,t1,t2,t3,t4,t5,t6⟩:=A3)
   go_region
   all_goals
     go_wp2
     have hk1:=hb.keep HB
     refine bodyPost_ret (v:=.tuple #[.agg #[.bool g,.slice b2 k2 c2,.int .i64 f],.agg #[.bool h,.slice bo k cb,.int .i64 f]]) (by simp [results,Tryd.results127,go_sem, *]) rfl ⟨⟨_,_,rfl, ?_, ?_⟩, ?_⟩
     all_goals repeat' (first | (with_reducible exact hv2) | (with_reducible exact hk1) | (with_reducible exact HB) | (with_reducible exact B0) | (with_reducible exact B1) | (with_reducible exact B2) | (with_reducible exact B3) | (with_reducible refine BigIs.drew ?_) | (with_reducible refine BigIs.put ?_ ?_ _ _) | (with_reducible refine Boxed.set ?_ _ _ _) | (with_reducible refine Below.drew ?_) | (with_reducible refine Below.setCell ?_ ?_ _) | go_size)
theorem bits_turn {P:Program} {n:Nat} {args:Array Value} {w:World} {v:Value} (h:Calls P n args w fun r w'=>r=.returned v∧w=w'):Calls P n args w fun r w'=>r=.returned v∧w'=w:=h.mono fun _ _ c=>⟨c.1,c.2.symm⟩
theorem Has3.drewN {w:World} {b:Nat} {x y z:Value} (h:Has3 w b x y z) (n:Nat):Has3 (w.drewN n) b x y z:=h.keep (Go.below_drewN (Below.refl _ _) n)
theorem Has3.drew {w:World} {b:Nat} {x y z:Value} (h:Has3 w b x y z):Has3 w.drew b x y z:=h
set_option maxHeartbeats 1000000 in
theorem order_differ (g h:Bool) (ao bo:Option Addr) (l k ca cb:Nat) (e f s1 s2:Int) (w:World)
   (c1:∀W,Below w.heap.size w W→Calls Tryd.prog 123 #[.agg #[.bool g,.slice ao l ca,.int .i64 e]] W fun r w'=>r=.returned (.int .i64 s1)∧Below W.heap.size W w')
   (c2:∀W,Below w.heap.size w W→Calls Tryd.prog 123 #[.agg #[.bool h,.slice bo k cb,.int .i64 f]] W fun r w'=>r=.returned (.int .i64 s2)∧Below W.heap.size W w')
   (hne:(s1==s2)=false) (R:Int) (hR:s1<s2∧R=-1∨¬s1<s2∧R=1) :
   Calls Tryd.prog 124 #[.agg #[.bool g,.slice ao l ca,.int .i64 e],.agg #[.bool h,.slice bo k cb,.int .i64 f]] w fun r w'=>r=.returned (.int .i64 R)∧Below w.heap.size w w':=by
 go_enter Tryd.func124,Tryd.ntmps124
 go_upto_region 1 with fail
 have X:Has3 ((w.alloc (.cells #[.bool g,.slice ao l ca,.int .i64 e] 76)).alloc (.cells #[.bool h,.slice bo k cb,.int .i64 f] 76)).drew w.heap.size (.bool g) (.slice ao l ca) (.int .i64 e):=⟨by go_simp,by go_simp,by go_simp,by go_simp,by go_simp,by go_simp,by go_size⟩
 have Y:Has3 ((w.alloc (.cells #[.bool g,.slice ao l ca,.int .i64 e] 76)).alloc (.cells #[.bool h,.slice bo k cb,.int .i64 f] 76)).drew (w.heap.size+1) (.bool h) (.slice bo k cb) (.int .i64 f):=⟨by go_simp,by go_simp,by go_simp,by go_simp,by go_simp,by go_simp,by go_size⟩
 have HB:Below w.heap.size w ((w.alloc (.cells #[.bool g,.slice ao l ca,.int .i64 e] 76)).alloc (.cells #[.bool h,.slice bo k cb,.int .i64 f] 76)).drew:=by go_grown
 go_cut [14] from 10 to 13 (fun s14 wx=>s14=.bool true∧Below w.heap.size w wx∧Has3 wx w.heap.size (.bool g) (.slice ao l ca) (.int .i64 e)∧Has3 wx (w.heap.size+1) (.bool h) (.slice bo k cb) (.int .i64 f))
 case first =>
   go_region_held3 (fun w'=>w'.cell? ⟨w.heap.size,0,none⟩=some (.bool g)∧w'.cell? ⟨w.heap.size,1,none⟩=some (.slice ao l ca)∧w'.cell? ⟨w.heap.size,2,none⟩=some (.int .i64 e)∧w'.cell? ⟨w.heap.size+1,0,none⟩=some (.bool h)∧w'.cell? ⟨w.heap.size+1,1,none⟩=some (.slice bo k cb)∧w'.cell? ⟨w.heap.size+1,2,none⟩=some (.int .i64 f)) (first | exact⟨X.1,X.2.1,X.2.2.1,Y.1,Y.2.1,Y.2.2.1⟩ | go_keep)
     (first
       | (go_at_call_of 123 (Value.agg #[.bool g,.slice ao l ca,.int .i64 e]);refine (c1 _ HB).mono ?_;rintro _ w2 ⟨rfl,hb1⟩;replace X:=X.keep hb1;replace Y:=Y.keep hb1;replace HB:=later HB hb1;clear hb1)
       | (go_at_call_of 123 (Value.agg #[.bool h,.slice bo k cb,.int .i64 f]);refine (c2 _ HB).mono ?_;rintro _ w3 ⟨rfl,hb1⟩;replace X:=X.keep hb1;replace Y:=Y.keep hb1;replace HB:=later HB hb1;clear hb1))
   all_goals
     go_wp2_with fail
     go_meet
     case rel=>exact⟨by simp;exact (by simpa using hne),HB,X,Y⟩
 case rest =>
   clear X Y HB
   obtain⟨rfl,HB,X,Y⟩:=hcut
   go_upto_region 2 with fail
   replace X:=X.drew
   replace Y:=Y.drew
   replace HB:=HB.drew
   rcases hR with ⟨hlt,rfl⟩ | ⟨hlt,rfl⟩
   all_goals
     go_region_held3 (fun w'=>w'.cell? ⟨w.heap.size,0,none⟩=some (.bool g)∧w'.cell? ⟨w.heap.size,1,none⟩=some (.slice ao l ca)∧w'.cell? ⟨w.heap.size,2,none⟩=some (.int .i64 e)∧w'.cell? ⟨w.heap.size+1,0,none⟩=some (.bool h)∧w'.cell? ⟨w.heap.size+1,1,none⟩=some (.slice bo k cb)∧w'.cell? ⟨w.heap.size+1,2,none⟩=some (.int .i64 f)) (first | exact⟨X.1,X.2.1,X.2.2.1,Y.1,Y.2.1,Y.2.2.1⟩ | go_keep)
       (first
       | (go_at_call_of 123 (Value.agg #[.bool g,.slice ao l ca,.int .i64 e]);refine (c1 _ HB).mono ?_;rintro _ w2 ⟨rfl,hb1⟩;replace X:=X.keep hb1;replace Y:=Y.keep hb1;replace HB:=later HB hb1;clear hb1)
       | (go_at_call_of 123 (Value.agg #[.bool h,.slice bo k cb,.int .i64 f]);refine (c2 _ HB).mono ?_;rintro _ w3 ⟨rfl,hb1⟩;replace X:=X.keep hb1;replace Y:=Y.keep hb1;replace HB:=later HB hb1;clear hb1))
     all_goals
       go_wp2_with fail
       go_ret
       exact⟨rfl,HB⟩
set_option maxHeartbeats 1000000 in
theorem order_zero (g h:Bool) (ao bo:Option Addr) (l k ca cb:Nat) (e f s1 s2:Int) (w:World)
   (c1:∀W,Below w.heap.size w W→Calls Tryd.prog 123 #[.agg #[.bool g,.slice ao l ca,.int .i64 e]] W fun r w'=>r=.returned (.int .i64 s1)∧Below W.heap.size W w')
   (c2:∀W,Below w.heap.size w W→Calls Tryd.prog 123 #[.agg #[.bool h,.slice bo k cb,.int .i64 f]] W fun r w'=>r=.returned (.int .i64 s2)∧Below W.heap.size W w')
   (h1:s1=0) (h2:s2=0) (R:Int) (hR:R=0) :
   Calls Tryd.prog 124 #[.agg #[.bool g,.slice ao l ca,.int .i64 e],.agg #[.bool h,.slice bo k cb,.int .i64 f]] w fun r w'=>r=.returned (.int .i64 R)∧Below w.heap.size w w':=by
 subst h1 h2 hR
 go_enter Tryd.func124,Tryd.ntmps124
 go_upto_region 1 with fail
 have X:Has3 ((w.alloc (.cells #[.bool g,.slice ao l ca,.int .i64 e] 76)).alloc (.cells #[.bool h,.slice bo k cb,.int .i64 f] 76)).drew w.heap.size (.bool g) (.slice ao l ca) (.int .i64 e):=⟨by go_simp,by go_simp,by go_simp,by go_simp,by go_simp,by go_simp,by go_size⟩
 have Y:Has3 ((w.alloc (.cells #[.bool g,.slice ao l ca,.int .i64 e] 76)).alloc (.cells #[.bool h,.slice bo k cb,.int .i64 f] 76)).drew (w.heap.size+1) (.bool h) (.slice bo k cb) (.int .i64 f):=⟨by go_simp,by go_simp,by go_simp,by go_simp,by go_simp,by go_simp,by go_size⟩
 have HB:Below w.heap.size w ((w.alloc (.cells #[.bool g,.slice ao l ca,.int .i64 e] 76)).alloc (.cells #[.bool h,.slice bo k cb,.int .i64 f] 76)).drew:=by go_grown
 go_cut [14] from 10 to 13 (fun s14 wx=>s14=.bool false∧Below w.heap.size w wx∧Has3 wx w.heap.size (.bool g) (.slice ao l ca) (.int .i64 e)∧Has3 wx (w.heap.size+1) (.bool h) (.slice bo k cb) (.int .i64 f))
 case first =>
   go_region_held3 (fun w'=>w'.cell? ⟨w.heap.size,0,none⟩=some (.bool g)∧w'.cell? ⟨w.heap.size,1,none⟩=some (.slice ao l ca)∧w'.cell? ⟨w.heap.size,2,none⟩=some (.int .i64 e)∧w'.cell? ⟨w.heap.size+1,0,none⟩=some (.bool h)∧w'.cell? ⟨w.heap.size+1,1,none⟩=some (.slice bo k cb)∧w'.cell? ⟨w.heap.size+1,2,none⟩=some (.int .i64 f)) (first | exact⟨X.1,X.2.1,X.2.2.1,Y.1,Y.2.1,Y.2.2.1⟩ | go_keep)
     (first
       | (go_at_call_of 123 (Value.agg #[.bool g,.slice ao l ca,.int .i64 e]);refine (c1 _ HB).mono ?_;rintro _ w2 ⟨rfl,hb1⟩;replace X:=X.keep hb1;replace Y:=Y.keep hb1;replace HB:=later HB hb1;clear hb1)
       | (go_at_call_of 123 (Value.agg #[.bool h,.slice bo k cb,.int .i64 f]);refine (c2 _ HB).mono ?_;rintro _ w3 ⟨rfl,hb1⟩;replace X:=X.keep hb1;replace Y:=Y.keep hb1;replace HB:=later HB hb1;clear hb1))
   all_goals
     go_wp2_with fail
     go_meet
     case rel=>exact⟨rfl,HB,X,Y⟩
 case rest =>
   clear X Y HB
   obtain⟨rfl,HB,X,Y⟩:=hcut
   obtain⟨x0,x1,x2, -⟩:=X
   go_wp2_with (go_at_call 123;refine (c1 _ HB).mono ?_;rintro _ w2 ⟨rfl,hb1⟩;replace HB:=later HB hb1)
   go_ret
   exact⟨rfl,HB⟩
set_option maxHeartbeats 1000000 in
theorem order_bits (g h:Bool) (ao bo:Option Addr) (l k ca cb x y:Nat) (e f s1 s2:Int) (w:World)
   (c1:∀W,Below w.heap.size w W→Calls Tryd.prog 123 #[.agg #[.bool g,.slice ao l ca,.int .i64 e]] W fun r w'=>r=.returned (.int .i64 s1)∧Below W.heap.size W w')
   (c2:∀W,Below w.heap.size w W→Calls Tryd.prog 123 #[.agg #[.bool h,.slice bo k cb,.int .i64 f]] W fun r w'=>r=.returned (.int .i64 s2)∧Below W.heap.size W w')
   (b1:∀W,Below w.heap.size w W→Calls Tryd.prog 110 #[.slice ao l ca] W fun r w'=>r=.returned (.int .i64 (x:Int))∧W=w')
   (b2:∀W,Below w.heap.size w W→Calls Tryd.prog 110 #[.slice bo k cb] W fun r w'=>r=.returned (.int .i64 (y:Int))∧W=w')
   (hx:x≤2000000) (hy:y≤2000000) (he:-100000≤e∧e≤100000) (hf:-100000≤f∧f≤100000)
   (h1:s1=s2) (h2:(s1==0)=false) (R t:Int) (ht:(x:Int)+e<y+f∧t=-1∨(y:Int)+f<x+e∧t=1) (hR:R=if g then -t else t) :
   Calls Tryd.prog 124 #[.agg #[.bool g,.slice ao l ca,.int .i64 e],.agg #[.bool h,.slice bo k cb,.int .i64 f]] w fun r w'=>r=.returned (.int .i64 R)∧Below w.heap.size w w':=by
 subst h1
 go_enter Tryd.func124,Tryd.ntmps124
 go_upto_region 1 with fail
 have X:Has3 ((w.alloc (.cells #[.bool g,.slice ao l ca,.int .i64 e] 76)).alloc (.cells #[.bool h,.slice bo k cb,.int .i64 f] 76)).drew w.heap.size (.bool g) (.slice ao l ca) (.int .i64 e):=⟨by go_simp,by go_simp,by go_simp,by go_simp,by go_simp,by go_simp,by go_size⟩
 have Y:Has3 ((w.alloc (.cells #[.bool g,.slice ao l ca,.int .i64 e] 76)).alloc (.cells #[.bool h,.slice bo k cb,.int .i64 f] 76)).drew (w.heap.size+1) (.bool h) (.slice bo k cb) (.int .i64 f):=⟨by go_simp,by go_simp,by go_simp,by go_simp,by go_simp,by go_simp,by go_size⟩
 have HB:Below w.heap.size w ((w.alloc (.cells #[.bool g,.slice ao l ca,.int .i64 e] 76)).alloc (.cells #[.bool h,.slice bo k cb,.int .i64 f] 76)).drew:=by go_grown
 go_cut [14] from 10 to 13 (fun s14 wx=>s14=.bool false∧Below w.heap.size w wx∧Has3 wx w.heap.size (.bool g) (.slice ao l ca) (.int .i64 e)∧Has3 wx (w.heap.size+1) (.bool h) (.slice bo k cb) (.int .i64 f))
 case first =>
   go_region_held3 (fun w'=>w'.cell? ⟨w.heap.size,0,none⟩=some (.bool g)∧w'.cell? ⟨w.heap.size,1,none⟩=some (.slice ao l ca)∧w'.cell? ⟨w.heap.size,2,none⟩=some (.int .i64 e)∧w'.cell? ⟨w.heap.size+1,0,none⟩=some (.bool h)∧w'.cell? ⟨w.heap.size+1,1,none⟩=some (.slice bo k cb)∧w'.cell? ⟨w.heap.size+1,2,none⟩=some (.int .i64 f)) (first | exact⟨X.1,X.2.1,X.2.2.1,Y.1,Y.2.1,Y.2.2.1⟩ | go_keep)
     (first
       | (go_at_call_of 123 (Value.agg #[.bool g,.slice ao l ca,.int .i64 e]);refine (c1 _ HB).mono ?_;rintro _ w2 ⟨rfl,hb1⟩;replace X:=X.keep hb1;replace Y:=Y.keep hb1;replace HB:=later HB hb1;clear hb1)
       | (go_at_call_of 123 (Value.agg #[.bool h,.slice bo k cb,.int .i64 f]);refine (c2 _ HB).mono ?_;rintro _ w3 ⟨rfl,hb1⟩;replace X:=X.keep hb1;replace Y:=Y.keep hb1;replace HB:=later HB hb1;clear hb1))
   all_goals
     go_wp2_with fail
     go_meet
     case rel=>exact⟨by simp,HB,X,Y⟩
 case rest =>
   clear X Y HB
   obtain⟨rfl,HB,X,Y⟩:=hcut
   have x0:=X.1
   have x1:=X.2.1
   have x2:=X.2.2.1
   go_upto_region 7 with (go_at_call 123;refine (c1 _ HB).mono ?_;rintro _ w2 ⟨rfl,hb1⟩;replace X:=X.keep hb1;replace Y:=Y.keep hb1;replace HB:=later HB hb1;clear hb1)
   clear x0 x1 x2
   obtain⟨x0,x1,x2, -⟩:=X
   obtain⟨y0,y1,y2, -⟩:=Y
   go_quiet ((go_at_call 110;refine Calls.quiet_of_same (bits_turn (b1 _ (by first | exact HB | exact Go.below_drewN HB _)))))
   go_wp2_with fail
   have u0:(w2.drewN nq).cell? ⟨w.heap.size,0,none⟩=some (.bool g):=by go_simp
   have v1:(w2.drewN nq).cell? ⟨w.heap.size+1,1,none⟩=some (.slice bo k cb):=by go_simp
   have v2:(w2.drewN nq).cell? ⟨w.heap.size+1,2,none⟩=some (.int .i64 f):=by go_simp
   replace HB:=Go.below_drewN HB nq
   clear x0 x1 x2 y0 y1 y2
   generalize w2.drewN nq=W at *
   go_quiet ((go_at_call 110;refine Calls.quiet_of_same (bits_turn (b2 _ (by first | exact HB | exact Go.below_drewN HB _)))))
   rcases ht with ⟨hlt,rfl⟩ | ⟨hlt,rfl⟩
   all_goals
     cases g
     all_goals
       go_wp2
       go_ret
       exact⟨by first | exact rfl | (rw [hR];rfl),Go.below_drewN HB _⟩
set_option maxHeartbeats 1000000 in
theorem order_cmp (g h:Bool) (ao bo:Option Addr) (l k ca cb x y:Nat) (e f s1 s2:Int) (w:World)
   (c1:∀W,Below w.heap.size w W→Calls Tryd.prog 123 #[.agg #[.bool g,.slice ao l ca,.int .i64 e]] W fun r w'=>r=.returned (.int .i64 s1)∧Below W.heap.size W w')
   (c2:∀W,Below w.heap.size w W→Calls Tryd.prog 123 #[.agg #[.bool h,.slice bo k cb,.int .i64 f]] W fun r w'=>r=.returned (.int .i64 s2)∧Below W.heap.size W w')
   (b1:∀W,Below w.heap.size w W→Calls Tryd.prog 110 #[.slice ao l ca] W fun r w'=>r=.returned (.int .i64 (x:Int))∧W=w')
   (b2:∀W,Below w.heap.size w W→Calls Tryd.prog 110 #[.slice bo k cb] W fun r w'=>r=.returned (.int .i64 (y:Int))∧W=w')
   (hx:x≤2000000) (_hy:y≤2000000) (he:-100000≤e∧e≤100000) (_hf:-100000≤f∧f≤100000)
   (h1:s1=s2) (h2:(s1==0)=false) (m' n':Nat) (E:Int)
   (cl:∀W,Below w.heap.size w W→Calls Tryd.prog 127 #[.agg #[.bool g,.slice ao l ca,.int .i64 e],.agg #[.bool h,.slice bo k cb,.int .i64 f]] W fun r w' =>
     (∃v1 v2,r=.returned (.tuple #[.agg #[.bool g,v1,.int .i64 E],.agg #[.bool h,v2,.int .i64 E]])∧BigIs w' v1 m'∧BigIs w' v2 n')∧Below W.heap.size W w')
   (R t:Int) (cc:∀W v1 v2,BigIs W v1 m'→BigIs W v2 n'→Calls Tryd.prog 62 #[v1,v2] W fun r w'=>r=.returned (.int .i64 t)∧Below W.heap.size W w')
   (ht:(x:Int)+e=y+f) (ht2:t=-1∨t=0∨t=1) (hR:R=if g then -t else t) :
   Calls Tryd.prog 124 #[.agg #[.bool g,.slice ao l ca,.int .i64 e],.agg #[.bool h,.slice bo k cb,.int .i64 f]] w fun r w'=>r=.returned (.int .i64 R)∧Below w.heap.size w w':=by
 subst h1
 go_enter Tryd.func124,Tryd.ntmps124
 go_upto_region 1 with fail
 have X:Has3 ((w.alloc (.cells #[.bool g,.slice ao l ca,.int .i64 e] 76)).alloc (.cells #[.bool h,.slice bo k cb,.int .i64 f] 76)).drew w.heap.size (.bool g) (.slice ao l ca) (.int .i64 e):=⟨by go_simp,by go_simp,by go_simp,by go_simp,by go_simp,by go_simp,by go_size⟩
 have Y:Has3 ((w.alloc (.cells #[.bool g,.slice ao l ca,.int .i64 e] 76)).alloc (.cells #[.bool h,.slice bo k cb,.int .i64 f] 76)).drew (w.heap.size+1) (.bool h) (.slice bo k cb) (.int .i64 f):=⟨by go_simp,by go_simp,by go_simp,by go_simp,by go_simp,by go_simp,by go_size⟩
 have HB:Below w.heap.size w ((w.alloc (.cells #[.bool g,.slice ao l ca,.int .i64 e] 76)).alloc (.cells #[.bool h,.slice bo k cb,.int .i64 f] 76)).drew:=by go_grown
 go_cut [14] from 10 to 13 (fun s14 wx=>s14=.bool false∧Below w.heap.size w wx∧Has3 wx w.heap.size (.bool g) (.slice ao l ca) (.int .i64 e)∧Has3 wx (w.heap.size+1) (.bool h) (.slice bo k cb) (.int .i64 f))
 case first =>
   go_region_held3 (fun w'=>w'.cell? ⟨w.heap.size,0,none⟩=some (.bool g)∧w'.cell? ⟨w.heap.size,1,none⟩=some (.slice ao l ca)∧w'.cell? ⟨w.heap.size,2,none⟩=some (.int .i64 e)∧w'.cell? ⟨w.heap.size+1,0,none⟩=some (.bool h)∧w'.cell? ⟨w.heap.size+1,1,none⟩=some (.slice bo k cb)∧w'.cell? ⟨w.heap.size+1,2,none⟩=some (.int .i64 f)) (first | exact⟨X.1,X.2.1,X.2.2.1,Y.1,Y.2.1,Y.2.2.1⟩ | go_keep)
     (first
       | (go_at_call_of 123 (Value.agg #[.bool g,.slice ao l ca,.int .i64 e]);refine (c1 _ HB).mono ?_;rintro _ w2 ⟨rfl,hb1⟩;replace X:=X.keep hb1;replace Y:=Y.keep hb1;replace HB:=later HB hb1;clear hb1)
       | (go_at_call_of 123 (Value.agg #[.bool h,.slice bo k cb,.int .i64 f]);refine (c2 _ HB).mono ?_;rintro _ w3 ⟨rfl,hb1⟩;replace X:=X.keep hb1;replace Y:=Y.keep hb1;replace HB:=later HB hb1;clear hb1))
   all_goals
     go_wp2_with fail
     go_meet
     case rel=>exact⟨by simp,HB,X,Y⟩
 case rest =>
   clear X Y HB
   obtain⟨rfl,HB,X,Y⟩:=hcut
   have x0:=X.1
   have x1:=X.2.1
   have x2:=X.2.2.1
   go_upto_region 7 with (go_at_call 123;refine (c1 _ HB).mono ?_;rintro _ w2 ⟨rfl,hb1⟩;replace X:=X.keep hb1;replace Y:=Y.keep hb1;replace HB:=later HB hb1;clear hb1)
   clear x0 x1 x2
   have x1:=X.2.1
   have x2:=X.2.2.1
   go_quiet ((go_at_call 110;refine Calls.quiet_of_same (bits_turn (b1 _ (by first | exact HB | exact Go.below_drewN HB _)))))
   go_wp2_with fail
   replace X:=X.drewN nq
   replace Y:=Y.drewN nq
   replace HB:=Go.below_drewN HB nq
   clear x1 x2
   generalize w2.drewN nq=W at *
   have y1:=Y.2.1
   have y2:=Y.2.2.1
   go_quiet ((go_at_call 110;refine Calls.quiet_of_same (bits_turn (b2 _ (by first | exact HB | exact Go.below_drewN HB _)))))
   replace X:=X.drewN nq
   replace Y:=Y.drewN nq
   replace HB:=Go.below_drewN HB nq
   clear y1 y2
   generalize W.drewN nq=V at *
   obtain⟨x0,x1,x2, -, -, -,xl⟩:=X
   obtain⟨y0,y1,y2, -, -, -,yl⟩:=Y
   have HL1:¬(x:Int)+e<y+f:=by omega
   have HL2:¬(y:Int)+f<x+e:=by omega
   have ht2':-1≤t∧t≤1:=by omega
   clear ht ht2 b1 b2 c1 c2
   go_wp2_with (first
     | (go_at_call 127;refine (cl _ HB).mono ?_;rintro _ w4 ⟨⟨v1,v2,rfl,hv1,hv2⟩,hb1⟩
        obtain⟨o1,l1,p1,rfl, -⟩:=hv1.shape
        obtain⟨o2,l2,p2,rfl, -⟩:=hv2.shape
        have z0:w4.cell? ⟨w.heap.size,0,none⟩=some (.bool g):=keepsC hb1 x0 xl
        have zl:w.heap.size<w4.heap.size:=Nat.lt_of_lt_of_le xl hb1.size
        replace HB:=later HB hb1)
     | (go_at_call 62;refine (cc _ _ _ (hv1.keep (by go_grown)) (hv2.keep (by go_grown))).mono ?_;rintro _ w5 ⟨rfl,hb5⟩
        have z5:w5.cell? ⟨w.heap.size,0,none⟩=some (.bool g):=keepsC hb5 (by go_simp) (by go_size)
        have HB5:Below w.heap.size w w5:=later (later HB (by go_grown)) hb5))
   all_goals
     go_ret
     refine⟨congrArg (fun z=>Ending.returned (Value.int .i64 z)) (?_:_=R),HB5⟩
     rw [hR]
     simp [*]
def sgnd (g:Bool) (A:Nat):Int:=if g then -(A:Int) else (A:Int)
def cmpZ (x y:Int):Int:=if x<y then -1 else if y<x then 1 else 0
theorem sgnd_sign {g:Bool} {m A:Nat} (h:A=0↔m=0):(signZ g m<0↔sgnd g A<0)∧(signZ g m=0↔sgnd g A=0)∧(0<signZ g m↔0<sgnd g A)∧(signZ g m=-1∨signZ g m=0∨signZ g m=1):=by
 unfold signZ sgnd
 by_cases h0:m=0
 · have:=h.2 h0
   subst this
   rw [if_pos h0]
   cases g <;> simp
 · have:A≠0:=fun c=>h0 (h.1 c)
   rw [if_neg h0]
   cases g <;> simp <;> omega
theorem scale_zero (m t:Nat):m*2^t=0↔m=0:=by
 have:=Nat.two_pow_pos t
 constructor
 · intro h
   rcases Nat.mul_eq_zero.1 h with c | c
   · exact c
   · omega
 · intro h;rw [h,Nat.zero_mul]
theorem zord_differ {g h:Bool} {m n A B:Nat} (hA:A=0↔m=0) (hB:B=0↔n=0) (hne:signZ g m≠signZ h n) :
   signZ g m<signZ h n∧cmpZ (sgnd g A) (sgnd h B)=-1∨¬signZ g m<signZ h n∧cmpZ (sgnd g A) (sgnd h B)=1:=by
 obtain⟨a1,a2,a3,a4⟩:=sgnd_sign (g:=g) hA
 obtain⟨b1,b2,b3,b4⟩:=sgnd_sign (g:=h) hB
 generalize sgnd g A=x at *
 generalize sgnd h B=y at *
 unfold cmpZ
 by_cases c:signZ g m<signZ h n
 · left
   refine⟨c,if_pos ?_⟩
   omega
 · right
   refine⟨c, ?_⟩
   rw [if_neg (by omega),if_pos (by omega)]
theorem zord_zero {g h:Bool} {m n A B:Nat} (hA:A=0↔m=0) (hB:B=0↔n=0) (h1:signZ g m=0) (h2:signZ h n=0):cmpZ (sgnd g A) (sgnd h B)=0:=by
 obtain⟨a1,a2,a3,a4⟩:=sgnd_sign (g:=g) hA
 obtain⟨b1,b2,b3,b4⟩:=sgnd_sign (g:=h) hB
 unfold cmpZ
 rw [if_neg (by omega),if_neg (by omega)]
theorem cmpZ_sgnd (g:Bool) (A B:Nat):cmpZ (sgnd g A) (sgnd g B)=if g then -(cmpN A B) else cmpN A B:=by
 unfold cmpZ sgnd cmpN
 cases g
 · simp only [Bool.false_eq_true,if_false]
   by_cases h1:A<B
   · rw [if_pos (by omega),if_pos h1]
   · rw [if_neg (by omega),if_neg h1]
     by_cases h2:B<A
     · rw [if_pos (by omega),if_pos h2]
     · rw [if_neg (by omega),if_neg h2]
 · simp only [if_true]
   by_cases h1:A<B
   · rw [if_neg (by omega),if_pos (by omega),if_pos h1];rfl
   · rw [if_neg h1]
     by_cases h2:B<A
     · rw [if_pos (by omega),if_pos h2]
     · rw [if_neg (by omega),if_neg (by omega),if_neg h2];rfl
theorem cmpN_scale (m n t:Nat):cmpN (m*2^t) (n*2^t)=cmpN m n:=by
 have hp:=Nat.two_pow_pos t
 unfold cmpN
 simp only [Nat.mul_lt_mul_right hp]
theorem bits_less {m n t u:Nat} (hm:m≠0) (hn:n≠0) (h:bitsN m+t<bitsN n+u):m*2^t<n*2^u:=by
 obtain⟨a,ha,a1,a2⟩:=bitsN_low hm
 obtain⟨b,hb,b1,b2⟩:=bitsN_low hn
 have h1:=Nat.mul_lt_mul_of_pos_right a2 (Nat.two_pow_pos t)
 have h2:=Nat.mul_le_mul_right (2^u) b1
 rw [←Nat.pow_add] at h1 h2
 have h3:=Nat.pow_le_pow_right (show 2>0 by omega) (show a+1+t≤b+u by omega)
 omega
theorem sign_eq {g h:Bool} {m n:Nat} (he:signZ g m=signZ h n) (h0:signZ g m≠0):m≠0∧n≠0∧g=h:=by
 unfold signZ at *
 by_cases c1:m=0
 · rw [if_pos c1] at h0;exact absurd rfl h0
 · by_cases c2:n=0
   · rw [if_pos c2] at he;rw [he] at h0;exact absurd rfl h0
   · rw [if_neg c1,if_neg c2] at he
     refine⟨c1,c2, ?_⟩
     cases g <;> cases h <;> simp at he ⊢
theorem zord_bits {g:Bool} {m n t u:Nat} (hm:m≠0) (hn:n≠0) :
   (bitsN m+t<bitsN n+u→cmpZ (sgnd g (m*2^t)) (sgnd g (n*2^u))=if g then -(-1) else -1)∧(bitsN n+u<bitsN m+t→cmpZ (sgnd g (m*2^t)) (sgnd g (n*2^u))=if g then -1 else 1):=by
 rw [cmpZ_sgnd]
 constructor
 · intro h
   have:=bits_less hm hn h
   have e:cmpN (m*2^t) (n*2^u)=-1:=by unfold cmpN;rw [if_pos this]
   rw [e]
 · intro h
   have:=bits_less hn hm h
   have e:cmpN (m*2^t) (n*2^u)=1:=by unfold cmpN;rw [if_neg (by omega),if_pos this]
   rw [e]
theorem bitsN_le {m K:Nat} (h:m<2^K):bitsN m≤K:=by
 rcases Nat.eq_zero_or_pos m with c | c
 · subst c;simp [bitsN]
 · obtain⟨b,hb,b1,b2⟩:=bitsN_low (show m≠0 by omega)
   have:=(Nat.pow_lt_pow_iff_right (show 1<2 by omega)).1 (Nat.lt_of_le_of_lt b1 h)
   omega
theorem pow_scale {m K t u:Nat} (h:m<2^K) (ht:t≤u):m*2^t<2^(K+u):=by
 have h1:=Nat.mul_lt_mul_of_pos_right h (Nat.two_pow_pos t)
 rw [←Nat.pow_add] at h1
 have:=Nat.pow_le_pow_right (show 2>0 by omega) (show K+t≤K+u by omega)
 omega
theorem cmpN_cases (m n:Nat):cmpN m n=-1∨cmpN m n=0∨cmpN m n=1:=by unfold cmpN;split <;> (try split) <;> simp
theorem order_w (g h:Bool) (va vb:Value) (m n K:Nat) (e f S:Int) (hK:K≤500000) (hm:m<2^K) (hn:n<2^K) (hS:-50000≤S) (he:S≤e∧e≤50000) (hf:S≤f∧f≤50000) (w:World) (ha:BigIs w va m) (hb:BigIs w vb n) :
   Calls Tryd.prog 124 #[.agg #[.bool g,va,.int .i64 e],.agg #[.bool h,vb,.int .i64 f]] w fun r w' =>
     r=.returned (.int .i64 (cmpZ (sgnd g (m*2^(e-S).toNat)) (sgnd h (n*2^(f-S).toNat))))∧Below w.heap.size w w':=by
 have c1:=fun W (hW:Below w.heap.size w W)=>sign_w g va m e W (ha.keep hW)
 have c2:=fun W (hW:Below w.heap.size w W)=>sign_w h vb n f W (hb.keep hW)
 have b1:=fun W (hW:Below w.heap.size w W)=>bits_w va m K (by omega) hm W (ha.keep hW)
 have b2:=fun W (hW:Below w.heap.size w W)=>bits_w vb n K (by omega) hn W (hb.keep hW)
 have cl:=fun W (hW:Below w.heap.size w W)=>level_w g h va vb m n K e f (by omega) hm hn (by omega) (by omega) W (ha.keep hW) (hb.keep hW)
 have x1:=bitsN_le hm
 have x2:=bitsN_le hn
 obtain⟨ao,l,ca,rfl, -⟩:=ha.shape
 obtain⟨bo,k,cb,rfl, -⟩:=hb.shape
 by_cases hne:signZ g m=signZ h n
 · by_cases h0:signZ g m=0
   · exact order_zero g h ao bo l k ca cb e f _ _ w c1 c2 h0 (hne ▸ h0) _ (zord_zero (scale_zero m _) (scale_zero n _) h0 (hne ▸ h0))
   · obtain⟨m0,n0,rfl⟩:=sign_eq hne h0
     have h0':(signZ g m==0)=false:=by rw [beq_eq_false_iff_ne];exact h0
     rcases Int.lt_trichotomy ((bitsN m:Int)+e) ((bitsN n:Int)+f) with c | c | c
     · exact order_bits g g ao bo l k ca cb _ _ e f _ _ w c1 c2 b1 b2 (by omega) (by omega) (by omega) (by omega) hne h0' _ (-1) (Or.inl ⟨c,rfl⟩) ((zord_bits m0 n0).1 (by omega))
     · have e1:(e-S).toNat=(e-min e f).toNat+(min e f-S).toNat:=by omega
       have e2:(f-S).toNat=(f-min e f).toNat+(min e f-S).toNat:=by omega
       have hc:cmpZ (sgnd g (m*2^(e-S).toNat)) (sgnd g (n*2^(f-S).toNat))=if g then -(cmpN (m*2^(e-min e f).toNat) (n*2^(f-min e f).toNat)) else cmpN (m*2^(e-min e f).toNat) (n*2^(f-min e f).toNat):=by
         rw [cmpZ_sgnd,e1,e2,Nat.pow_add,Nat.pow_add,←Nat.mul_assoc,←Nat.mul_assoc,cmpN_scale]
       exact order_cmp g g ao bo l k ca cb _ _ e f _ _ w c1 c2 b1 b2 (by omega) (by omega) (by omega) (by omega) hne h0' _ _ _ cl _ _ (fun W v1 v2 h1 h2=>cmp_w v1 v2 _ _ (K+100000) (by omega) (pow_scale hm (by omega)) (pow_scale hn (by omega)) W h1 h2) c (cmpN_cases _ _) hc
     · exact order_bits g g ao bo l k ca cb _ _ e f _ _ w c1 c2 b1 b2 (by omega) (by omega) (by omega) (by omega) hne h0' _ 1 (Or.inr ⟨c,rfl⟩) ((zord_bits m0 n0).2 (by omega))
 · have h0':(signZ g m==signZ h n)=false:=by rw [beq_eq_false_iff_ne];exact hne
   exact order_differ g h ao bo l k ca cb e f _ _ w c1 c2 h0' _ (zord_differ (scale_zero m _) (scale_zero n _) hne)
end Go.Proofs.YtgocelaghggpmaaDoor
