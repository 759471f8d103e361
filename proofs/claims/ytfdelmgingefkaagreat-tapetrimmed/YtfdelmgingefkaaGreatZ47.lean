/- Trimming: the program's movedTo and needed. -/
import Derived.Test.YtfdelmgingefkaaGreatZ46
namespace Go.Proofs.YtfdelmgingefkaaGreat
open Go.ChangeShapes Go.WideShapes Go.ChangeAt Go.RowKit
structure Has6 (w:World) (b:Nat) (x:Opw):Prop where
 c0:w.cell? ⟨b,0,none⟩=some (.int .i64 x.k)
 c1:w.cell? ⟨b,1,none⟩=some (.int .i64 x.a)
 c2:w.cell? ⟨b,2,none⟩=some (.int .i64 x.b)
 c3:w.cell? ⟨b,3,none⟩=some (.int .i64 x.n)
 c4:w.cell? ⟨b,4,none⟩=some (.float .f64 x.lo)
 c5:w.cell? ⟨b,5,none⟩=some (.float .f64 x.hi)
 f0:w.frozen? ⟨b,0,none⟩=false
 f1:w.frozen? ⟨b,1,none⟩=false
 f2:w.frozen? ⟨b,2,none⟩=false
 f3:w.frozen? ⟨b,3,none⟩=false
 f4:w.frozen? ⟨b,4,none⟩=false
 f5:w.frozen? ⟨b,5,none⟩=false
 lt:b<w.heap.size
theorem Has6.keep {w w2:World} {b:Nat} {x:Opw} (h:Has6 w b x) (hb:Below w.heap.size w w2):Has6 w2 b x :=
 ⟨keepsC hb h.c0 h.lt,keepsC hb h.c1 h.lt,keepsC hb h.c2 h.lt,keepsC hb h.c3 h.lt,keepsC hb h.c4 h.lt,keepsC hb h.c5 h.lt,keepsF hb h.f0 h.lt,keepsF hb h.f1 h.lt,keepsF hb h.f2 h.lt,keepsF hb h.f3 h.lt,keepsF hb h.f4 h.lt,keepsF hb h.f5 h.lt,Nat.lt_of_lt_of_le h.lt hb.size⟩
theorem has6_new (w:World) (x:Opw):Has6 (w.alloc (.cells #[.int .i64 x.k,.int .i64 x.a,.int .i64 x.b,.int .i64 x.n,.float .f64 x.lo,.float .f64 x.hi] 80)) w.heap.size x :=
 ⟨by go_simp,by go_simp,by go_simp,by go_simp,by go_simp,by go_simp,by go_simp,by go_simp,by go_simp,by go_simp,by go_simp,by go_simp,by go_size⟩
theorem Has6.alloc {w:World} {b:Nat} {x:Opw} (h:Has6 w b x) (o:Obj):Has6 (w.alloc o) b x:=h.keep (below_alloc (Below.refl _ _) o)
def zeroO:Opw:=⟨0,0,0,0,0,0⟩
set_option maxHeartbeats 2000000 in
theorem moved_core (o mv:Opw) (g n:Nat) (za zb:Int) (w:World)
   (ca:∀w2,Below w.heap.size w w2→Calls Tryz.prog 129 #[o.val,.slice (some ⟨g,0,none⟩) n n] w2 fun e w'=>e=.returned (.tuple #[.int .i64 za,.int .i64 zb])∧Below w2.heap.size w2 w')
   (hm:mv={ k:=o.k,a:=za,b:=zb,n:=if o.k=2∨o.k=8 then o.n else 0,lo:=if o.k=1 then o.lo else 0,hi:=if o.k=1 then o.hi else 0 }) :
   Calls Tryz.prog 70 #[.slice (some ⟨g,0,none⟩) n n,o.val] w fun e w'=>e=.returned mv.val∧Below w.heap.size w w':=by
 have hq:o.k=1∨o.k=2∨o.k=8∨(o.k≠1∧o.k≠2∧o.k≠8):=by omega
 have P:=((has6_new w o).alloc (.cells #[.int .i64 0,.int .i64 0,.int .i64 0,.int .i64 0,.float .f64 0,.float .f64 0] 80)).alloc (.cells #[.int .i64 o.k,.int .i64 0,.int .i64 0,.int .i64 0,.float .f64 0,.float .f64 0] 80)
 have R:=(has6_new (w.alloc (.cells #[.int .i64 o.k,.int .i64 o.a,.int .i64 o.b,.int .i64 o.n,.float .f64 o.lo,.float .f64 o.hi] 80)) zeroO).alloc (.cells #[.int .i64 o.k,.int .i64 0,.int .i64 0,.int .i64 0,.float .f64 0,.float .f64 0] 80)
 have M:=has6_new ((w.alloc (.cells #[.int .i64 o.k,.int .i64 o.a,.int .i64 o.b,.int .i64 o.n,.float .f64 o.lo,.float .f64 o.hi] 80)).alloc (.cells #[.int .i64 0,.int .i64 0,.int .i64 0,.int .i64 0,.float .f64 0,.float .f64 0] 80)) ⟨o.k,0,0,0,0,0⟩
 have HB:Below w.heap.size w (((w.alloc (.cells #[.int .i64 o.k,.int .i64 o.a,.int .i64 o.b,.int .i64 o.n,.float .f64 o.lo,.float .f64 o.hi] 80)).alloc (.cells #[.int .i64 0,.int .i64 0,.int .i64 0,.int .i64 0,.float .f64 0,.float .f64 0] 80)).alloc (.cells #[.int .i64 o.k,.int .i64 0,.int .i64 0,.int .i64 0,.float .f64 0,.float .f64 0] 80)):=by go_grown
 unfold zeroO at R
 dsimp only at R M
 simp only [World.size_alloc] at R M
 rcases hq with q | q | q | ⟨q1,q2,q8⟩
 case' inl=>rw [if_neg (by omega),if_pos q,if_pos q] at hm
 case' inr.inl=>rw [if_pos (.inl q),if_neg (by omega),if_neg (by omega)] at hm
 case' inr.inr.inl=>rw [if_pos (.inr q),if_neg (by omega),if_neg (by omega)] at hm
 case' inr.inr.inr=>rw [if_neg (by omega),if_neg q1,if_neg q1] at hm
 all_goals
   subst hm
   unfold Opw.val at *
   try rw [q] at ca P R M HB ⊢
   go_enter Tryz.func70,Tryz.ntmps70
   go_wp2_with (go_at_call 129;with_reducible refine (ca _ HB).mono ?_;rintro _ w1 ⟨rfl,hb1⟩
                replace P:=P.keep hb1
                replace R:=R.keep hb1
                replace M:=M.keep hb1
                replace HB:=later HB hb1
                clear hb1 ca
                obtain⟨p0,p1,p2,p3,p4,p5, -, -, -, -, -, -,pl⟩:=P
                obtain⟨r0,r1,r2,r3,r4,r5,s0,s1,s2,s3,s4,s5,rl⟩:=R
                obtain⟨m0,m1,m2,m3,m4,m5,n0,n1,n2,n3,n4,n5,ml⟩:=M
                dsimp only at r0 r1 r2 r3 r4 r5 m0 m1 m2 m3 m4 m5
                try rw [q] at p0)
   refine bodyPost_ret (v:=.agg #[_,_,_,_,_,_]) (by simp [results,Tryz.results70,go_sem, *]) rfl ⟨rfl, ?_⟩
   repeat' (first | (with_reducible exact HB) | (with_reducible refine Below.setCell ?_ ?_ _) | omega | go_size)
end Go.Proofs.YtfdelmgingefkaaGreat
