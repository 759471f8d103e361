/- The reference's numbers between two: cut, pair. -/
import Derived.Test.YtopfabemfbdccaaGreatZe07
import Derived.Test.YtopfabemfbdccaaGreatZe11
namespace Go.Proofs.YtopfabemfbdccaaGreat
open Go.ChangeShapes Go.WideShapes Go.ChangeAt Go.RowKit
def cutX (a:Nm) (lo:Bool):Nm:=if bitsN a.m≤192 then a else ⟨a.g,a.m/2^(bitsN a.m-192)+(if lo=a.g then 1 else 0),a.e+((bitsN a.m-192:Nat):Int)⟩
def dirZ (lo:Bool):Int:=if lo then -1 else 1
set_option maxHeartbeats 2000000 in
theorem cut_short {g:Bool} {ao:Option Addr} {l ca m:Nat} {e:Int} (K:Nat) (hK:K≤1000000) (hm:m<2^K) (dir:Int) (hb:bitsN m≤192) (w:World) (ha:BigIs w (.slice ao l ca) m) :
   Calls Tryz.prog 146 #[.agg #[.bool g,.slice ao l ca,.int .i64 e],.int .i64 dir] w fun r w'=>r=.returned (.agg #[.bool g,.slice ao l ca,.int .i64 e])∧Below w.heap.size w w':=by
 have cb:=fun W (hW:Below w.heap.size w W)=>bits_w (.slice ao l ca) m K hK hm W (ha.keep hW)
 have hle:(bitsN m:Int)-192≤0:=by omega
 have hbl:(bitsN m:Int)≤192:=by omega
 generalize bitsN m=N at *
 go_enter Tryz.func146,Tryz.ntmps146
 go_wp2_with (go_at_call 87;refine (cb _ (by go_grown)).mono ?_;rintro _ _ ⟨rfl,rfl⟩)
 refine bodyPost_ret (v:=.agg #[.bool g,.slice ao l ca,.int .i64 e]) (by simp [results,Tryz.results146,go_sem, *]) rfl ⟨rfl,by go_grown⟩
set_option maxHeartbeats 4000000 in
theorem cut_long {g:Bool} {ao:Option Addr} {l ca m:Nat} {e:Int} (he:-100000≤e∧e≤100000) (K:Nat) (hK:K≤100000) (hm:m<2^K) (lo:Bool) (dir:Int) (hd:dir=dirZ lo) (n:Nat) (hb:bitsN m=192+n) (hn:0<n) (w:World) (ha:BigIs w (.slice ao l ca) m) :
   Calls Tryz.prog 146 #[.agg #[.bool g,.slice ao l ca,.int .i64 e],.int .i64 dir] w fun r w'=>(∃v,r=.returned (.agg #[.bool g,v,.int .i64 (e+n)])∧BigIs w' v (m/2^n+(if lo=g then 1 else 0)))∧Below w.heap.size w w':=by
 have hbk:=bitsN_le hm
 have cb:=fun W (hW:Below w.heap.size w W)=>bits_w (.slice ao l ca) m K (by omega) hm W (ha.keep hW)
 have cr:=fun W (hW:Below w.heap.size w W)=>rshift_w (.slice ao l ca) m n (n/32) (n%32) K (by omega) hm (by omega) (by omega) (by omega) W (ha.keep hW)
 have hq:m/2^n<2^K:=Nat.lt_of_le_of_lt (Nat.div_le_self _ _) hm
 have c1:=fun W=>of_w 1 (by omega) W
 have one:(1:Nat)<2^K:=by
   have:2^1≤2^K:=Nat.pow_le_pow_right (by omega) (by omega)
   omega
 have cb2:∀W,Below w.heap.size w W→Calls Tryz.prog 87 #[.slice ao l ca] W fun e w'=>e=.returned (.int .i64 ((n:Int)+192))∧W=w':=fun W hW=>by
   have:=cb W hW
   rw [hb,show ((192+n:Nat):Int)=(n:Int)+192 by omega] at this
   exact this
 clear cb
 generalize m/2^n=M at *
 have cp:=fun W v1 v2 (q1:BigIs W v1 M) (q2:BigIs W v2 1)=>plus_w v1 v2 M 1 K (by omega) hq one W q1 q2
 have hnb:(n:Int)≤100000:=by omega
 have hn1:(0:Int)≤(n:Int):=by omega
 obtain⟨he1,he2⟩:=he
 have hle:¬(n:Int)≤0:=by omega
 clear hb hm hq one hbk hn hK
 have X:Has3 ((w.alloc (.cells #[.bool g,.slice ao l ca,.int .i64 e] 29)).alloc (.cells #[.bool false,.slice none 0 0,.int .i64 0] 29)) w.heap.size (.bool g) (.slice ao l ca) (.int .i64 e):=⟨by go_simp,by go_simp,by go_simp,by go_simp,by go_simp,by go_simp,by go_size⟩
 have R:Has3 ((w.alloc (.cells #[.bool g,.slice ao l ca,.int .i64 e] 29)).alloc (.cells #[.bool false,.slice none 0 0,.int .i64 0] 29)) (w.heap.size+1) (.bool false) (.slice none 0 0) (.int .i64 0):=⟨by go_simp,by go_simp,by go_simp,by go_simp,by go_simp,by go_simp,by go_size⟩
 have B:=Boxed.new (w.alloc (.cells #[.bool g,.slice ao l ca,.int .i64 e] 29)) #[.bool false,.slice none 0 0,.int .i64 0]
 simp only [World.size_alloc] at B
 have HB:Below w.heap.size w ((w.alloc (.cells #[.bool g,.slice ao l ca,.int .i64 e] 29)).alloc (.cells #[.bool false,.slice none 0 0,.int .i64 0] 29)):=by go_grown
 subst hd
 unfold dirZ
 cases lo <;> cases g
 all_goals
   try simp only [if_true,if_false,Bool.false_eq_true]
   go_enter Tryz.func146,Tryz.ntmps146
   go_upto_region 1 with fail
   generalize ((w.alloc _).alloc _)=V1 at *
   obtain⟨x0,x1,x2,x3,x4,x5,xl⟩:=id X
   obtain⟨r0,r1,r2,r3,r4,r5,rl⟩:=id R
   go_wp2_with (first
     | (go_at_call 87;refine (cb2 _ HB).mono ?_;rintro _ _ ⟨rfl,rfl⟩)
     | (go_at_call 209;refine (cr _ HB).mono ?_;rintro _ V2 ⟨⟨v2,rfl,hv⟩,hb1⟩;obtain⟨o2,k2,c2,rfl, -⟩:=hv.shape;replace X:=X.keep hb1;replace R:=R.keep hb1;replace B:=B.keep hb1;replace HB:=later HB hb1;clear hb1 x0 x1 x2 x3 x4 x5 xl r0 r1 r2 r3 r4 r5 rl;obtain⟨x0,x1,x2,x3,x4,x5,xl⟩:=id X;obtain⟨r0,r1,r2,r3,r4,r5,rl⟩:=id R)
     | (go_at_call 90;refine (c1 _).mono ?_;rintro _ V3 ⟨⟨v3,rfl,h1⟩,hb1⟩;obtain⟨o3,k3,c3,rfl, -⟩:=h1.shape;replace X:=X.keep hb1;replace R:=R.keep hb1;replace B:=B.keep hb1;replace HB:=later HB hb1;replace hv:=hv.keep hb1;clear hb1 x0 x1 x2 x3 x4 x5 xl r0 r1 r2 r3 r4 r5 rl;obtain⟨x0,x1,x2,x3,x4,x5,xl⟩:=id X;obtain⟨r0,r1,r2,r3,r4,r5,rl⟩:=id R)
     | (go_at_call 145;refine (cp _ _ _ hv h1).mono ?_;rintro _ V4 ⟨⟨v4,rfl,hw⟩,hb1⟩;obtain⟨o4,k4,c4,rfl, -⟩:=hw.shape;replace X:=X.keep hb1;replace R:=R.keep hb1;replace B:=B.keep hb1;replace HB:=later HB hb1;clear hb1 x0 x1 x2 x3 x4 x5 xl r0 r1 r2 r3 r4 r5 rl;obtain⟨x0,x1,x2,x3,x4,x5,xl⟩:=id X;obtain⟨r0,r1,r2,r3,r4,r5,rl⟩:=id R))
 · refine bodyPost_ret (v:=.agg #[.bool false,.slice o4 k4 c4,.int .i64 (e+n)]) (by simp [results,Tryz.results146,go_sem, *]) rfl ⟨⟨_,rfl, ?_⟩, ?_⟩
   all_goals repeat' (first | (with_reducible exact hw) | (with_reducible exact HB) | (with_reducible exact B) | (with_reducible refine BigIs.put ?_ ?_ _ _) | (with_reducible refine Boxed.set ?_ _ _ _) | (with_reducible refine Below.setCell ?_ ?_ _) | go_size)
 · refine bodyPost_ret (v:=.agg #[.bool true,.slice o2 k2 c2,.int .i64 (e+n)]) (by simp [results,Tryz.results146,go_sem, *]) rfl ⟨⟨_,rfl, ?_⟩, ?_⟩
   all_goals repeat' (first | (with_reducible exact hv) | (with_reducible exact HB) | (with_reducible exact B) | (with_reducible refine BigIs.put ?_ ?_ _ _) | (with_reducible refine Boxed.set ?_ _ _ _) | (with_reducible refine Below.setCell ?_ ?_ _) | go_size)
 · refine bodyPost_ret (v:=.agg #[.bool false,.slice o2 k2 c2,.int .i64 (e+n)]) (by simp [results,Tryz.results146,go_sem, *]) rfl ⟨⟨_,rfl, ?_⟩, ?_⟩
   all_goals repeat' (first | (with_reducible exact hv) | (with_reducible exact HB) | (with_reducible exact B) | (with_reducible refine BigIs.put ?_ ?_ _ _) | (with_reducible refine Boxed.set ?_ _ _ _) | (with_reducible refine Below.setCell ?_ ?_ _) | go_size)
 · refine bodyPost_ret (v:=.agg #[.bool true,.slice o4 k4 c4,.int .i64 (e+n)]) (by simp [results,Tryz.results146,go_sem, *]) rfl ⟨⟨_,rfl, ?_⟩, ?_⟩
   all_goals repeat' (first | (with_reducible exact hw) | (with_reducible exact HB) | (with_reducible exact B) | (with_reducible refine BigIs.put ?_ ?_ _ _) | (with_reducible refine Boxed.set ?_ _ _ _) | (with_reducible refine Below.setCell ?_ ?_ _) | go_size)
theorem cut_m {w:World} {x:Value} {a:Nm} (ha:NI w x a) (sa:Sm a) (lo:Bool) :
   Calls Tryz.prog 146 #[x,.int .i64 (dirZ lo)] w fun r w'=>(∃v,r=.returned v∧NI w' v (cutX a lo))∧Below w.heap.size w w':=by
 have ha':=ha
 obtain⟨ao,l,ca,rfl, -,a2⟩:=ha.shape
 obtain⟨g,m,e⟩:=a
 obtain⟨p1,p2,p3⟩:=sa
 unfold cutX
 simp only at *
 by_cases c:bitsN m≤192
 · rw [if_pos c]
   refine (cut_short 2000 (by omega) p1 _ c w a2).mono ?_
   rintro _ w' ⟨rfl,hb⟩
   exact⟨⟨_,rfl,ha'.keep hb⟩,hb⟩
 · rw [if_neg c]
   refine (cut_long (by omega) 2000 (by omega) p1 lo _ rfl (bitsN m-192) (by omega) (by omega) w a2).mono ?_
   rintro _ w' ⟨⟨v,rfl,hv⟩,hb⟩
   exact⟨⟨_,rfl,v,rfl,hv⟩,hb⟩
end Go.Proofs.YtopfabemfbdccaaGreat
