/- The walk of the reference's Div of intervals. The reference's Div answers as the program's; IvalQuotients' walk. The three series as functions of words. The odd shares as a function of words. Small functions of elem: counted, quarters. -/
import Derived.Test.YtfdelmgingefkaaGreatZ32
import Derived.Test.YtfdelmgingefkaaGreatZ19
import Derived.Test.YtfdelmgingefkaaGreatZ30
import Derived.Test.YtfdelmgingefkaaGreatZ31
namespace Go.Proofs.YtfdelmgingefkaaGreat
open Go.ChangeShapes Go.WideShapes Go.ChangeAt Go.RowKit
theorem divP_lt {xl xh yl yh:Nat} (h1:xl<18446744073709551616) (h2:xh<18446744073709551616) (h3:yl<18446744073709551616) (h4:yh<18446744073709551616):(divP xl xh yl yh).1<18446744073709551616∧(divP xl xh yl yh).2<18446744073709551616:=by
 have h0:=infI_lt 1
 have h0':=infI_lt (-1)
 unfold divP
 cases hs:hsB xl xh&&hsB yl yh
 · rw [if_pos rfl];exact⟨h0,h0'⟩
 · rw [if_neg (by simp)]
   obtain⟨hx,hy⟩:=Bool.and_eq_true_iff.1 hs
   have S:=hs_iff.1 hx
   have T:=hs_iff.1 hy
   have ky:=T.le
   obtain⟨S',k1,k2,l1,l2⟩:=mirror_some h1 h2 S
   obtain⟨T',k3,k4,l3,l4⟩:=mirror_some h3 h4 T
   by_cases cy:key yl=0∧key yh=0
   · rw [if_pos cy];exact⟨h0,h0'⟩
   · rw [if_neg cy]
     by_cases cx:key xl=0∧key xh=0
     · rw [if_pos cx];exact⟨by omega,by omega⟩
     · rw [if_neg cx]
       by_cases p1:0≤key yl
       · rw [if_pos p1]
         obtain⟨-, -, -,b3,b4, -, -⟩:=shrink_w h1 h2 h3 h4 S T p1 (by omega)
         exact makeP_lt b3 (negB_lt b4)
       · rw [if_neg p1]
         by_cases p2:key yh≤0
         · rw [if_pos p2]
           obtain⟨-, -, -,b3,b4, -, -⟩:=shrink_w l1 l2 l3 l4 S' T' (by omega) (by omega)
           exact makeP_lt b3 (negB_lt b4)
         · rw [if_neg p2];exact⟨h0',h0⟩
set_option maxHeartbeats 1000000 in
theorem pow_core (r1 r2:Nat) (o t s:Nat×Nat)
   (c1:∀w,Calls Tryz.prog 57 #[.float .f64 4607182418800017408] w fun e w'=>e=.returned (.agg #[.float .f64 o.1,.float .f64 o.2])∧Below w.heap.size w w')
   (c2:∀w,Calls Tryz.prog 153 #[] w fun e w'=>e=.returned (.agg #[.float .f64 t.1,.float .f64 t.2])∧Below w.heap.size w w')
   (c3:∀a b W,Has2 W a (.float .f64 o.1) (.float .f64 o.2)→Has2 W b (.float .f64 r1) (.float .f64 r2)→Calls Tryz.prog 152 #[.int .i64 16,.agg #[.float .f64 t.1,.float .f64 t.2],.func (.func 154) #[] #[.pointer (some ⟨a,0,none⟩),.pointer (some ⟨b,0,none⟩)]] W fun e w'=>e=.returned (.agg #[.float .f64 s.1,.float .f64 s.2])∧Below W.heap.size W w') (w:World) :
   Calls Tryz.prog 102 #[.agg #[.float .f64 r1,.float .f64 r2]] w fun e w'=>e=.returned (.agg #[.float .f64 s.1,.float .f64 s.2])∧Below w.heap.size w w':=by
 obtain⟨X,R,HB⟩:=enter1 w (.float .f64 r1) (.float .f64 r2) 24
 go_enter Tryz.func102,Tryz.ntmps102
 go_upto_region 2 with
   (go_at_call 57;refine (c1 _).mono ?_;rintro _ V1 ⟨rfl,hb1⟩;replace X:=X.keep hb1;replace R:=R.keep hb1;replace HB:=later HB hb1;clear hb1)
 have D:Has2 (V1.alloc (.cells #[.float .f64 o.1,.float .f64 o.2] 24)) V1.heap.size (.float .f64 o.1) (.float .f64 o.2):=⟨by go_simp,by go_simp,by go_simp,by go_simp,by go_size⟩
 have hb1:Below V1.heap.size V1 (V1.alloc (.cells #[.float .f64 o.1,.float .f64 o.2] 24)):=by go_grown
 replace X:=X.keep hb1;replace R:=R.keep hb1;replace HB:=later HB hb1;clear hb1
 clear c1
 generalize V1.alloc (.cells #[.float .f64 o.1,.float .f64 o.2] 24)=V2 at *
 generalize V1.heap.size=d at *
 have hmf:∀(fn:Fn) (first cap:Array Value) (w:World),(Instr.makeFunc fn first cap).run Tryz.prog w=.ok (.func fn first cap) w:=fun _ _ _ _=>rfl
 go_wp2_with (first
   | (go_at_call 153;refine (c2 _).mono ?_;rintro _ V3 ⟨rfl,hb1⟩;replace X:=X.keep hb1;replace R:=R.keep hb1;replace D:=D.keep hb1;replace HB:=later HB hb1;clear hb1)
   | (go_at_call 152;refine (c3 _ _ _ D X).mono ?_;rintro _ V4 ⟨rfl,hb1⟩;replace R:=R.keep hb1;replace HB:=later HB hb1;clear hb1;obtain⟨k0,k1,k2,k3,k4⟩:=id R))
 refine bodyPost_ret (v:=.agg #[.float .f64 s.1,.float .f64 s.2]) (by simp [results,Tryz.results102,go_sem, *]) rfl ⟨rfl, ?_⟩
 repeat' (first | (with_reducible exact HB) | (with_reducible refine Below.setCell ?_ ?_ _) | go_size)
set_option maxHeartbeats 1000000 in
theorem oddS_core (r1 r2:Nat) (o t s:Nat×Nat)
   (c1:∀w,Calls Tryz.prog 57 #[.float .f64 4607182418800017408] w fun e w'=>e=.returned (.agg #[.float .f64 o.1,.float .f64 o.2])∧Below w.heap.size w w')
   (c2:∀w,Calls Tryz.prog 33 #[.float .f64 13812540057145311232,.float .f64 4589168020290535424] w fun e w'=>e=.returned (.agg #[.float .f64 t.1,.float .f64 t.2])∧Below w.heap.size w w')
   (c3:∀a b W,Has2 W a (.float .f64 o.1) (.float .f64 o.2)→Has2 W b (.float .f64 r1) (.float .f64 r2)→Calls Tryz.prog 152 #[.int .i64 16,.agg #[.float .f64 t.1,.float .f64 t.2],.func (.func 236) #[] #[.pointer (some ⟨a,0,none⟩),.pointer (some ⟨b,0,none⟩)]] W fun e w'=>e=.returned (.agg #[.float .f64 s.1,.float .f64 s.2])∧Below W.heap.size W w') (w:World) :
   Calls Tryz.prog 233 #[.agg #[.float .f64 r1,.float .f64 r2]] w fun e w'=>e=.returned (.agg #[.float .f64 s.1,.float .f64 s.2])∧Below w.heap.size w w':=by
 obtain⟨X,R,HB⟩:=enter1 w (.float .f64 r1) (.float .f64 r2) 24
 go_enter Tryz.func233,Tryz.ntmps233
 go_upto_region 2 with (first
   | (go_at_call 57;refine (c1 _).mono ?_;rintro _ V1 ⟨rfl,hb1⟩;replace X:=X.keep hb1;replace R:=R.keep hb1;replace HB:=later HB hb1;clear hb1)
   | (go_at_call 33;refine (c2 _).mono ?_;rintro _ V2 ⟨rfl,hb1⟩;replace X:=X.keep hb1;replace R:=R.keep hb1;replace HB:=later HB hb1;clear hb1))
 have D:Has2 ((V2.alloc (.cells #[.float .f64 o.1,.float .f64 o.2] 24)).alloc (.cells #[.float .f64 t.1,.float .f64 t.2] 24)) V2.heap.size (.float .f64 o.1) (.float .f64 o.2):=⟨by go_simp,by go_simp,by go_simp,by go_simp,by go_size⟩
 have E:Has2 ((V2.alloc (.cells #[.float .f64 o.1,.float .f64 o.2] 24)).alloc (.cells #[.float .f64 t.1,.float .f64 t.2] 24)) (V2.heap.size+1) (.float .f64 t.1) (.float .f64 t.2):=⟨by go_simp,by go_simp,by go_simp,by go_simp,by go_size⟩
 have hb1:Below V2.heap.size V2 ((V2.alloc (.cells #[.float .f64 o.1,.float .f64 o.2] 24)).alloc (.cells #[.float .f64 t.1,.float .f64 t.2] 24)):=by go_grown
 replace X:=X.keep hb1;replace R:=R.keep hb1;replace HB:=later HB hb1;clear hb1
 clear c1 c2
 generalize (V2.alloc (.cells #[.float .f64 o.1,.float .f64 o.2] 24)).alloc (.cells #[.float .f64 t.1,.float .f64 t.2] 24)=V3 at *
 generalize V2.heap.size=d at *
 have hmf:∀(fn:Fn) (first cap:Array Value) (w:World),(Instr.makeFunc fn first cap).run Tryz.prog w=.ok (.func fn first cap) w:=fun _ _ _ _=>rfl
 obtain⟨e0,e1,e2,e3,e4⟩:=id E
 go_wp2_with (go_at_call 152;refine (c3 _ _ _ D X).mono ?_;rintro _ V4 ⟨rfl,hb1⟩;replace R:=R.keep hb1;replace HB:=later HB hb1;clear hb1;obtain⟨k0,k1,k2,k3,k4⟩:=id R)
 refine bodyPost_ret (v:=.agg #[.float .f64 s.1,.float .f64 s.2]) (by simp [results,Tryz.results233,go_sem, *]) rfl ⟨rfl, ?_⟩
 repeat' (first | (with_reducible exact HB) | (with_reducible refine Below.setCell ?_ ?_ _) | go_size)
def powF (r:Nat×Nat) (i:Nat) (t:Nat×Nat):Nat×Nat :=
 let p:=mulP r.1 r.2 t.1 t.2
 let m:=makeP (floatOfInt .f64 ((i:Int)+1)) (floatOfInt .f64 ((i:Int)+1))
 let q:=divP p.1 p.2 m.1 m.2
 addP (makeP 4607182418800017408 4607182418800017408).1 (makeP 4607182418800017408 4607182418800017408).2 q.1 q.2
def pwsE (r:Nat×Nat):Nat×Nat:=serS (powF r) (makeP 4602678819172646912 4609434218613702656) 16 0
theorem powF_lt {r t:Nat×Nat} {i:Nat} (h1:r.1<18446744073709551616) (h2:r.2<18446744073709551616) (ht:t.1<18446744073709551616∧t.2<18446744073709551616):(powF r i t).1<18446744073709551616∧(powF r i t).2<18446744073709551616:=by
 have a:=mulP_lt h1 h2 ht.1 ht.2
 have b:=makeP_lt (foi_lt ((i:Int)+1)) (foi_lt ((i:Int)+1))
 have c:=divP_lt a.1 a.2 b.1 b.2
 have o:=makeP_lt (lo:=4607182418800017408) (hi:=4607182418800017408) (by omega) (by omega)
 exact addP_lt o.1 o.2 c.1 c.2
theorem pwsE_w (r1 r2:Nat) (h1:r1<18446744073709551616) (h2:r2<18446744073709551616) (w:World) :
   Calls Tryz.prog 102 #[.agg #[.float .f64 r1,.float .f64 r2]] w fun e w'=>e=.returned (.agg #[.float .f64 (pwsE (r1,r2)).1,.float .f64 (pwsE (r1,r2)).2])∧Below w.heap.size w w':=by
 have ht:=makeP_lt (lo:=4602678819172646912) (hi:=4609434218613702656) (by omega) (by omega)
 refine pow_core r1 r2 _ _ _ (fun w=>point_w 4607182418800017408 (by omega) w) (fun w=>nearOne_w w) (fun a b W hA hB=>?_) w
 have L:∀i,(serS (powF (r1,r2)) (makeP 4602678819172646912 4609434218613702656) 16 i).1<18446744073709551616∧(serS (powF (r1,r2)) (makeP 4602678819172646912 4609434218613702656) 16 i).2<18446744073709551616 :=
   fun i=>serS_lt (fun x=>x.1<18446744073709551616∧x.2<18446744073709551616) ht (fun j x hx=>powF_lt h1 h2 hx) 16 i
 have E:=ser_pow (serS (powF (r1,r2)) (makeP 4602678819172646912 4609434218613702656) 16) 16 a b (by omega) W (fun i hi W' hb=>by
   have Lt:=L (i+1)
   rw [serS_step _ _ 16 i hi]
   generalize serS (powF (r1,r2)) (makeP 4602678819172646912 4609434218613702656) 16 (i+1)=t at *
   have A:=mulP_lt h1 h2 Lt.1 Lt.2
   have B:=makeP_lt (foi_lt ((i:Int)+1)) (foi_lt ((i:Int)+1))
   have C:=divP_lt A.1 A.2 B.1 B.2
   have O:=makeP_lt (lo:=4607182418800017408) (hi:=4607182418800017408) (by omega) (by omega)
   exact pow_step _ _ r1 r2 t.1 t.2 _ _ _ (powF (r1,r2) i t) (i:Int) (by omega) (by omega) (fun w=>wholeI_w ((i:Int)+1) w) (fun w=>Mul_w r1 r2 t.1 t.2 h1 h2 Lt.1 Lt.2 w) (fun w=>Div_w _ _ _ _ A.1 A.2 B.1 B.2 w) (fun w=>Add_w _ _ _ _ O.1 O.2 C.1 C.2 w) a b W' (hA.keep hb) (hB.keep hb))
 rw [serS_end] at E
 exact E
theorem odd_ser (F:Nat→Nat×Nat→Nat×Nat) (r1 r2:Nat) (o t:Nat×Nat)
   (c1:∀w,Calls Tryz.prog 57 #[.float .f64 4607182418800017408] w fun e w'=>e=.returned (.agg #[.float .f64 o.1,.float .f64 o.2])∧Below w.heap.size w w')
   (c2:∀w,Calls Tryz.prog 33 #[.float .f64 13812540057145311232,.float .f64 4589168020290535424] w fun e w'=>e=.returned (.agg #[.float .f64 t.1,.float .f64 t.2])∧Below w.heap.size w w')
   (ht:t.1<18446744073709551616∧t.2<18446744073709551616) (hF:∀i x,(x.1<18446744073709551616∧x.2<18446744073709551616)→((F i x).1<18446744073709551616∧(F i x).2<18446744073709551616))
   (c3:∀(i:Nat) (x:Nat×Nat),i<16→(x.1<18446744073709551616∧x.2<18446744073709551616)→∀a b W,Has2 W a (.float .f64 o.1) (.float .f64 o.2)→Has2 W b (.float .f64 r1) (.float .f64 r2)→Calls Tryz.prog 236 #[.int .i64 (i:Int),.agg #[.float .f64 x.1,.float .f64 x.2],.pointer (some ⟨a,0,none⟩),.pointer (some ⟨b,0,none⟩)] W fun e w'=>e=.returned (.agg #[.float .f64 (F i x).1,.float .f64 (F i x).2])∧Below W.heap.size W w') (w:World) :
   Calls Tryz.prog 233 #[.agg #[.float .f64 r1,.float .f64 r2]] w fun e w'=>e=.returned (.agg #[.float .f64 (serS F t 16 0).1,.float .f64 (serS F t 16 0).2])∧Below w.heap.size w w':=by
 refine oddS_core r1 r2 o t (serS F t 16 0) c1 c2 (fun a b W hA hB=>?_) w
 have E:=ser_odd (serS F t 16) 16 a b (by omega) W (fun i hi W' hb=>by
   rw [serS_step _ _ 16 i hi]
   exact c3 i _ hi (serS_lt (fun x=>x.1<18446744073709551616∧x.2<18446744073709551616) ht hF 16 (i+1)) a b W' (hA.keep hb) (hB.keep hb))
 rw [serS_end] at E
 exact E
def oddF (o:Nat×Nat) (z1 z2:Nat) (i:Nat) (t:Nat×Nat):Nat×Nat :=
 addP (divP o.1 o.2 (makeP (floatOfInt .f64 (2*(i:Int)+1)) (floatOfInt .f64 (2*(i:Int)+1))).1 (makeP (floatOfInt .f64 (2*(i:Int)+1)) (floatOfInt .f64 (2*(i:Int)+1))).2).1
   (divP o.1 o.2 (makeP (floatOfInt .f64 (2*(i:Int)+1)) (floatOfInt .f64 (2*(i:Int)+1))).1 (makeP (floatOfInt .f64 (2*(i:Int)+1)) (floatOfInt .f64 (2*(i:Int)+1))).2).2
   (mulP z1 z2 t.1 t.2).1 (mulP z1 z2 t.1 t.2).2
theorem oddF_lt {o:Nat×Nat} {z1 z2:Nat} {t:Nat×Nat} {i:Nat} (O:o.1<18446744073709551616∧o.2<18446744073709551616) (h1:z1<18446744073709551616) (h2:z2<18446744073709551616) (ht:t.1<18446744073709551616∧t.2<18446744073709551616):(oddF o z1 z2 i t).1<18446744073709551616∧(oddF o z1 z2 i t).2<18446744073709551616:=by
 have a:=mulP_lt h1 h2 ht.1 ht.2
 have b:=makeP_lt (foi_lt (2*(i:Int)+1)) (foi_lt (2*(i:Int)+1))
 have c:=divP_lt O.1 O.2 b.1 b.2
 unfold oddF
 exact addP_lt c.1 c.2 a.1 a.2
theorem odd_one (o:Nat×Nat) (O:o.1<18446744073709551616∧o.2<18446744073709551616) (r1 r2:Nat) (h1:r1<18446744073709551616) (h2:r2<18446744073709551616) (i:Nat) (x:Nat×Nat) (hi:i<16) (hx:x.1<18446744073709551616∧x.2<18446744073709551616) (a b:Nat) (W:World) (hA:Has2 W a (.float .f64 o.1) (.float .f64 o.2)) (hB:Has2 W b (.float .f64 r1) (.float .f64 r2)) :
   Calls Tryz.prog 236 #[.int .i64 (i:Int),.agg #[.float .f64 x.1,.float .f64 x.2],.pointer (some ⟨a,0,none⟩),.pointer (some ⟨b,0,none⟩)] W fun e w'=>e=.returned (.agg #[.float .f64 (oddF o r1 r2 i x).1,.float .f64 (oddF o r1 r2 i x).2])∧Below W.heap.size W w':=by
 have B:=makeP_lt (foi_lt (2*(i:Int)+1)) (foi_lt (2*(i:Int)+1))
 have c1:=fun w=>wholeI_w (2*(i:Int)+1) w
 unfold oddF
 generalize makeP (floatOfInt .f64 (2*(i:Int)+1)) (floatOfInt .f64 (2*(i:Int)+1))=m at *
 exact odd_step o.1 o.2 r1 r2 x.1 x.2 m (mulP r1 r2 x.1 x.2) (divP o.1 o.2 m.1 m.2) _ (i:Int) (by omega) (by omega) c1 (fun w=>Div_w o.1 o.2 m.1 m.2 O.1 O.2 B.1 B.2 w) (fun w=>Mul_w r1 r2 x.1 x.2 h1 h2 hx.1 hx.2 w) (fun w=>Add_w _ _ _ _ (divP_lt O.1 O.2 B.1 B.2).1 (divP_lt O.1 O.2 B.1 B.2).2 (mulP_lt h1 h2 hx.1 hx.2).1 (mulP_lt h1 h2 hx.1 hx.2).2 w) a b W hA hB
def oddE (z1 z2:Nat):Nat×Nat:=serS (oddF (makeP 4607182418800017408 4607182418800017408) z1 z2) (makeP 13812540057145311232 4589168020290535424) 16 0
theorem oddE_w (r1 r2:Nat) (h1:r1<18446744073709551616) (h2:r2<18446744073709551616) (w:World) :
   Calls Tryz.prog 233 #[.agg #[.float .f64 r1,.float .f64 r2]] w fun e w'=>e=.returned (.agg #[.float .f64 (oddE r1 r2).1,.float .f64 (oddE r1 r2).2])∧Below w.heap.size w w':=by
 have O:=makeP_lt (lo:=4607182418800017408) (hi:=4607182418800017408) (by omega) (by omega)
 have T:=makeP_lt (lo:=13812540057145311232) (hi:=4589168020290535424) (by omega) (by omega)
 have c1:=fun w=>point_w 4607182418800017408 (by omega) w
 have c2:=fun w=>make_w 13812540057145311232 4589168020290535424 (by omega) (by omega) w
 unfold oddE
 generalize makeP 4607182418800017408 4607182418800017408=o at *
 generalize makeP 13812540057145311232 4589168020290535424=t at *
 exact odd_ser (oddF o r1 r2) r1 r2 o t c1 c2 T (fun i x hx=>oddF_lt O h1 h2 hx) (fun i x hi hx a b W hA hB=>odd_one o O r1 r2 h1 h2 i x hi hx a b W hA hB) w
set_option maxHeartbeats 1000000 in
theorem counted_core (x1 x2 g1 g2:Nat) (s:Nat×Nat)
   (c1:∀w,Calls Tryz.prog 108 #[] w fun e w'=>e=.returned (.agg #[.float .f64 g1,.float .f64 g2])∧Below w.heap.size w w')
   (c2:∀w,Calls Tryz.prog 115 #[.agg #[.float .f64 x1,.float .f64 x2],.agg #[.float .f64 g1,.float .f64 g2]] w fun e w'=>e=.returned (.agg #[.float .f64 s.1,.float .f64 s.2])∧Below w.heap.size w w') (w:World) :
   Calls Tryz.prog 98 #[.agg #[.float .f64 x1,.float .f64 x2]] w fun e w'=>e=.returned (.agg #[.float .f64 s.1,.float .f64 s.2])∧Below w.heap.size w w':=by
 obtain⟨X,R,HB⟩:=enter1 w (.float .f64 x1) (.float .f64 x2) 24
 go_enter Tryz.func98,Tryz.ntmps98
 go_upto_region 1 with fail
 generalize (w.alloc (.cells #[.float .f64 x1,.float .f64 x2] 24)).alloc (.cells #[.float .f64 0,.float .f64 0] 24)=V1 at *
 have kx0:=fun n:Behind V1=>n.cell X.1 X.2.2.2.2
 have kx1:=fun n:Behind V1=>n.cell X.2.1 X.2.2.2.2
 refine tail_behind 3 (by kernel_rfl) (by kernel_rfl) ?_
 simp only [List.take_succ_cons,List.take_zero,List.drop_succ_cons,List.drop_zero]
 repeat (go_big_quiet_step (first
   | (go_at_call 108;with_reducible refine Behind.call (c1 _))
   | (go_at_call 115;with_reducible refine Behind.call (c2 _))))
 refine wpQuiet_nil ?_
 rintro _ ⟨m',rfl⟩
 obtain⟨W,hb1⟩:=m'
 dsimp only
 clear kx0 kx1
 replace R:=R.keep hb1;replace HB:=later HB hb1;clear hb1
 obtain⟨k0,k1,k2,k3,k4⟩:=id R
 go_wp2_with fail
 refine bodyPost_ret (v:=.agg #[.float .f64 s.1,.float .f64 s.2]) (by simp [results,Tryz.results98,go_sem, *]) rfl ⟨rfl, ?_⟩
 repeat' (first | (with_reducible exact HB) | (with_reducible refine Below.setCell ?_ ?_ _) | go_size)
theorem ecounted_w (x1 x2:Nat) (h1:x1<18446744073709551616) (h2:x2<18446744073709551616) (w:World) :
   Calls Tryz.prog 98 #[.agg #[.float .f64 x1,.float .f64 x2]] w fun e w'=>e=.returned (.agg #[.float .f64 (meetP x1 x2 (infI (-1)) (infI 1)).1,.float .f64 (meetP x1 x2 (infI (-1)) (infI 1)).2])∧Below w.heap.size w w' :=
 counted_core x1 x2 (infI (-1)) (infI 1) _ (fun w=>whole_w w) (fun w=>meet_w x1 x2 (infI (-1)) (infI 1) h1 h2 (infI_lt _) (infI_lt _) w) w
end Go.Proofs.YtfdelmgingefkaaGreat
