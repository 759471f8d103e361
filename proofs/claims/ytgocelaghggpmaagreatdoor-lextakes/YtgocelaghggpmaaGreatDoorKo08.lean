/- The reference's Right: what is whole of a number by a power of 2; cut, pair. The reference's numbers of stage 11: a number's low part, a quotient in its form. -/
import Derived.Test.YtgocelaghggpmaaGreatDoorKo03
import Derived.Test.YtgocelaghggpmaaGreatDoorKo07
namespace Go.Proofs.YtgocelaghggpmaaGreatDoor
open Go.ChangeShapes Go.WideShapes Go.ChangeAt Go.RowKit
theorem natOf_drop_step (ds:List Nat) (k:Nat):natOf (ds.drop k)=ds.getD k 0+4294967296*natOf (ds.drop (k+1)):=by
 rcases Nat.lt_or_ge k ds.length with c | c
 · rw [List.drop_eq_getElem_cons c,List.getD_eq_getElem?_getD,List.getElem?_eq_getElem c]
   rfl
 · rw [List.drop_of_length_le c,List.drop_of_length_le (by omega),List.getD_eq_getElem?_getD,List.getElem?_eq_none c]
   rfl
theorem low_step {n d:Nat} (hd:d<4294967296):(d+4294967296*n)%18446744073709551616=(n%18446744073709551616*4294967296)%18446744073709551616+d:=by omega
theorem bitsN_lt {m t:Nat} (h:bitsN m≤t):m<2^t:=by
 by_cases h0:m=0
 · rw [h0];exact Nat.two_pow_pos t
 · obtain⟨b,e, -,h2⟩:=bitsN_low h0
   exact Nat.lt_of_lt_of_le h2 (Nat.pow_le_pow_right (by omega) (by omega))
set_option maxHeartbeats 4000000 in
theorem low_w {ao:Option Addr} {l ca:Nat} (m K:Nat) (hK:K≤1000000) (hm:m<2^K) (w:World) (A:BigIs w (.slice ao l ca) m) :
   Calls Tryz.prog 54 #[.slice ao l ca] w fun r w'=>(∃z:Int,r=.returned (.tuple #[.int .i64 z,.bool (decide ((bitsN m:Int)≤63))])∧(bitsN m≤63→z=(m:Int)))∧Below w.heap.size w w':=by
 have cb:=fun W (q:BigIs W (.slice ao l ca) m)=>bits_w (.slice ao l ca) m K hK hm W q
 have A2:=A
 obtain⟨ds,d1,d2,hds,hrow⟩:=A
 have l1:=d2.len (show natOf ds<2^K by rw [hds];exact hm)
 obtain⟨bo,cb',e,hcb⟩:=hrow.open_
 cases e
 have hLb:ds.length≤1000000:=by omega
 have hcb2:Hid (∀j,j<ds.length→∃gb,ao=some ⟨gb,0,none⟩∧gb<w.heap.size∧w.cell? ⟨gb,j,none⟩=some (.int .u32 (ds.getD j 0:Int))):=fun j hj=>by
   obtain⟨gb,e1,e2,e3⟩:=hcb (by omega)
   exact⟨gb,e1,e2,e3 j hj⟩
 have HM:Hid (bitsN m≤63→m<9223372036854775808):=fun q=>by have:=bitsN_lt q;omega
 have HN:Hid (m=natOf ds):=hds.symm
 clear hcb hrow d2 l1 hm hds
 generalize bitsN m=N at *
 go_enter Tryz.func54,Tryz.ntmps54
 go_upto_region 3 with fail
 go_loopg [4,5] ds.length (fun G s4 s5 wx=>Below w.heap.size w wx∧∃(i r:Nat),s5=.int .i64 ((i:Int)-1)∧i≤G∧i≤ds.length∧s4=.int .u64 (r:Int)∧(r:Int)<18446744073709551616∧Hid (r=natOf (ds.drop i)%18446744073709551616))
 case atStart=>exact⟨Below.refl _ _,ds.length,0,rfl,Nat.le_refl _,Nat.le_refl _,rfl,by omega,by show _=_;rw [List.drop_of_length_le (Nat.le_refl _)];rfl⟩
 case round =>
   obtain⟨HB,i,r,rfl,hiG,hil,rfl,hr,H⟩:=hrel
   rcases Nat.eq_zero_or_pos i with rfl | hi0
   · have hz:Hid (N≤63→wrap64 (r:Int)=(m:Int)):=fun q=>by
       have h1:=HM.out q
       have h2:=H.out
       rw [List.drop_zero,←HN.out] at h2
       unfold wrap64
       omega
     have AA:=A2.keep HB
     clear H HM HN hcb2 hiG hil
     go_wp2_with (go_at_call 70;(with_reducible refine (cb _ AA).mono ?_);rintro _ _ ⟨rfl,rfl⟩)
     refine bodyPost_ret (v:=.tuple #[.int .i64 (wrap64 (r:Int)),.bool (decide ((N:Int)≤63))]) (by simp [results,Tryz.results54,go_sem]) rfl ⟨⟨_,rfl,hz.out⟩,HB⟩
   · obtain⟨j,rfl⟩:∃j,i=j+1:=⟨i-1,by omega⟩
     obtain⟨gb,rfl,hgb,cD0⟩:=hcb2.out j (by omega)
     have cD:=keepsC HB cD0 hgb
     have hD:=d1.getD j
     have hnd:=natOf_drop_step ds j
     have h2:=H.out
     clear cD0
     generalize ds.getD j 0=D at *
     obtain⟨S,hS1⟩:∃S,S=r*4294967296%18446744073709551616:=⟨_,rfl⟩
     have hsh:IntKind.u64.wrap ((r:Int)*4294967296)=(S:Int):=by rw [hS1,IntKind.wrap_u64];omega
     have hor:bits .or .u64 (S:Int) (D:Int)=((S+D:Nat):Int):=by
       rw [u64_or_nat S D (by omega) (by omega),nat_join 32 S D (by rw [hS1];omega) (by omega)]
     obtain⟨T,hT⟩:∃T,T=S+D:=⟨_,rfl⟩
     rw [←hT] at hor
     have HT:Hid (T=natOf (ds.drop j)%18446744073709551616):=by
       show _=_
       rw [hnd,low_step hD,←h2,←hS1]
       exact hT
     have hTl:(T:Int)<18446744073709551616:=by omega
     have hjL:(j:Int)<(ds.length:Int):=by omega
     have h1:(j:Int)+1-1=(j:Int):=by omega
     clear H h2 hnd hS1 hT HM HN hcb2 hi0 A2 cb
     go_wp2_with fail
     go_roundg j
     case measure=>omega
     case rel=>exact⟨HB,j,T,by go_num,Nat.le_refl _,by omega,rfl,hTl,HT⟩
def ofV (neg:Bool) (n d:Nat):Int×Int×Int:=if n=0 then (0,1,0) else if bitsN (n/Nat.gcd n d)≤63∧bitsN (d/Nat.gcd n d)≤63 then (sgnd neg (n/Nat.gcd n d),((d/Nat.gcd n d:Nat):Int),0) else (0,0,3)
def Rt2 (w:World) (b:Nat) (x y:Value):Prop:=w.cell? ⟨b,0,none⟩=some x∧w.cell? ⟨b,1,none⟩=some y∧w.frozen? ⟨b,0,none⟩=false∧w.frozen? ⟨b,1,none⟩=false∧b<w.heap.size
theorem Rt2.keep {w W:World} {b:Nat} {x y:Value} (h:Rt2 w b x y) (k:Below w.heap.size w W):Rt2 W b x y:=⟨keepsC k h.1 h.2.2.2.2,keepsC k h.2.1 h.2.2.2.2,keepsF k h.2.2.1 h.2.2.2.2,keepsF k h.2.2.2.1 h.2.2.2.2,Nat.lt_of_lt_of_le h.2.2.2.2 k.size⟩
theorem rat_new (w:World) (a b:Value) (T:TypeId):Rt2 (w.alloc (.cells #[a,b] T)) w.heap.size a b:=⟨by go_simp,by go_simp,by go_simp,by go_simp,by go_size⟩
set_option maxHeartbeats 4000000 in
theorem ofr_w {ao bo:Option Addr} {l ca k cb:Nat} (neg:Bool) (n d K:Nat) (hK:K≤100000) (hK1:1≤K) (hn:n<2^K) (hd:d<2^K) (hd0:d≠0) (w:World) (A:BigIs w (.slice ao l ca) n) (B:BigIs w (.slice bo k cb) d) :
   Calls Tryz.prog 37 #[.bool neg,.slice ao l ca,.slice bo k cb] w fun r w'=>r=.returned (.tuple #[.agg #[.int .i64 (ofV neg n d).1,.int .i64 (ofV neg n d).2.1],.int .i64 (ofV neg n d).2.2])∧Below w.heap.size w w':=by
 obtain⟨_,_,_,ez,hl⟩:=A.shape
 cases ez
 have R:=rat_new w (.int .i64 0) (.int .i64 0) 33
 have HB:Below w.heap.size w (w.alloc (.cells #[.int .i64 0,.int .i64 0] 33)):=by go_grown
 by_cases c:n=0
 · have z:l=0:=hl.2 c
   subst z
   have e:ofV neg n d=(0,1,0):=by unfold ofV;rw [if_pos c]
   rw [e]
   clear e A B hl hn hd hd0
   obtain⟨r0,r1,r2,r3,r4⟩:=id R
   go_enter Tryz.func37,Tryz.ntmps37
   go_wp2_with fail
   refine bodyPost_ret (v:=.tuple #[.agg #[.int .i64 0,.int .i64 1],.int .i64 0]) (by simp [results,Tryz.results37,go_sem, *]) rfl ⟨rfl, ?_⟩
   go_grown
 · have z:l≠0:=fun q=>c (hl.1 q)
   have z1:((l:Int)==0)=false:=by rw [beq_eq_false_iff_ne];omega
   have g0:0<Nat.gcd n d:=Nat.gcd_pos_of_pos_right _ (by omega)
   have gn:Nat.gcd n d≤n:=Nat.gcd_le_left _ (by omega)
   have e:ofV neg n d=if bitsN (n/Nat.gcd n d)≤63∧bitsN (d/Nat.gcd n d)≤63 then (sgnd neg (n/Nat.gcd n d),((d/Nat.gcd n d:Nat):Int),0) else (0,0,3):=by unfold ofV;rw [if_neg c]
   obtain⟨ov,eo⟩:∃ov,ov=ofV neg n d:=⟨_,rfl⟩
   rw [←eo]
   rw [e] at eo
   clear e
   replace A:=A.keep HB
   replace B:=B.keep HB
   have cg:=fun W (p:BigIs W (.slice ao l ca) n) (q:BigIs W (.slice bo k cb) d)=>common_w n d K hK hn hd W p q
   generalize Nat.gcd n d=g at *
   have hg:g<2^K:=Nat.lt_of_le_of_lt gn hn
   have cn:=fun W o1 k1 c1 (p:BigIs W (.slice ao l ca) n) (q:BigIs W (.slice o1 k1 c1) g)=>quo_w n g K hK hK1 (by omega) hn hg W p q
   have cd:=fun W o1 k1 c1 (p:BigIs W (.slice bo k cb) d) (q:BigIs W (.slice o1 k1 c1) g)=>quo_w d g K hK hK1 (by omega) hd hg W p q
   have x1:n/g<2^K:=Nat.lt_of_le_of_lt (Nat.div_le_self _ _) hn
   have x2:d/g<2^K:=Nat.lt_of_le_of_lt (Nat.div_le_self _ _) hd
   have lx:=fun W o1 k1 c1 (p:BigIs W (.slice o1 k1 c1) (n/g))=>low_w (n/g) K (by omega) x1 W p
   have ly:=fun W o1 k1 c1 (p:BigIs W (.slice o1 k1 c1) (d/g))=>low_w (d/g) K (by omega) x2 W p
   clear x1 x2 hn hd hd0 hg g0 gn c z hl
   generalize n/g=x at *
   generalize d/g=y at *
   have EO:Hid (ov=if bitsN x≤63∧bitsN y≤63 then (sgnd neg x,(y:Int),0) else (0,0,3)):=eo
   clear eo
   have hx63:Hid (bitsN x≤63→x<9223372036854775808):=fun q=>by have:=bitsN_lt q;omega
   generalize bitsN x=nx at *
   generalize bitsN y=ny at *
   go_enter Tryz.func37,Tryz.ntmps37
   go_upto_region 1 with fail
   generalize (w.alloc (.cells #[.int .i64 0,.int .i64 0] 33))=V0 at *
   go_upto_region 4 with (go_at_call 53;(with_reducible refine (cg _ A B).mono ?_);rintro _ V1 ⟨⟨v1,rfl,G1⟩,hb1⟩;obtain⟨o1,k1,c1,rfl, -⟩:=G1.shape;replace A:=A.keep hb1;replace B:=B.keep hb1;replace R:=R.keep hb1;replace HB:=later HB hb1;clear hb1)
   clear cg
   go_upto_region 5 with (first
     | (go_at_call 55;(with_reducible refine (cn _ _ _ _ A G1).mono ?_);rintro _ V2 ⟨⟨v2,rfl,X⟩,hb1⟩;obtain⟨o2,k2,c2,rfl, -⟩:=X.shape;replace G1:=G1.keep hb1;replace B:=B.keep hb1;replace R:=R.keep hb1;replace HB:=later HB hb1;clear hb1)
     | (go_at_call 54;(with_reducible refine (lx _ _ _ _ X).mono ?_);rintro _ V3 ⟨⟨zx,rfl,hx⟩,hb1⟩;replace G1:=G1.keep hb1;replace B:=B.keep hb1;replace R:=R.keep hb1;replace HB:=later HB hb1;clear hb1))
   clear cn lx A X
   go_upto_region 6 with (first
     | (go_at_call 55;(with_reducible refine (cd _ _ _ _ B G1).mono ?_);rintro _ V4 ⟨⟨v4,rfl,Y⟩,hb1⟩;obtain⟨o4,k4,c4,rfl, -⟩:=Y.shape;replace R:=R.keep hb1;replace HB:=later HB hb1;clear hb1)
     | (go_at_call 54;(with_reducible refine (ly _ _ _ _ Y).mono ?_);rintro _ V5 ⟨⟨zy,rfl,hy⟩,hb1⟩;replace R:=R.keep hb1;replace HB:=later HB hb1;clear hb1))
   clear cd ly B Y G1
   obtain⟨r0,r1,r2,r3,r4⟩:=id R
   by_cases b1:(nx:Int)≤63
   · have e1:=hx (by omega)
     by_cases b2:(ny:Int)≤63
     · have e2:=hy (by omega)
       subst e1
       subst e2
       have hlt:=hx63.out (by omega)
       clear hx hy hx63
       have EP:Hid (ov=(sgnd neg x,(y:Int),0)):=by show _=_;rw [EO.out,if_pos ⟨by omega,by omega⟩]
       clear EO
       have i1:(x:Int)<9223372036854775808:=by omega
       clear hlt
       cases neg
       · obtain rfl:=EP.out
         clear EP
         go_wp2_with fail
         refine bodyPost_ret (v:=.tuple #[.agg #[.int .i64 (x:Int),.int .i64 (y:Int)],.int .i64 0]) (by simp [results,Tryz.results37,go_sem, *]) rfl ⟨rfl, ?_⟩
         repeat' (first | (with_reducible exact HB) | (with_reducible refine Below.setCell ?_ ?_ _) | go_size)
       · obtain rfl:=EP.out
         clear EP
         go_wp2_with fail
         refine bodyPost_ret (v:=.tuple #[.agg #[.int .i64 (-(x:Int)),.int .i64 (y:Int)],.int .i64 0]) (by simp [results,Tryz.results37,go_sem, *]) rfl ⟨rfl, ?_⟩
         repeat' (first | (with_reducible exact HB) | (with_reducible refine Below.setCell ?_ ?_ _) | go_size)
     · obtain rfl:ov=(0,0,3):=by rw [EO.out,if_neg (fun q=>b2 (by omega))]
       clear hx hy hx63 EO
       go_wp2_with fail
       refine bodyPost_ret (v:=.tuple #[.agg #[.int .i64 0,.int .i64 0],.int .i64 3]) (by simp [results,Tryz.results37,go_sem, *]) rfl ⟨rfl, ?_⟩
       repeat' (first | (with_reducible exact HB) | (with_reducible refine Below.setCell ?_ ?_ _) | go_size)
   · obtain rfl:ov=(0,0,3):=by rw [EO.out,if_neg (fun q=>b1 (by omega))]
     clear hx hy hx63 EO
     go_wp2_with fail
     refine bodyPost_ret (v:=.tuple #[.agg #[.int .i64 0,.int .i64 0],.int .i64 3]) (by simp [results,Tryz.results37,go_sem, *]) rfl ⟨rfl, ?_⟩
     repeat' (first | (with_reducible exact HB) | (with_reducible refine Below.setCell ?_ ?_ _) | go_size)
end Go.Proofs.YtgocelaghggpmaaGreatDoor
