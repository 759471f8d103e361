/- The reference's Right: what is whole of a number by a power of 2; cut, pair. The reference's numbers of stage 11: a number's low part, a quotient in its form. The reference's numbers of stage 11: the number that digits write. -/
import Derived.Test.YtgocelaghggpmaaDoorChecked
import Derived.Lib.Strings
import Derived.Lib.Slices
import Derived.Lib.Small
import Derived.Lib.Walk
import Derived.Lib.BitFns
import Derived.KernelRfl
import Derived.WalkKit
import Derived.Laws.Cover2
import Derived.Laws.FloatArith
import Derived.Laws.BitsAllLaws
import Derived.Test.YtgocelaghggpmaaDoorRows
import Derived.ProofKit
import Derived.OpenShut
import Derived.WalkSpells
import Derived.WalkLawsBesides
import Derived.Laws.Externs
import Derived.Laws.Bits64b
import Derived.Handy
import Derived.Deep.RegionWith
import Derived.Deep.QuietTactic
import Derived.BigQuiet
import Derived.Deep.RegionHeld3
import Derived.Deep.CutRange
import Derived.Deep.LoopGhost
import Derived.Deep.CutBlock
import Derived.WalkSmall
import Derived.Deep.Quiet
import Derived.StillTail
import Derived.Lib.ConvBytes
import Derived.Lib.AtoiErrMem
import Derived.Test.YtgocelaghggpmaaDoorShelf
import Derived.Lib.ParseIntBCases
import Derived.Deep.Cut
import Derived.LaidMore
import Derived.Stop.LaidErr
import Derived.Lib.SmallJoins
import Derived.Test.YtgocelaghggpmaaDoorKa01
import Derived.Test.YtgocelaghggpmaaDoorKa02
import Derived.Test.YtgocelaghggpmaaDoorKa03
import Derived.Test.YtgocelaghggpmaaDoorKa04
import Derived.Test.YtgocelaghggpmaaDoorKa05
import Derived.Test.YtgocelaghggpmaaDoorKa06
import Derived.Test.YtgocelaghggpmaaDoorKa07
import Derived.Test.YtgocelaghggpmaaDoorKa08
import Derived.Test.YtgocelaghggpmaaDoorKa09
import Derived.Test.YtgocelaghggpmaaDoorKa10
import Derived.Test.YtgocelaghggpmaaDoorKa11
import Derived.Test.YtgocelaghggpmaaDoorKa12
import Derived.Test.YtgocelaghggpmaaDoorKa13
import Derived.Test.YtgocelaghggpmaaDoorKa14
import Derived.Test.YtgocelaghggpmaaDoorKa15
import Derived.Test.YtgocelaghggpmaaDoorKa16
import Derived.Test.YtgocelaghggpmaaDoorKa17
import Derived.Test.YtgocelaghggpmaaDoorKa18
import Derived.Test.YtgocelaghggpmaaDoorKa19
import Derived.Test.YtgocelaghggpmaaDoorKa20
import Derived.Test.YtgocelaghggpmaaDoorKa21
import Derived.Test.YtgocelaghggpmaaDoorKa22
import Derived.Test.YtgocelaghggpmaaDoorKa23
import Derived.Test.YtgocelaghggpmaaDoorKa24
import Derived.Test.YtgocelaghggpmaaDoorKa25
import Derived.Test.YtgocelaghggpmaaDoorKa26
import Derived.Test.YtgocelaghggpmaaDoorKa27
import Derived.Test.YtgocelaghggpmaaDoorKa28
import Derived.Test.YtgocelaghggpmaaDoorKa29
import Derived.Test.YtgocelaghggpmaaDoorKa30
import Derived.Test.YtgocelaghggpmaaDoorKa31
import Derived.Test.YtgocelaghggpmaaDoorKa32
import Derived.Test.YtgocelaghggpmaaDoorKa33
import Derived.Test.YtgocelaghggpmaaDoorKa34
import Derived.Test.YtgocelaghggpmaaDoorKa35
import Derived.Test.YtgocelaghggpmaaDoorKr03
namespace Go.Proofs.YtgocelaghggpmaaDoor
open Go.ChangeShapes Go.WideShapes Go.ChangeAt Go.RowKit
theorem natOf_drop_step (ds:List Nat) (k:Nat):natOf (ds.drop k)=ds.getD k 0+4294967296*natOf (ds.drop (k+1)):=by
 rcases Nat.lt_or_ge k ds.length with c | c
 · rw [List.drop_eq_getElem_cons c,List.getD_eq_getElem?_getD,List.getElem?_eq_getElem c]
   rfl
 · rw [List.drop_of_length_le c,List.drop_of_length_le (by omega),List.getD_eq_getElem?_getD,List.getElem?_eq_none c]
   rfl
theorem low_step {n d:Nat} (hd:d<4294967296):(d+4294967296*n)%18446744073709551616=(n%18446744073709551616*4294967296)%18446744073709551616+d:=by omega
set_option maxHeartbeats 4000000 in
theorem low_w {ao:Option Addr} {l ca:Nat} (m K:Nat) (hK:K≤1000000) (hm:m<2^K) (w:World) (A:BigIs w (.slice ao l ca) m) :
   Calls Tryd.prog 58 #[.slice ao l ca] w fun r w'=>(∃z:Int,r=.returned (.tuple #[.int .i64 z,.bool (decide ((bitsN m:Int)≤63))])∧(bitsN m≤63→z=(m:Int)))∧Below w.heap.size w w':=by
 have cb:=fun W (q:BigIs W (.slice ao l ca) m)=>bits_w (.slice ao l ca) m K hK hm W q
 have A2:=A
 obtain⟨ds,d1,d2,hds,hrow⟩:=A
 have l1:=d2.len (show natOf ds<2^K by rw [hds];exact hm)
 obtain⟨bo,cb',e,hcb⟩:=hrow.open_
 cases e
 have hLb:ds.length≤1000000:=by omega
 have hcb2:Hid (∀j,j<ds.length→∃gb,ao=some ⟨gb,0,none⟩∧gb<w.heap.size∧w.cell? ⟨gb,j,none⟩=some (.int .u32 (ds.getD j 0:Int))):=fun j hj=>by
   obtain⟨gb,e1,e2,e3⟩:=hcb (by omega)
   exact⟨gb,e1,e2,e3 j hj⟩
 have HM:Hid (bitsN m≤63→m<9223372036854775808):=fun q=>by have:=bitsN_lt q;omega
 have HN:Hid (m=natOf ds):=hds.symm
 clear hcb hrow d2 l1 hm hds
 generalize bitsN m=N at *
 go_enter Tryd.func58,Tryd.ntmps58
 go_upto_region 3 with fail
 go_loopg [4,5] ds.length (fun G s4 s5 wx=>Below w.heap.size w wx∧∃(i r:Nat),s5=.int .i64 ((i:Int)-1)∧i≤G∧i≤ds.length∧s4=.int .u64 (r:Int)∧(r:Int)<18446744073709551616∧Hid (r=natOf (ds.drop i)%18446744073709551616))
 case atStart=>exact⟨Below.refl _ _,ds.length,0,rfl,Nat.le_refl _,Nat.le_refl _,rfl,by omega,by show _=_;rw [List.drop_of_length_le (Nat.le_refl _)];rfl⟩
 case round =>
   obtain⟨HB,i,r,rfl,hiG,hil,rfl,hr,H⟩:=hrel
   rcases Nat.eq_zero_or_pos i with rfl | hi0
   · have hz:Hid (N≤63→wrap64 (r:Int)=(m:Int)):=fun q=>by
       have h1:=HM.out q
       have h2:=H.out
       rw [List.drop_zero,←HN.out] at h2
       unfold wrap64
       omega
     have AA:=A2.keep HB
     clear H HM HN hcb2 hiG hil
     go_wp2_with (go_at_call 110;(with_reducible refine (cb _ AA).mono ?_);rintro _ _ ⟨rfl,rfl⟩)
     refine bodyPost_ret (v:=.tuple #[.int .i64 (wrap64 (r:Int)),.bool (decide ((N:Int)≤63))]) (by simp [results,Tryd.results58,go_sem]) rfl ⟨⟨_,rfl,hz.out⟩,HB⟩
   · obtain⟨j,rfl⟩:∃j,i=j+1:=⟨i-1,by omega⟩
     obtain⟨gb,rfl,hgb,cD0⟩:=hcb2.out j (by omega)
     have cD:=keepsC HB cD0 hgb
     have hD:=d1.getD j
     have hnd:=natOf_drop_step ds j
     have h2:=H.out
     clear cD0
     generalize ds.getD j 0=D at *
     obtain⟨S,hS1⟩:∃S,S=r*4294967296%18446744073709551616:=⟨_,rfl⟩
     have hsh:IntKind.u64.wrap ((r:Int)*4294967296)=(S:Int):=by rw [hS1,IntKind.wrap_u64];omega
     have hor:bits .or .u64 (S:Int) (D:Int)=((S+D:Nat):Int):=by
       rw [u64_or_nat S D (by omega) (by omega),nat_join 32 S D (by rw [hS1];omega) (by omega)]
     obtain⟨T,hT⟩:∃T,T=S+D:=⟨_,rfl⟩
     rw [←hT] at hor
     have HT:Hid (T=natOf (ds.drop j)%18446744073709551616):=by
       show _=_
       rw [hnd,low_step hD,←h2,←hS1]
       exact hT
     have hTl:(T:Int)<18446744073709551616:=by omega
     have hjL:(j:Int)<(ds.length:Int):=by omega
     have h1:(j:Int)+1-1=(j:Int):=by omega
     clear H h2 hnd hS1 hT HM HN hcb2 hi0 A2 cb
     go_wp2_with fail
     go_roundg j
     case measure=>omega
     case rel=>exact⟨HB,j,T,by go_num,Nat.le_refl _,by omega,rfl,hTl,HT⟩
def Rt2 (w:World) (b:Nat) (x y:Value):Prop:=w.cell? ⟨b,0,none⟩=some x∧w.cell? ⟨b,1,none⟩=some y∧w.frozen? ⟨b,0,none⟩=false∧w.frozen? ⟨b,1,none⟩=false∧b<w.heap.size
theorem Rt2.keep {w W:World} {b:Nat} {x y:Value} (h:Rt2 w b x y) (k:Below w.heap.size w W):Rt2 W b x y:=⟨keepsC k h.1 h.2.2.2.2,keepsC k h.2.1 h.2.2.2.2,keepsF k h.2.2.1 h.2.2.2.2,keepsF k h.2.2.2.1 h.2.2.2.2,Nat.lt_of_lt_of_le h.2.2.2.2 k.size⟩
theorem rat_new (w:World) (a b:Value) (T:TypeId):Rt2 (w.alloc (.cells #[a,b] T)) w.heap.size a b:=⟨by go_simp,by go_simp,by go_simp,by go_simp,by go_size⟩
set_option maxHeartbeats 4000000 in
theorem ofr_w {ao bo:Option Addr} {l ca k cb:Nat} (neg:Bool) (n d K:Nat) (hK:K≤100000) (hK1:1≤K) (hn:n<2^K) (hd:d<2^K) (hd0:d≠0) (w:World) (A:BigIs w (.slice ao l ca) n) (B:BigIs w (.slice bo k cb) d) :
   Calls Tryd.prog 27 #[.bool neg,.slice ao l ca,.slice bo k cb] w fun r w'=>r=.returned (.tuple #[.agg #[.int .i64 (ofV neg n d).1,.int .i64 (ofV neg n d).2.1],.int .i64 (ofV neg n d).2.2])∧Below w.heap.size w w':=by
 obtain⟨_,_,_,ez,hl⟩:=A.shape
 cases ez
 have R:=rat_new w (.int .i64 0) (.int .i64 0) 23
 have HB:Below w.heap.size w (w.alloc (.cells #[.int .i64 0,.int .i64 0] 23)):=by go_grown
 by_cases c:n=0
 · have z:l=0:=hl.2 c
   subst z
   have e:ofV neg n d=(0,1,0):=by unfold ofV;rw [if_pos c]
   rw [e]
   clear e A B hl hn hd hd0
   obtain⟨r0,r1,r2,r3,r4⟩:=id R
   go_enter Tryd.func27,Tryd.ntmps27
   go_wp2_with fail
   refine bodyPost_ret (v:=.tuple #[.agg #[.int .i64 0,.int .i64 1],.int .i64 0]) (by simp [results,Tryd.results27,go_sem, *]) rfl ⟨rfl, ?_⟩
   go_grown
 · have z:l≠0:=fun q=>c (hl.1 q)
   have z1:((l:Int)==0)=false:=by rw [beq_eq_false_iff_ne];omega
   have g0:0<Nat.gcd n d:=Nat.gcd_pos_of_pos_right _ (by omega)
   have gn:Nat.gcd n d≤n:=Nat.gcd_le_left _ (by omega)
   have e:ofV neg n d=if bitsN (n/Nat.gcd n d)≤63∧bitsN (d/Nat.gcd n d)≤63 then (sgnd neg (n/Nat.gcd n d),((d/Nat.gcd n d:Nat):Int),0) else (0,0,3):=by unfold ofV;rw [if_neg c]
   obtain⟨ov,eo⟩:∃ov,ov=ofV neg n d:=⟨_,rfl⟩
   rw [←eo]
   rw [e] at eo
   clear e
   replace A:=A.keep HB
   replace B:=B.keep HB
   have cg:=fun W (p:BigIs W (.slice ao l ca) n) (q:BigIs W (.slice bo k cb) d)=>common_w n d K hK hn hd W p q
   generalize Nat.gcd n d=g at *
   have hg:g<2^K:=Nat.lt_of_le_of_lt gn hn
   have cn:=fun W o1 k1 c1 (p:BigIs W (.slice ao l ca) n) (q:BigIs W (.slice o1 k1 c1) g)=>quo_w n g K hK hK1 (by omega) hn hg W p q
   have cd:=fun W o1 k1 c1 (p:BigIs W (.slice bo k cb) d) (q:BigIs W (.slice o1 k1 c1) g)=>quo_w d g K hK hK1 (by omega) hd hg W p q
   have x1:n/g<2^K:=Nat.lt_of_le_of_lt (Nat.div_le_self _ _) hn
   have x2:d/g<2^K:=Nat.lt_of_le_of_lt (Nat.div_le_self _ _) hd
   have lx:=fun W o1 k1 c1 (p:BigIs W (.slice o1 k1 c1) (n/g))=>low_w (n/g) K (by omega) x1 W p
   have ly:=fun W o1 k1 c1 (p:BigIs W (.slice o1 k1 c1) (d/g))=>low_w (d/g) K (by omega) x2 W p
   clear x1 x2 hn hd hd0 hg g0 gn c z hl
   generalize n/g=x at *
   generalize d/g=y at *
   have EO:Hid (ov=if bitsN x≤63∧bitsN y≤63 then (sgnd neg x,(y:Int),0) else (0,0,3)):=eo
   clear eo
   have hx63:Hid (bitsN x≤63→x<9223372036854775808):=fun q=>by have:=bitsN_lt q;omega
   generalize bitsN x=nx at *
   generalize bitsN y=ny at *
   go_enter Tryd.func27,Tryd.ntmps27
   go_upto_region 1 with fail
   generalize (w.alloc (.cells #[.int .i64 0,.int .i64 0] 23))=V0 at *
   go_upto_region 4 with (go_at_call 57;(with_reducible refine (cg _ A B).mono ?_);rintro _ V1 ⟨⟨v1,rfl,G1⟩,hb1⟩;obtain⟨o1,k1,c1,rfl, -⟩:=G1.shape;replace A:=A.keep hb1;replace B:=B.keep hb1;replace R:=R.keep hb1;replace HB:=later HB hb1;clear hb1)
   clear cg
   go_upto_region 5 with (first
     | (go_at_call 59;(with_reducible refine (cn _ _ _ _ A G1).mono ?_);rintro _ V2 ⟨⟨v2,rfl,X⟩,hb1⟩;obtain⟨o2,k2,c2,rfl, -⟩:=X.shape;replace G1:=G1.keep hb1;replace B:=B.keep hb1;replace R:=R.keep hb1;replace HB:=later HB hb1;clear hb1)
     | (go_at_call 58;(with_reducible refine (lx _ _ _ _ X).mono ?_);rintro _ V3 ⟨⟨zx,rfl,hx⟩,hb1⟩;replace G1:=G1.keep hb1;replace B:=B.keep hb1;replace R:=R.keep hb1;replace HB:=later HB hb1;clear hb1))
   clear cn lx A X
   go_upto_region 6 with (first
     | (go_at_call 59;(with_reducible refine (cd _ _ _ _ B G1).mono ?_);rintro _ V4 ⟨⟨v4,rfl,Y⟩,hb1⟩;obtain⟨o4,k4,c4,rfl, -⟩:=Y.shape;replace R:=R.keep hb1;replace HB:=later HB hb1;clear hb1)
     | (go_at_call 58;(with_reducible refine (ly _ _ _ _ Y).mono ?_);rintro _ V5 ⟨⟨zy,rfl,hy⟩,hb1⟩;replace R:=R.keep hb1;replace HB:=later HB hb1;clear hb1))
   clear cd ly B Y G1
   obtain⟨r0,r1,r2,r3,r4⟩:=id R
   by_cases b1:(nx:Int)≤63
   · have e1:=hx (by omega)
     by_cases b2:(ny:Int)≤63
     · have e2:=hy (by omega)
       subst e1
       subst e2
       have hlt:=hx63.out (by omega)
       clear hx hy hx63
       have EP:Hid (ov=(sgnd neg x,(y:Int),0)):=by show _=_;rw [EO.out,if_pos ⟨by omega,by omega⟩]
       clear EO
       have i1:(x:Int)<9223372036854775808:=by omega
       clear hlt
       cases neg
       · obtain rfl:=EP.out
         clear EP
         go_wp2_with fail
         refine bodyPost_ret (v:=.tuple #[.agg #[.int .i64 (x:Int),.int .i64 (y:Int)],.int .i64 0]) (by simp [results,Tryd.results27,go_sem, *]) rfl ⟨rfl, ?_⟩
         repeat' (first | (with_reducible exact HB) | (with_reducible refine Below.setCell ?_ ?_ _) | go_size)
       · obtain rfl:=EP.out
         clear EP
         go_wp2_with fail
         refine bodyPost_ret (v:=.tuple #[.agg #[.int .i64 (-(x:Int)),.int .i64 (y:Int)],.int .i64 0]) (by simp [results,Tryd.results27,go_sem, *]) rfl ⟨rfl, ?_⟩
         repeat' (first | (with_reducible exact HB) | (with_reducible refine Below.setCell ?_ ?_ _) | go_size)
     · obtain rfl:ov=(0,0,3):=by rw [EO.out,if_neg (fun q=>b2 (by omega))]
       clear hx hy hx63 EO
       go_wp2_with fail
       refine bodyPost_ret (v:=.tuple #[.agg #[.int .i64 0,.int .i64 0],.int .i64 3]) (by simp [results,Tryd.results27,go_sem, *]) rfl ⟨rfl, ?_⟩
       repeat' (first | (with_reducible exact HB) | (with_reducible refine Below.setCell ?_ ?_ _) | go_size)
   · obtain rfl:ov=(0,0,3):=by rw [EO.out,if_neg (fun q=>b1 (by omega))]
     clear hx hy hx63 EO
     go_wp2_with fail
     refine bodyPost_ret (v:=.tuple #[.agg #[.int .i64 0,.int .i64 0],.int .i64 3]) (by simp [results,Tryd.results27,go_sem, *]) rfl ⟨rfl, ?_⟩
     repeat' (first | (with_reducible exact HB) | (with_reducible refine Below.setCell ?_ ?_ _) | go_size)
theorem byte_take {s:ByteArray} {k:Nat} (h:k<s.size):s.data.toList.take (k+1)=s.data.toList.take k++[s[k]]:=by
 rw [List.take_succ_eq_append_getElem (by simpa using h)];rfl
set_option maxHeartbeats 4000000 in
theorem value_w (s:ByteArray) (hs:s.size≤200) (hd:∀i (h:i<s.size),isDg s[i]=true) (w:World) :
   Calls Tryd.prog 25 #[.string s] w fun e w'=>(∃v,e=.returned v∧BigIs w' v (valN s.data.toList))∧Below w.heap.size w w':=by
 have HD:Hid (∀i (h:i<s.size),isDg s[i]=true):=hd
 clear hd
 have HB:Below w.heap.size w (w.alloc (.cells #[] 97)):=by go_grown
 have Q0:BigIs (w.alloc (.cells #[] 97)) (.slice (some ⟨w.heap.size,0,none⟩) 0 0) 0:=⟨[],Digs.nil,trimmed_nil,rfl,(own_empty w).row⟩
 have c10:∀W,Calls Tryd.prog 26 #[.int .u64 10] W fun e w'=>(∃v',e=.returned v'∧BigIs w' v' 10)∧Below W.heap.size W w':=fun W=>of_w 10 (by omega) W
 go_enter Tryd.func25,Tryd.ntmps25
 go_upto_region 2 with fail
 generalize w.alloc (.cells #[] 97)=V1 at *
 go_upto_region 3 with fail
 go_loopg [3,4] s.size (fun G s3 s4 wx=>∃i:Nat,s4=.int .i64 (i:Int)∧i≤s.size∧i+G=s.size∧Below w.heap.size w wx∧BigIs wx s3 (valN (s.data.toList.take i))∧Hid (valN (s.data.toList.take i)<2^(4*i)))
 case atStart=>exact⟨0,rfl,by omega,by omega,HB,Q0,by show _<_;rw [List.take_zero];decide⟩
 case round =>
   clear HB Q0
   obtain⟨i,rfl,hi,hG,HB,N,H⟩:=hrel
   obtain⟨o3,k3,u3,rfl, -⟩:=N.shape
   by_cases c:i<s.size
   · have ci:(i:Int)<(s.size:Int):=by omega
     have dg:=HD.out i c
     have e1:=byte_take c
     have h1:=H.out
     have h2:=valN_snoc (s.data.toList.take i) s[i]
     rw [←e1] at h2
     unfold isDg at dg
     simp only [Bool.and_eq_true,decide_eq_true_eq] at dg
     obtain⟨d1,d2⟩:=dg
     generalize hc:s[i].toNat=b at *
     obtain⟨D,hD⟩:∃D:Nat,D=b-48:=⟨_,rfl⟩
     rw [←hD] at h2
     have w1:IntKind.u8.wrap ((b:Int)-48)=(D:Int):=by simp only [IntKind.wrap,IntKind.bits,IntKind.signed];simp;omega
     have w2:IntKind.u64.wrap (D:Int)=(D:Int):=by rw [IntKind.wrap_u64];omega
     have cD:=fun W=>of_w D (by omega) W
     have p1:valN (s.data.toList.take i)<2^(4*i+4):=pow_up h1
     have p10:10<2^(4*i+4):=Nat.lt_of_lt_of_le (show 10<2^4 by decide) (Nat.pow_le_pow_right (by omega) (by omega))
     have p2:valN (s.data.toList.take i)*10+D<2^(4*i+4):=by
       rw [Nat.pow_add]
       have:(2:Nat)^4=16:=rfl
       omega
     have cb:=fun W u v (p:BigIs W u (valN (s.data.toList.take i))) (q:BigIs W v 10)=>by_w u v (valN (s.data.toList.take i)) 10 (4*i+4) (by omega) p1 p10 W p q
     have cp:=fun W u v (p:BigIs W u (valN (s.data.toList.take i)*10)) (q:BigIs W v D)=>plus_w u v (valN (s.data.toList.take i)*10) D (4*i+4) (by omega) (by omega) (Nat.lt_of_le_of_lt (by omega) p10) W p q
     have H2:Hid (valN (s.data.toList.take (i+1))<2^(4*(i+1))):=by
       show _<_
       rw [h2,show 4*(i+1)=4*i+4 by omega]
       exact p2
     have H3:Hid (valN (s.data.toList.take (i+1))=valN (s.data.toList.take i)*10+D):=h2
     clear h1 h2 e1 p1 p2 p10 H HD hD
     generalize valN (s.data.toList.take i)=m at *
     generalize m*10=m10 at *
     go_upto_region 5 with fail
     have HD2:Below wr.heap.size wr wr.drew:=(Below.refl _ _).drew
     replace N:=N.keep HD2
     replace HB:=later HB HD2
     clear HD2
     go_region_with (first
       | (go_at_call_of 26 (Value.int .u64 10);(with_reducible refine (c10 _).mono ?_);rintro _ W1 ⟨⟨v1,rfl,T⟩,hb1⟩;obtain⟨o1,k1,u1,rfl, -⟩:=T.shape;replace N:=N.keep hb1;replace HB:=later HB hb1;clear hb1)
       | (go_at_call 28;(with_reducible refine (cb _ _ _ N T).mono ?_);rintro _ W2 ⟨⟨v2,rfl,M⟩,hb1⟩;obtain⟨o2,k2,u2,rfl, -⟩:=M.shape;replace HB:=later HB hb1;clear hb1)
       | (go_at_call 26;(with_reducible refine (cD _).mono ?_);rintro _ W3 ⟨⟨v3,rfl,E⟩,hb1⟩;obtain⟨o4,k4,u4,rfl, -⟩:=E.shape;replace M:=M.keep hb1;replace HB:=later HB hb1;clear hb1)
       | (go_at_call 55;(with_reducible refine (cp _ _ _ M E).mono ?_);rintro _ W4 ⟨⟨v4,rfl,S⟩,hb1⟩;replace HB:=later HB hb1;clear hb1))
     all_goals
       rw [←H3.out] at S
       go_wp2_with fail
       (go_roundg (s.size-i-1)
        case measure=>omega
        case rel=>exact⟨i+1,by go_num,by omega,by omega,HB,S,H2⟩)
   · have ci:¬(i:Int)<(s.size:Int):=by omega
     have e:s.data.toList.take i=s.data.toList:=List.take_of_length_le (by simp;omega)
     rw [e] at N
     clear H HD e
     go_wp2_with fail
     go_ret
     exact⟨⟨_,rfl,N⟩,HB⟩
end Go.Proofs.YtgocelaghggpmaaDoor
