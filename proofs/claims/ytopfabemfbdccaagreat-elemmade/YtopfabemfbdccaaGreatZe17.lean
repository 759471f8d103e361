/- The reference's numbers between two: part, a number by a small whole one. -/
import Derived.Test.YtopfabemfbdccaaGreatZe12
namespace Go.Proofs.YtopfabemfbdccaaGreat
open Go.ChangeShapes Go.WideShapes Go.ChangeAt Go.RowKit
set_option maxHeartbeats 1600000 in
theorem plus_d (va vb:Value) (ds es:List Nat) (d1:Digs ds) (e1:Digs es) (K:Nat) (hK:K≤1000000) (l1:32*ds.length<K+32) (l2:32*es.length<K+32) (w:World) (hra:Row w va ds) (hrb:Row w vb es) :
   Calls Tryz.prog 145 #[va,vb] w fun e w'=>(∃v',e=.returned v'∧BigIs w' v' (natOf ds+natOf es))∧Below w.heap.size w w':=by
 obtain⟨ao,ca,rfl,hca⟩:=hra.open_
 obtain⟨bo,cb,rfl,hcb⟩:=hrb.open_
 clear hra hrb
 go_enter Tryz.func145,Tryz.ntmps145
 go_wp2
 go_loopg [5,6,7] (ds.length+es.length) (fun G s5 s6 s7 wx=>Below w.heap.size w wx∧w.heap.size≤wx.heap.size∧∃(k c:Nat) (os:List Nat),s6=.int .u64 (c:Int)∧s7=.int .i64 (k:Int)∧c≤1∧k+G=ds.length+es.length∧Hid (os.length=k)∧Digs os∧Own w.heap.size wx s5 os ∧
   Hid (natOf os+4294967296^k*c=natOf (ds.take k)+natOf (es.take k)))
 case atStart=>exact⟨by go_grown,by go_size,0,0,[],rfl,rfl,by omega,by omega,rfl,Digs.nil,own_empty w,by show _=_;simp [natOf]⟩
 case round =>
   obtain⟨hB,hS,k,c,os,rfl,rfl,hc1,hkG,hol,hod,hown,hval⟩:=hrel
   have hdl:=d1.getD k
   have hel:=e1.getD k
   have hst:=fun o q=>plus_step (o:=o) (q:=q) hol.out hval.out
   by_cases ka:k<ds.length
   · obtain⟨g,rfl,hg,hca⟩:=hca (by omega)
     have c1:=(hB.cell (by exact hg)).trans (hca k ka)
     by_cases kb:k<es.length
     · obtain⟨f,rfl,hf,hcb⟩:=hcb (by omega)
       have c2:=(hB.cell (by exact hf)).trans (hcb k kb)
       clear hca hcb
       generalize ds.getD k 0=D at *
       generalize es.getD k 0=E at *
       obtain⟨o,q,ho,hq,hoq⟩:=parts32 (c+D+E)
       have ho':IntKind.u32.wrap ((c:Int)+D+E)=(o:Int):=by have:=ho;simp only [Int.natCast_add] at this;exact this
       have hq':((c:Int)+D+E)/4294967296=(q:Int):=by have:=hq;simp only [Int.natCast_add] at this;exact this
       have HST:Hid _:=hst o q (by have:=hoq.1;omega)
       have HO:Hid _:=hoq
       have holb:os.length≤2000000:=by have:=hol.out;omega
       have hcz:(c:Int)≤1:=by omega
       clear hst hoq hval ho hq
       go_wp2_with (at_builtin;refine wpList_push (by rfl) _ _ (by rfl) _ os o (by rfl) (by rfl) hown holb hS hB ?_;intro v' w' hown' hB' hS')
       have hoq:=HO.out
       go_roundg (gk-1)
       case measure=>omega
       case rel=>exact⟨hB',hS',k+1,q,os++[o],rfl,by go_num,by omega,by omega,by show _=_;rw [List.length_append,hol.out];rfl,hod.append (Digs.one hoq.2.1),hown',HST⟩
     · have hE:=getD_ge es (k:=k) (by omega)
       clear hca hcb
       generalize ds.getD k 0=D at *
       generalize es.getD k 0=E at *
       obtain⟨o,q,ho,hq,hoq⟩:=parts32 (c+D)
       have ho':IntKind.u32.wrap ((c:Int)+D)=(o:Int):=by have:=ho;simp only [Int.natCast_add] at this;exact this
       have hq':((c:Int)+D)/4294967296=(q:Int):=by have:=hq;simp only [Int.natCast_add] at this;exact this
       have HST:Hid _:=hst o q (by have:=hoq.1;omega)
       have HO:Hid _:=hoq
       have holb:os.length≤2000000:=by have:=hol.out;omega
       have hcz:(c:Int)≤1:=by omega
       clear hst hoq hval ho hq
       go_wp2_with (at_builtin;refine wpList_push (by rfl) _ _ (by rfl) _ os o (by rfl) (by rfl) hown holb hS hB ?_;intro v' w' hown' hB' hS')
       have hoq:=HO.out
       go_roundg (gk-1)
       case measure=>omega
       case rel=>exact⟨hB',hS',k+1,q,os++[o],rfl,by go_num,by omega,by omega,by show _=_;rw [List.length_append,hol.out];rfl,hod.append (Digs.one hoq.2.1),hown',HST⟩
   · have hD:=getD_ge ds (k:=k) (by omega)
     by_cases kb:k<es.length
     · obtain⟨f,rfl,hf,hcb⟩:=hcb (by omega)
       have c2:=(hB.cell (by exact hf)).trans (hcb k kb)
       clear hca hcb
       generalize ds.getD k 0=D at *
       generalize es.getD k 0=E at *
       obtain⟨o,q,ho,hq,hoq⟩:=parts32 (c+E)
       have ho':IntKind.u32.wrap ((c:Int)+E)=(o:Int):=by have:=ho;simp only [Int.natCast_add] at this;exact this
       have hq':((c:Int)+E)/4294967296=(q:Int):=by have:=hq;simp only [Int.natCast_add] at this;exact this
       have HST:Hid _:=hst o q (by have:=hoq.1;omega)
       have HO:Hid _:=hoq
       have holb:os.length≤2000000:=by have:=hol.out;omega
       have hcz:(c:Int)≤1:=by omega
       clear hst hoq hval ho hq
       go_wp2_with (at_builtin;refine wpList_push (by rfl) _ _ (by rfl) _ os o (by rfl) (by rfl) hown holb hS hB ?_;intro v' w' hown' hB' hS')
       have hoq:=HO.out
       go_roundg (gk-1)
       case measure=>omega
       case rel=>exact⟨hB',hS',k+1,q,os++[o],rfl,by go_num,by omega,by omega,by show _=_;rw [List.length_append,hol.out];rfl,hod.append (Digs.one hoq.2.1),hown',HST⟩
     · have hend:=plus_end hol.out hval.out (by omega) (by omega)
       have hwr:IntKind.u32.wrap (c:Int)=(c:Int):=by simp only [IntKind.wrap,IntKind.bits,IntKind.signed];simp;omega
       have holb:os.length≤2000000:=by have:=hol.out;omega
       have hdd:Digs (os++[c]):=hod.append (Digs.one (by omega))
       have hlen:(os++[c]).length≤1000000:=by rw [List.length_append,hol.out];simp;omega
       have HE:Hid _:=hend
       clear hst hval hend hdl hel
       go_wp2_with (first | (at_builtin;refine wpList_push (by rfl) _ _ (by rfl) _ os c (by rfl) (by rfl) hown holb hS hB ?_;intro v' w' hown' hB' hS') | (go_at_call 147;refine (trim_w _ (os++[c]) hdd hlen _ hown'.row).mono ?_;rintro _ _ ⟨⟨v2,rfl,hv⟩,rfl⟩))
       rw [HE.out] at hv
       go_ret
       exact⟨⟨_,rfl,hv⟩,hB'⟩
theorem part_step {n Q r D T o r':Nat} (hT:T=r*4294967296+D) (ho:o=T/n) (hr:r'=T%n) {N:Nat} (h:N=n*Q+r):D+4294967296*N=n*(o+4294967296*Q)+r':=by
 have e:=Nat.div_add_mod T n
 rw [←ho,←hr] at e
 rw [h,Nat.mul_add,Nat.mul_add,Nat.mul_left_comm 4294967296 n Q]
 omega
theorem part_small {n r D T:Nat} (hn:0<n) (hr:r<n) (hD:D<4294967296) (hT:T=r*4294967296+D):T/n<4294967296:=by
 rw [Nat.div_lt_iff_lt_mul hn,hT]
 have:=Nat.mul_le_mul_right 4294967296 (show r+1≤n from hr)
 rw [Nat.add_mul] at this
 rw [Nat.mul_comm 4294967296 n]
 omega
theorem part_end {n Q r N:Nat} (hn:0<n) (hr:r<n) (h:N=n*Q+r):N/n=Q∧N%n=r:=by
 constructor
 · rw [h,Nat.mul_add_div hn,Nat.div_eq_of_lt hr,Nat.add_zero]
 · rw [h,Nat.mul_add_mod,Nat.mod_eq_of_lt hr]
theorem natOf_drop_set {os:List Nat} {i o:Nat} (hi:i<os.length):natOf ((os.set i o).drop i)=o+4294967296*natOf (os.drop (i+1)):=by
 rw [natOf_drop_step,List.drop_set_of_lt (by omega)]
 have:(os.set i o).getD i 0=o:=by simp [List.getD_eq_getElem?_getD,hi]
 rw [this]
def upN (m:Nat):Nat:=if m=0 then 0 else 224-bitsN m
def ptQN (R k:Nat) (lo g:Bool):Nat:=R/k+(if R%k≠0∧lo=g then 1 else 0)
def partX (a:Nm) (k:Nat) (lo:Bool):Nm:=⟨a.g&&decide (0<ptQN (a.m*2^upN a.m) k lo a.g),ptQN (a.m*2^upN a.m) k lo a.g,a.e-(upN a.m:Int)⟩
set_option maxRecDepth 4000 in
set_option maxHeartbeats 4000000 in
theorem part_core {g:Bool} {ao:Option Addr} {l ca:Nat} {e:Int} (he:-100000≤e∧e≤100000) (lo:Bool) (dir:Int) (hd:dir=dirZ lo) (k:Nat) (hk:0<k) (hk2:k<1073741824) (up Rn:Nat) (hup:(up:Int)≤224) (N:Int) (w:World)
   (hl:((l:Int)==0)=false) (hup2:224-N=(up:Int))
   (cb:∀W,Below w.heap.size w W→Calls Tryz.prog 87 #[.slice ao l ca] W fun e w'=>e=.returned (.int .i64 N)∧W=w')
   (cl:∀W,Below w.heap.size w W→Calls Tryz.prog 143 #[.slice ao l ca,.int .i64 (up:Int)] W fun e w'=>(∃v',e=.returned v'∧BigIs w' v' Rn)∧Below W.heap.size W w') (KR:Nat) (hKR:KR≤20000) (hR:Rn<2^KR) :
   Calls Tryz.prog 208 #[.agg #[.bool g,.slice ao l ca,.int .i64 e],.int .i64 (k:Int),.int .i64 dir] w fun r w'=>(∃v,r=.returned (.agg #[.bool (g&&decide (0<ptQN Rn k lo g)),v,.int .i64 (e-up)])∧BigIs w' v (ptQN Rn k lo g))∧Below w.heap.size w w':=by
 have X:Has3 ((w.alloc (.cells #[.bool g,.slice ao l ca,.int .i64 e] 29)).alloc (.cells #[.bool false,.slice none 0 0,.int .i64 0] 29)) w.heap.size (.bool g) (.slice ao l ca) (.int .i64 e):=⟨by go_simp,by go_simp,by go_simp,by go_simp,by go_simp,by go_simp,by go_size⟩
 have R:Has3 ((w.alloc (.cells #[.bool g,.slice ao l ca,.int .i64 e] 29)).alloc (.cells #[.bool false,.slice none 0 0,.int .i64 0] 29)) (w.heap.size+1) (.bool false) (.slice none 0 0) (.int .i64 0):=⟨by go_simp,by go_simp,by go_simp,by go_simp,by go_simp,by go_simp,by go_size⟩
 have B:=Boxed.new (w.alloc (.cells #[.bool g,.slice ao l ca,.int .i64 e] 29)) #[.bool false,.slice none 0 0,.int .i64 0]
 simp only [World.size_alloc] at B
 have HB:Below w.heap.size w ((w.alloc (.cells #[.bool g,.slice ao l ca,.int .i64 e] 29)).alloc (.cells #[.bool false,.slice none 0 0,.int .i64 0] 29)):=by go_grown
 obtain⟨he1,he2⟩:=he
 have hup0:(0:Int)≤(up:Int):=by omega
 go_enter Tryz.func208,Tryz.ntmps208
 go_upto_region 1 with fail
 generalize ((w.alloc (.cells #[.bool g,.slice ao l ca,.int .i64 e] 29)).alloc (.cells #[.bool false,.slice none 0 0,.int .i64 0] 29))=V1 at *
 obtain⟨x0,x1,x2,x3,x4,x5,xl⟩:=id X
 obtain⟨r0,r1,r2,r3,r4,r5,rl⟩:=id R
 have hge:¬(up:Int)<0:=by omega
 go_upto_region 5 with (first | (go_at_call 87;refine (cb _ HB).mono ?_;rintro _ _ ⟨rfl,rfl⟩) | (go_at_call 143;refine (cl _ HB).mono ?_;rintro _ V2 ⟨⟨v2,rfl,hv⟩,hb1⟩;replace X:=X.keep hb1;replace R:=R.keep hb1;replace B:=B.keep hb1;replace HB:=later HB hb1;clear hb1 x0 x1 x2 x3 x4 x5 xl r0 r1 r2 r3 r4 r5 rl;obtain⟨x0,x1,x2,x3,x4,x5,xl⟩:=id X;obtain⟨r0,r1,r2,r3,r4,r5,rl⟩:=id R))
 obtain⟨ds,d1,d2,hds,hrow⟩:=hv
 have l1:=d2.len (show natOf ds<2^KR by rw [hds];exact hR)
 obtain⟨bo,cb',rfl,hcb⟩:=hrow.open_
 subst hds
 have hLb:ds.length≤1000:=by omega
 clear hR d2 cl hrow cb l1 hKR
 have hcb2:Hid (∀j,j<ds.length→∃gb,bo=some ⟨gb,0,none⟩∧gb<V2.heap.size∧V2.cell? ⟨gb,j,none⟩=some (.int .u32 (ds.getD j 0:Int))):=fun j hj=>by
   obtain⟨gb,e1,e2,e3⟩:=hcb (by omega)
   exact⟨gb,e1,e2,e3 j hj⟩
 clear hcb
 go_wp2_with (at_make;refine wpList_zeros (by rfl) _ _ (by rfl) ds.length (by rfl) (by rfl) (by omega) ?_;intro w3 hown hB3 hS3)
 have X0:=X
 have R0:=R
 have B0:=B
 have HB0:=HB
 clear x0 x1 x2 x3 x4 x5 xl r0 r1 r2 r3 r4 r5 rl X R B HB
 go_loopg [10,11] ds.length (fun G s10 s11 wx=>∃(i r:Nat) (os:List Nat),s11=.int .i64 ((i:Int)-1)∧i≤G∧i≤ds.length∧s10=.int .u64 (r:Int)∧(r:Int)<(k:Int)∧ByS V2 ds.length os wx∧Digs os∧Hid (natOf (ds.drop i)=k*natOf (os.drop i)+r))
 case atStart=>exact⟨ds.length,0,List.replicate ds.length 0,rfl,Nat.le_refl _,Nat.le_refl _,rfl,by omega,⟨hB3,by simp,hS3,by have:=hown;unfold Own at this;simpa using this⟩,digs_zeros _,by show _=_;rw [List.drop_of_length_le (Nat.le_refl _),List.drop_of_length_le (by simp)];simp [natOf]⟩
 case round =>
   obtain⟨i,r,os,rfl,hiG,hil,rfl,hrk,hst,hod,hval⟩:=hrel
   rcases Nat.eq_zero_or_pos i with rfl | hi0
   · have hend:=part_end hk (show r<k by omega) (by have:=hval.out;simpa using this)
     have X:=X0.keep (later (Below.refl _ _) hst.bel)
     have R:=R0.keep (later (Below.refl _ _) hst.bel)
     have B:=B0.keep (later (Below.refl _ _) hst.bel)
     have HB:=later HB0 hst.bel
     clear X0 R0 B0 HB0 hval hcb2 hown hB3 hS3 hiG hil
     obtain⟨x0,x1,x2,x3,x4,x5,xl⟩:=id X
     obtain⟨r0,r1,r2,r3,r4,r5,rl⟩:=id R
     have hlo:os.length=ds.length:=hst.len
     have cp:=fun W (hW:Below wr.heap.size wr W) (hr:Row W (.slice (some ⟨wr.heap.size,0,none⟩) 0 0) [])=>plus_d (.slice (some ⟨V2.heap.size,0,none⟩) ds.length ds.length) (.slice (some ⟨wr.heap.size,0,none⟩) 0 0) os [] hod Digs.nil 100000 (by omega) (by omega) (by simp) W (hst.row.keep hW) hr
     obtain⟨KQ,hKQ⟩:∃KQ,KQ=32*ds.length+1:=⟨_,rfl⟩
     have hq:natOf os<2^KQ:=by
       have:=natOf_lt hod
       rw [pow32,hlo] at this
       exact Nat.lt_of_lt_of_le this (Nat.pow_le_pow_right (by omega) (by omega))
     have one:(1:Nat)<2^KQ:=by
       have:2^1≤2^KQ:=Nat.pow_le_pow_right (by omega) (by omega)
       omega
     have c1:=fun W=>of_w 1 (by omega) W
     have hne:=own_empty wr
     have cp2:∀W,W=wr.alloc (.cells #[] 132)→Calls Tryz.prog 145 #[.slice (some ⟨V2.heap.size,0,none⟩) ds.length ds.length,.slice (some ⟨wr.heap.size,0,none⟩) 0 0] W fun e w'=>(∃v',e=.returned v'∧BigIs w' v' (natOf os))∧Below W.heap.size W w':=fun W hW=>by
       subst hW
       have:=cp _ (by go_grown) hne.row
       simpa [natOf] using this
     have cq:=fun W v1 v2 (q1:BigIs W v1 (natOf os)) (q2:BigIs W v2 1)=>plus_w v1 v2 (natOf os) 1 KQ (by omega) hq one W q1 q2
     have HP:Hid (ptQN (natOf ds) k lo g=natOf os+(if r≠0∧lo=g then 1 else 0)):=by show _=_;unfold ptQN;rw [hend.1,hend.2]
     clear hend hq one cp hne hst hod hlo hKQ
     generalize natOf os=Q at *
     subst hd
     have hr0:r=0∨(r≠0∧(r:Int)>0):=by omega
     go_upto_region 14 with (go_at_call 145;refine (cp2 _ rfl).mono ?_;rintro _ V5 ⟨⟨v5,rfl,h5⟩,hb0⟩;obtain⟨o5,k5,c5,rfl,hk5⟩:=h5.shape;have hb1:=later (show Below wr.heap.size wr _ by go_grown) hb0;clear hb0;replace X:=X.keep hb1;replace R:=R.keep hb1;replace B:=B.keep hb1;replace HB:=later HB hb1;clear hb1 x0 x1 x2 x3 x4 x5 xl r0 r1 r2 r3 r4 r5 rl;obtain⟨x0,x1,x2,x3,x4,x5,xl⟩:=id X;obtain⟨r0,r1,r2,r3,r4,r5,rl⟩:=id R)
     clear cp2
     cases g <;> cases lo <;> simp only [dirZ,if_true,Bool.false_eq_true,if_false] at *
     · rcases hr0 with rfl | ⟨hr1,hr2⟩
       · have HP2:Hid (ptQN (natOf ds) k false false=Q):=by show _=_;rw [HP.out,if_neg (fun q=>q.1 rfl),Nat.add_zero]
         clear HP cq c1
         go_wp2_with fail
         refine bodyPost_ret (v:=.agg #[.bool false,.slice o5 k5 c5,.int .i64 (e-up)]) (by simp [results,Tryz.results208,go_sem, *]) rfl ⟨⟨.slice o5 k5 c5, ?_, ?_⟩, ?_⟩
         · first | rfl | simp
         · have q:=HP2.out
           rw [q]
           repeat' (first | (with_reducible exact h5) | (with_reducible exact B) | (with_reducible refine BigIs.put ?_ ?_ _ _) | (with_reducible refine Boxed.set ?_ _ _ _))
         · repeat' (first | (with_reducible exact HB) | (with_reducible refine Below.setCell ?_ ?_ _) | go_size)
       · have HP2:Hid (ptQN (natOf ds) k false false=Q+1):=by show _=_;rw [HP.out,if_pos ⟨hr1,by simp⟩]
         clear HP
         go_upto_region 16 with (first
           | (go_at_call 90;refine (c1 _).mono ?_;rintro _ V6 ⟨⟨v6,rfl,h6⟩,hb1⟩;obtain⟨o6,k6,c6,rfl, -⟩:=h6.shape;replace h5:=h5.keep hb1;replace X:=X.keep hb1;replace R:=R.keep hb1;replace B:=B.keep hb1;replace HB:=later HB hb1;clear hb1 x0 x1 x2 x3 x4 x5 xl r0 r1 r2 r3 r4 r5 rl;obtain⟨x0,x1,x2,x3,x4,x5,xl⟩:=id X;obtain⟨r0,r1,r2,r3,r4,r5,rl⟩:=id R)
           | (go_at_call 145;refine (cq _ _ _ h5 h6).mono ?_;rintro _ V7 ⟨⟨v7,rfl,h7⟩,hb1⟩;obtain⟨o7,k7,c7,rfl,hk7⟩:=h7.shape;replace X:=X.keep hb1;replace R:=R.keep hb1;replace B:=B.keep hb1;replace HB:=later HB hb1;clear hb1 x0 x1 x2 x3 x4 x5 xl r0 r1 r2 r3 r4 r5 rl;obtain⟨x0,x1,x2,x3,x4,x5,xl⟩:=id X;obtain⟨r0,r1,r2,r3,r4,r5,rl⟩:=id R))
         have z7:k7≠0:=fun q=>by have:=hk7.1 q;omega
         have q1:0<k7:=by omega
         have q2:decide (0<Q+1)=true:=decide_eq_true (by omega)
         clear h5 h6 hk5 hk7
         go_wp2_with fail
         refine bodyPost_ret (v:=.agg #[.bool false,.slice o7 k7 c7,.int .i64 (e-up)]) (by simp [results,Tryz.results208,go_sem, *]) rfl ⟨⟨.slice o7 k7 c7, ?_, ?_⟩, ?_⟩
         · first | rfl | (rw [HP2.out,q2];rfl)
         · have q:=HP2.out
           rw [q]
           repeat' (first | (with_reducible exact h7) | (with_reducible exact B) | (with_reducible refine BigIs.put ?_ ?_ _ _) | (with_reducible refine Boxed.set ?_ _ _ _))
         · repeat' (first | (with_reducible exact HB) | (with_reducible refine Below.setCell ?_ ?_ _) | go_size)
     · rcases hr0 with rfl | ⟨hr1,hr2⟩
       · have HP2:Hid (ptQN (natOf ds) k true false=Q):=by show _=_;rw [HP.out,if_neg (fun q=>q.1 rfl),Nat.add_zero]
         clear HP cq c1
         go_wp2_with fail
         refine bodyPost_ret (v:=.agg #[.bool false,.slice o5 k5 c5,.int .i64 (e-up)]) (by simp [results,Tryz.results208,go_sem, *]) rfl ⟨⟨.slice o5 k5 c5, ?_, ?_⟩, ?_⟩
         · first | rfl | simp
         · have q:=HP2.out
           rw [q]
           repeat' (first | (with_reducible exact h5) | (with_reducible exact B) | (with_reducible refine BigIs.put ?_ ?_ _ _) | (with_reducible refine Boxed.set ?_ _ _ _))
         · repeat' (first | (with_reducible exact HB) | (with_reducible refine Below.setCell ?_ ?_ _) | go_size)
       · have HP2:Hid (ptQN (natOf ds) k true false=Q):=by show _=_;rw [HP.out,if_neg (fun q=>by cases q.2),Nat.add_zero]
         clear HP cq c1
         go_wp2_with fail
         refine bodyPost_ret (v:=.agg #[.bool false,.slice o5 k5 c5,.int .i64 (e-up)]) (by simp [results,Tryz.results208,go_sem, *]) rfl ⟨⟨.slice o5 k5 c5, ?_, ?_⟩, ?_⟩
         · first | rfl | simp
         · have q:=HP2.out
           rw [q]
           repeat' (first | (with_reducible exact h5) | (with_reducible exact B) | (with_reducible refine BigIs.put ?_ ?_ _ _) | (with_reducible refine Boxed.set ?_ _ _ _))
         · repeat' (first | (with_reducible exact HB) | (with_reducible refine Below.setCell ?_ ?_ _) | go_size)
     · rcases hr0 with rfl | ⟨hr1,hr2⟩
       · have HP2:Hid (ptQN (natOf ds) k false true=Q):=by show _=_;rw [HP.out,if_neg (fun q=>q.1 rfl),Nat.add_zero]
         clear HP cq c1
         by_cases z:Q=0
         · have z5:k5=0:=hk5.2 z
           subst z5
           replace z:Hid (Q=0):=z
           clear hk5
           go_wp2_with fail
           refine bodyPost_ret (v:=.agg #[.bool false,.slice o5 0 c5,.int .i64 (e-up)]) (by simp [results,Tryz.results208,go_sem, *]) rfl ⟨⟨.slice o5 0 c5, ?_, ?_⟩, ?_⟩
           · rw [HP2.out,z.out];rfl
           · have q:=HP2.out
             rw [q]
             repeat' (first | (with_reducible exact h5) | (with_reducible exact B) | (with_reducible refine BigIs.put ?_ ?_ _ _) | (with_reducible refine Boxed.set ?_ _ _ _))
           · repeat' (first | (with_reducible exact HB) | (with_reducible refine Below.setCell ?_ ?_ _) | go_size)
         · have z5:k5≠0:=fun q=>z (hk5.1 q)
           have q1:0<k5:=by omega
           have q2:decide (0<Q)=true:=decide_eq_true (by omega)
           clear z hk5
           go_wp2_with fail
           refine bodyPost_ret (v:=.agg #[.bool true,.slice o5 k5 c5,.int .i64 (e-up)]) (by simp [results,Tryz.results208,go_sem, *]) rfl ⟨⟨.slice o5 k5 c5, ?_, ?_⟩, ?_⟩
           · rw [HP2.out,q2];rfl
           · have q:=HP2.out
             rw [q]
             repeat' (first | (with_reducible exact h5) | (with_reducible exact B) | (with_reducible refine BigIs.put ?_ ?_ _ _) | (with_reducible refine Boxed.set ?_ _ _ _))
           · repeat' (first | (with_reducible exact HB) | (with_reducible refine Below.setCell ?_ ?_ _) | go_size)
       · have HP2:Hid (ptQN (natOf ds) k false true=Q):=by show _=_;rw [HP.out,if_neg (fun q=>by cases q.2),Nat.add_zero]
         clear HP cq c1
         by_cases z:Q=0
         · have z5:k5=0:=hk5.2 z
           subst z5
           replace z:Hid (Q=0):=z
           clear hk5
           go_wp2_with fail
           refine bodyPost_ret (v:=.agg #[.bool false,.slice o5 0 c5,.int .i64 (e-up)]) (by simp [results,Tryz.results208,go_sem, *]) rfl ⟨⟨.slice o5 0 c5, ?_, ?_⟩, ?_⟩
           · rw [HP2.out,z.out];rfl
           · have q:=HP2.out
             rw [q]
             repeat' (first | (with_reducible exact h5) | (with_reducible exact B) | (with_reducible refine BigIs.put ?_ ?_ _ _) | (with_reducible refine Boxed.set ?_ _ _ _))
           · repeat' (first | (with_reducible exact HB) | (with_reducible refine Below.setCell ?_ ?_ _) | go_size)
         · have z5:k5≠0:=fun q=>z (hk5.1 q)
           have q1:0<k5:=by omega
           have q2:decide (0<Q)=true:=decide_eq_true (by omega)
           clear z hk5
           go_wp2_with fail
           refine bodyPost_ret (v:=.agg #[.bool true,.slice o5 k5 c5,.int .i64 (e-up)]) (by simp [results,Tryz.results208,go_sem, *]) rfl ⟨⟨.slice o5 k5 c5, ?_, ?_⟩, ?_⟩
           · rw [HP2.out,q2];rfl
           · have q:=HP2.out
             rw [q]
             repeat' (first | (with_reducible exact h5) | (with_reducible exact B) | (with_reducible refine BigIs.put ?_ ?_ _ _) | (with_reducible refine Boxed.set ?_ _ _ _))
           · repeat' (first | (with_reducible exact HB) | (with_reducible refine Below.setCell ?_ ?_ _) | go_size)
     · rcases hr0 with rfl | ⟨hr1,hr2⟩
       · have HP2:Hid (ptQN (natOf ds) k true true=Q):=by show _=_;rw [HP.out,if_neg (fun q=>q.1 rfl),Nat.add_zero]
         clear HP cq c1
         by_cases z:Q=0
         · have z5:k5=0:=hk5.2 z
           subst z5
           replace z:Hid (Q=0):=z
           clear hk5
           go_wp2_with fail
           refine bodyPost_ret (v:=.agg #[.bool false,.slice o5 0 c5,.int .i64 (e-up)]) (by simp [results,Tryz.results208,go_sem, *]) rfl ⟨⟨.slice o5 0 c5, ?_, ?_⟩, ?_⟩
           · rw [HP2.out,z.out];rfl
           · have q:=HP2.out
             rw [q]
             repeat' (first | (with_reducible exact h5) | (with_reducible exact B) | (with_reducible refine BigIs.put ?_ ?_ _ _) | (with_reducible refine Boxed.set ?_ _ _ _))
           · repeat' (first | (with_reducible exact HB) | (with_reducible refine Below.setCell ?_ ?_ _) | go_size)
         · have z5:k5≠0:=fun q=>z (hk5.1 q)
           have q1:0<k5:=by omega
           have q2:decide (0<Q)=true:=decide_eq_true (by omega)
           clear z hk5
           go_wp2_with fail
           refine bodyPost_ret (v:=.agg #[.bool true,.slice o5 k5 c5,.int .i64 (e-up)]) (by simp [results,Tryz.results208,go_sem, *]) rfl ⟨⟨.slice o5 k5 c5, ?_, ?_⟩, ?_⟩
           · rw [HP2.out,q2];rfl
           · have q:=HP2.out
             rw [q]
             repeat' (first | (with_reducible exact h5) | (with_reducible exact B) | (with_reducible refine BigIs.put ?_ ?_ _ _) | (with_reducible refine Boxed.set ?_ _ _ _))
           · repeat' (first | (with_reducible exact HB) | (with_reducible refine Below.setCell ?_ ?_ _) | go_size)
       · have HP2:Hid (ptQN (natOf ds) k true true=Q+1):=by show _=_;rw [HP.out,if_pos ⟨hr1,by simp⟩]
         clear HP
         go_upto_region 16 with (first
           | (go_at_call 90;refine (c1 _).mono ?_;rintro _ V6 ⟨⟨v6,rfl,h6⟩,hb1⟩;obtain⟨o6,k6,c6,rfl, -⟩:=h6.shape;replace h5:=h5.keep hb1;replace X:=X.keep hb1;replace R:=R.keep hb1;replace B:=B.keep hb1;replace HB:=later HB hb1;clear hb1 x0 x1 x2 x3 x4 x5 xl r0 r1 r2 r3 r4 r5 rl;obtain⟨x0,x1,x2,x3,x4,x5,xl⟩:=id X;obtain⟨r0,r1,r2,r3,r4,r5,rl⟩:=id R)
           | (go_at_call 145;refine (cq _ _ _ h5 h6).mono ?_;rintro _ V7 ⟨⟨v7,rfl,h7⟩,hb1⟩;obtain⟨o7,k7,c7,rfl,hk7⟩:=h7.shape;replace X:=X.keep hb1;replace R:=R.keep hb1;replace B:=B.keep hb1;replace HB:=later HB hb1;clear hb1 x0 x1 x2 x3 x4 x5 xl r0 r1 r2 r3 r4 r5 rl;obtain⟨x0,x1,x2,x3,x4,x5,xl⟩:=id X;obtain⟨r0,r1,r2,r3,r4,r5,rl⟩:=id R))
         have z7:k7≠0:=fun q=>by have:=hk7.1 q;omega
         have q1:0<k7:=by omega
         have q2:decide (0<Q+1)=true:=decide_eq_true (by omega)
         clear h5 h6 hk5 hk7
         go_wp2_with fail
         refine bodyPost_ret (v:=.agg #[.bool true,.slice o7 k7 c7,.int .i64 (e-up)]) (by simp [results,Tryz.results208,go_sem, *]) rfl ⟨⟨.slice o7 k7 c7, ?_, ?_⟩, ?_⟩
         · first | rfl | (rw [HP2.out,q2];rfl)
         · have q:=HP2.out
           rw [q]
           repeat' (first | (with_reducible exact h7) | (with_reducible exact B) | (with_reducible refine BigIs.put ?_ ?_ _ _) | (with_reducible refine Boxed.set ?_ _ _ _))
         · repeat' (first | (with_reducible exact HB) | (with_reducible refine Below.setCell ?_ ?_ _) | go_size)
   · obtain⟨j,rfl⟩:∃j,i=j+1:=⟨i-1,by omega⟩
     obtain⟨gb,rfl,hgb,cD0⟩:=hcb2.out j (by omega)
     have cD:=(hst.bel.cell (by exact hgb)).trans cD0
     have hD:=d1.getD j
     have hnd:=natOf_drop_step ds j
     have c3:=hst.cell (k:=j) (by omega)
     have f3:=hst.frozen j
     have hjo:j<os.length:=by rw [hst.len];omega
     clear cD0
     generalize ds.getD j 0=D at *
     generalize os.getD j 0=O3 at *
     obtain⟨S,hS1⟩:∃S,S=r*4294967296:=⟨_,rfl⟩
     have hrn:r<1073741824:=by omega
     have hsh:IntKind.u64.wrap ((r:Int)*4294967296)=(S:Int):=by rw [hS1,IntKind.wrap_u64];omega
     have hor:bits .or .u64 (S:Int) (D:Int)=((S+D:Nat):Int):=by
       rw [u64_or_nat S D (by omega) (by omega),nat_join 32 S D (by rw [hS1];omega) (by omega)]
     obtain⟨T,hT⟩:∃T,T=S+D:=⟨_,rfl⟩
     rw [←hT] at hor
     have hT2:T=r*4294967296+D:=by rw [hT,hS1]
     obtain⟨o,ho⟩:∃o,o=T/k:=⟨_,rfl⟩
     obtain⟨r',hr'⟩:∃r',r'=T%k:=⟨_,rfl⟩
     have hos:o<4294967296:=by rw [ho];exact part_small hk (by omega) hD hT2
     have hrs:r'<k:=by rw [hr'];exact Nat.mod_lt _ hk
     have hdv:(T:Int)/(k:Int)=(o:Int):=by rw [ho];simp
     have hmd:(T:Int)%(k:Int)=(r':Int):=by rw [hr'];simp
     have hwk:IntKind.u64.wrap (k:Int)=(k:Int):=by rw [IntKind.wrap_u64];omega
     have hk0:((k:Int)==0)=false:=by rw [beq_eq_false_iff_ne];omega
     have hw1:IntKind.u32.wrap (o:Int)=(o:Int):=by simp only [IntKind.wrap,IntKind.bits,IntKind.signed];simp;omega
     have hw2:(o:Int)%4294967296=(o:Int):=by omega
     have hTl:(T:Int)<18446744073709551616:=by omega
     have hst':=hst.set j o
     have HV:Hid (natOf (ds.drop j)=k*natOf ((os.set j o).drop j)+r'):=by
       show _=_
       rw [hnd,natOf_drop_set hjo]
       exact part_step hT2 ho hr' hval.out
     have hrk2:(r':Int)<(k:Int):=by omega
     have hjL:(j:Int)<(ds.length:Int):=by omega
     have h1:(j:Int)+1-1=(j:Int):=by omega
     clear hval hS1 hT hT2 ho hr' hnd hi0 hrn hrs X0 R0 B0 HB0 hown hB3
     go_wp2_with fail
     go_roundg j
     case measure=>omega
     case rel=>exact⟨j,r',_,by go_num,Nat.le_refl _,by omega,by rw [hmd],hrk2,hst',hod.set _ hos,HV⟩
end Go.Proofs.YtopfabemfbdccaaGreat
