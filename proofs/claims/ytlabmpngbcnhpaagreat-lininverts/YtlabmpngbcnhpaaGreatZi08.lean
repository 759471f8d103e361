/- Slices of the reference's numbers, and of rows of them, that a call makes: one more at their end. Plain arithmetic of a long division by two digits of 32 bits (no Go text is spoken of here). The walk of math/bits' Div64, of a divisor whose first bit is set: quotient and rest of two words by one. -/
import Derived.Test.YtlabmpngbcnhpaaGreatZi07
import Derived.Handy
import Derived.WalkKit
import Derived.Test.YtlabmpngbcnhpaaGreatZi02
import Derived.Deep.CutBlock
import Derived.Deep.CutRange
import Derived.Deep.LoopGhost
namespace Go.Proofs.YtlabmpngbcnhpaaGreat
open Go.ChangeShapes Go.WideShapes Go.ChangeAt Go.RowKit
structure Nv where
 g:Bool
 a:Option Addr
 l:Nat
 c:Nat
 e:Int
def Nv.val (z:Nv):Value:=.agg #[.bool z.g,.slice z.a z.l z.c,.int .i64 z.e]
def nvCells (T:List Nv):List Value:=T.flatMap fun z=>[.bool z.g,.slice z.a z.l z.c,.int .i64 z.e]
def OwnQ (B:Nat) (w:World) (v:Value) (T:List Nv):Prop:=w.ownsRow B 56 3 v T.length (nvCells T)
def OwnS (B:Nat) (w:World) (v:Value) (vs:List Value):Prop:=w.ownsRow B 83 1 v vs.length vs
theorem Tryz.infoNum:(Tryz.prog.info? 56).map (fun i=>(i.zero,i.size,i.bytes))=some (some (.agg #[.bool false,.slice none 0 0,.int .i64 0]),3,40):=by kernel_rfl
theorem Tryz.infoNums:(Tryz.prog.info? 83).map (fun i=>(i.zero,i.size,i.bytes))=some (some (.slice none 0 0),1,24):=by kernel_rfl
theorem ownQ_empty (w:World):OwnQ w.heap.size (w.alloc (.cells #[] 56)) (.slice (some ⟨w.heap.size,0,none⟩) 0 0) []:=World.ownsRow_made w #[] 0 (Nat.le_refl _) (Nat.zero_le _) rfl
theorem ownS_empty (w:World):OwnS w.heap.size (w.alloc (.cells #[] 83)) (.slice (some ⟨w.heap.size,0,none⟩) 0 0) []:=World.ownsRow_made w #[] 0 (Nat.le_refl _) (Nat.zero_le _) rfl
theorem owns_keep {B:Nat} {w w2:World} {e:TypeId} {sz:Nat} {v:Value} {n:Nat} {xs:List Value} (h:w.ownsRow B e sz v n xs) (hb:Below w.heap.size w w2):w2.ownsRow B e sz v n xs:=by
 refine⟨h.1, ?_⟩
 rcases h.2 with hn | ⟨g,cap,cur,hv,hb2,hg,rest⟩
 · exact .inl hn
 · have hlt:g<w.heap.size:=(Array.getElem?_eq_some_iff.1 hg).1
   refine .inr ⟨g,cap,cur,hv,hb2, ?_,rest⟩
   rw [←hg]
   exact hb.block g hlt
theorem OwnQ.keep {B:Nat} {w w2:World} {v:Value} {T:List Nv} (h:OwnQ B w v T) (hb:Below w.heap.size w w2):OwnQ B w2 v T:=owns_keep h hb
theorem OwnS.keep {B:Nat} {w w2:World} {v:Value} {vs:List Value} (h:OwnS B w v vs) (hb:Below w.heap.size w w2):OwnS B w2 v vs:=owns_keep h hb
theorem OwnQ.base {B B':Nat} {w:World} {v:Value} {T:List Nv} (h:OwnQ B w v T) (hb:B'≤B):OwnQ B' w v T:=by
 refine⟨h.1, ?_⟩
 rcases h.2 with hn | ⟨g,cap,cur,hv,hb2,rest⟩
 · exact .inl hn
 · exact .inr ⟨g,cap,cur,hv,Nat.le_trans hb hb2,rest⟩
theorem OwnQ.form {B:Nat} {w:World} {v:Value} {T:List Nv} (h:OwnQ B w v T):∃A C,v=.slice A T.length C:=by
 rcases h.2 with ⟨rfl,hn⟩ | ⟨g,cap,cur,rfl, -⟩
 · exact⟨none,0,by rw [hn]⟩
 · exact⟨_,_,rfl⟩
theorem ownQ_apart {B:Nat} {w:World} {u v:Value} {T:List Nv} {vs:List Value} (h:OwnQ B w u T) (k:OwnS B w v vs):u.ownBlock=none∨u.ownBlock≠v.ownBlock:=by
 rcases h.2 with ⟨rfl, -⟩ | ⟨g,cap,cur,rfl, -,hg, -⟩
 · exact .inl rfl
 · right
   rcases k.2 with ⟨rfl, -⟩ | ⟨g',cap',cur',rfl, -,hg', -⟩
   · intro e
     cases e
   · intro e
     have e':g=g':=Option.some.inj e
     subst e'
     rw [hg] at hg'
     simp at hg'
theorem row_apartQ {B:Nat} {w:World} {u v:Value} {ds:List Nat} {T:List Nv} (h:Row w u ds) (k:OwnQ B w v T):u.ownBlock=none∨u.ownBlock≠v.ownBlock:=by
 rcases h.2 with ⟨rfl, -⟩ | ⟨g,cap,cur,rfl, -,hg, -⟩
 · exact .inl rfl
 · right
   rcases k.2 with ⟨rfl, -⟩ | ⟨g',cap',cur',rfl, -,hg', -⟩
   · intro e
     cases e
   · intro e
     have e':g=g':=Option.some.inj e
     subst e'
     rw [hg] at hg'
     simp at hg'
theorem row_apartS {B:Nat} {w:World} {u v:Value} {ds:List Nat} {vs:List Value} (h:Row w u ds) (k:OwnS B w v vs):u.ownBlock=none∨u.ownBlock≠v.ownBlock:=by
 rcases h.2 with ⟨rfl, -⟩ | ⟨g,cap,cur,rfl, -,hg, -⟩
 · exact .inl rfl
 · right
   rcases k.2 with ⟨rfl, -⟩ | ⟨g',cap',cur',rfl, -,hg', -⟩
   · intro e
     cases e
   · intro e
     have e':g=g':=Option.some.inj e
     subst e'
     rw [hg] at hg'
     simp at hg'
theorem wpList_pushQ {B:Nat} {w0 wr:World} {ops:Array Oper} {rest:List Oper} {o:Oper} {a:Act} {Q:Exit→Act→World→Prop} (hgd:o.guard=none) (s x:Operand)
   (ho:o.op=.call { callee:=.builtin .append,args:=#[s,x],argTypes:=#[83,83] }) (v:Value) (T:List Nv) (z:Nv) (hs:a.eval s=v) (hx:a.eval x=.slice (some ⟨wr.heap.size,0,none⟩) 1 1)
   (hown:OwnQ B wr v T) (hl:T.length≤200000) (hB:B≤wr.heap.size) (hbel:Below B w0 wr)
   (h:∀v' w',OwnQ B w' v' (T++[z])→Below B w0 w'→B≤w'.heap.size→Below B wr w'→wr.heap.size≤w'.heap.size→(∀x n,BigIs wr x n→BigIs w' x n)→wpList Tryz.prog ops Q rest (a.put o.dst v') w'):wpList Tryz.prog ops Q (o :: rest) a (wr.alloc (.cells #[.bool z.g,.slice z.a z.l z.c,.int .i64 z.e] 56)):=by
 obtain⟨i0,hi,hz0,hz1,hz2⟩:=info_parts Tryz.infoNum
 have hal:Below wr.heap.size wr (wr.alloc (.cells #[.bool z.g,.slice z.a z.l z.c,.int .i64 z.e] 56)):=(Below.refl _ _).alloc (Nat.le_refl _) _
 have hown':(wr.alloc (.cells #[.bool z.g,.slice z.a z.l z.c,.int .i64 z.e] 56)).ownsRow B 56 3 v T.length (nvCells T):=owns_keep hown hal
 refine wpList_append_own _ hgd s x 83 ho B 56 i0 (.agg #[.bool false,.slice none 0 0,.int .i64 0]) 3 40 Tryz.underlying83 hi hz0 hz1 hz2 rfl (by decide) v T.length _ hs hown' ⟨wr.heap.size,0,none⟩ 1 1 [.bool z.g,.slice z.a z.l z.c,.int .i64 z.e] hx rfl ?_ ?_ (by unfold maxLen;omega) (by omega) (by simp;omega) ?_
 · intro j u hj
   match j,hj with
   | 0,hj=>simp at hj;subst hj;simp [Addr.add]
   | 1,hj=>simp at hj;subst hj;simp [Addr.add]
   | 2,hj=>simp at hj;subst hj;simp [Addr.add]
 · intro u hu
   simp at hu
   rcases hu with rfl | rfl | rfl <;> rfl
 · intro v' w' h1 h2 _
   have lt:∀k,v.ownBlock=some k→B≤k:=fun k hk=>(World.ownsRow.lt hown k hk).1
   have sz:=h2.size
   simp only [World.size_alloc] at sz
   refine h v' w' ?_ ((hbel.alloc hB _).grown h2 (by simp;omega) lt) (by omega) (((Below.refl B wr).alloc hB _).grown h2 (by simp;omega) lt) (by omega) (fun x n ⟨ds,d1,d2,d3,r⟩=>⟨ds,d1,d2,d3,World.ownsRow.kept (r.keep hal) h2 (row_apartQ (r.keep hal) hown')⟩)
   unfold OwnQ
   have e:nvCells (T++[z])=nvCells T++[.bool z.g,.slice z.a z.l z.c,.int .i64 z.e]:=by simp [nvCells]
   rw [e,List.length_append]
   exact h1
theorem wpList_pushS {B:Nat} {w0 wr:World} {ops:Array Oper} {rest:List Oper} {o:Oper} {a:Act} {Q:Exit→Act→World→Prop} (hgd:o.guard=none) (s x:Operand)
   (ho:o.op=.call { callee:=.builtin .append,args:=#[s,x],argTypes:=#[51,51] }) (v:Value) (vs:List Value) (A:Option Addr) (n c:Nat) (hs:a.eval s=v) (hx:a.eval x=.slice (some ⟨wr.heap.size,0,none⟩) 1 1)
   (hown:OwnS B wr v vs) (hl:vs.length≤200000) (hB:B≤wr.heap.size) (hbel:Below B w0 wr)
   (h:∀v' w',OwnS B w' v' (vs++[.slice A n c])→Below B w0 w'→B≤w'.heap.size→Below B wr w'→(∀u T,OwnQ B wr u T→OwnQ B w' u T)→(∀x n,BigIs wr x n→BigIs w' x n)→wpList Tryz.prog ops Q rest (a.put o.dst v') w'):wpList Tryz.prog ops Q (o :: rest) a (wr.alloc (.cells #[.slice A n c] 83)):=by
 obtain⟨i0,hi,hz0,hz1,hz2⟩:=info_parts Tryz.infoNums
 have hal:Below wr.heap.size wr (wr.alloc (.cells #[.slice A n c] 83)):=(Below.refl _ _).alloc (Nat.le_refl _) _
 refine wpList_append_own _ hgd s x 51 ho B 83 i0 (.slice none 0 0) 1 24 Tryz.underlying51 hi hz0 hz1 hz2 rfl (by decide) v vs.length vs hs (hown.keep hal) ⟨wr.heap.size,0,none⟩ 1 1 [.slice A n c] hx rfl ?_ ?_ (by unfold maxLen;omega) (by omega) (by simp;omega) ?_
 · intro j u hj
   match j,hj with
   | 0,hj=>simp at hj;subst hj;simp [Addr.add]
 · intro u hu
   simp at hu
   rw [hu]
   rfl
 · intro v' w' h1 h2 _
   have lt:∀k,v.ownBlock=some k→B≤k:=fun k hk=>(World.ownsRow.lt hown k hk).1
   have sz:=h2.size
   simp only [World.size_alloc] at sz
   refine h v' w' ?_ ((hbel.alloc hB _).grown h2 (by simp;omega) lt) (by omega) (((Below.refl B wr).alloc hB _).grown h2 (by simp;omega) lt) (fun u T hu=>?_) (fun x n ⟨ds,d1,d2,d3,r⟩=>⟨ds,d1,d2,d3,World.ownsRow.kept (r.keep hal) h2 (row_apartS (r.keep hal) (hown.keep hal))⟩)
   · unfold OwnS
     rw [List.length_append]
     exact h1
   · exact World.ownsRow.kept (hu.keep hal) h2 (ownQ_apart (hu.keep hal) (hown.keep hal))
end Go.Proofs.YtlabmpngbcnhpaaGreat
namespace Go.Proofs.YtlabmpngbcnhpaaGreat
theorem knuth_lt {u v y:Nat} (hu:u<y) (hv:v<4294967296):(u*4294967296+v)/y<4294967296:=by
 refine Nat.div_lt_of_lt_mul ?_
 have h:(u+1)*4294967296≤y*4294967296:=Nat.mul_le_mul_right _ hu
 omega
theorem knuth_start {u v y yn1 yn0:Nat} (hy:y=yn1*4294967296+yn0) (h1:2147483648≤yn1) (hv:v<4294967296):(u*4294967296+v)/y≤u/yn1:=by
 rw [Nat.le_div_iff_mul_le (by omega)]
 have h:=Nat.div_mul_le_self (u*4294967296+v) y
 generalize (u*4294967296+v)/y=q at *
 subst hy
 rw [Nat.mul_add,←Nat.mul_assoc] at h
 have h2:q*yn1*4294967296<(u+1)*4294967296:=by omega
 have h3:=Nat.lt_of_mul_lt_mul_right h2
 omega
theorem knuth_top {u y yn1 yn0:Nat} (hy:y=yn1*4294967296+yn0) (h1:2147483648≤yn1) (h0:yn0<4294967296) (hu:u<y):u/yn1≤4294967297:=by
 have:u/yn1<4294967298:=by
   refine Nat.div_lt_of_lt_mul ?_
   omega
 omega
theorem knuth_step {u v y yn1 yn0 a b:Nat} (hy:y=yn1*4294967296+yn0) (h1:2147483648≤yn1) (h:b+a*yn1=u):(u*4294967296+v)/y<a↔4294967296*b+v<a*yn0:=by
 rw [Nat.div_lt_iff_lt_mul (by omega)]
 subst hy
 subst h
 rw [Nat.mul_add,←Nat.mul_assoc,Nat.add_mul]
 omega
end Go.Proofs.YtlabmpngbcnhpaaGreat
namespace Go.Proofs.YtlabmpngbcnhpaaGreat
open Go.ChangeShapes Go.WideShapes Go.ChangeAt Go.RowKit
set_option maxHeartbeats 2000000 in
set_option maxRecDepth 100000 in
theorem div64_core (hi lo y yn1 yn0 un1 un0 qh rh Q1 R1 q2 r2 Q0 R0:Nat) (hy:((y:Int)==0)=false) (hle:¬(y:Int)≤(hi:Int)) (hh:((hi:Int)==0)=false)
   (hyl:y<18446744073709551616) (hll:lo<18446744073709551616) (hyn:¬yn1=0) (hyn1:yn1<4294967296) (hun1:un1<4294967296) (hun0:un0<4294967296)
   (hlz:∀w,Calls Tryz.prog 128 #[.int .u64 y] w fun r w'=>r=.returned (.int .i64 0)∧w=w')
   (e1:(y:Int)/4294967296=(yn1:Int)) (e2:bits .and .u64 (y:Int) 4294967295=(yn0:Int)) (e3:(lo:Int)/4294967296=(un1:Int)) (e4:bits .and .u64 (lo:Int) 4294967295=(un0:Int))
   (e5:(lo:Int)/18446744073709551616=0) (e6:bits .or .u64 (hi:Int) 0=(hi:Int))
   (e7:IntKind.u64.wrap ((hi:Int)/(yn1:Int))=(qh:Int)) (e8:IntKind.u64.wrap ((hi:Int)-IntKind.u64.wrap ((qh:Int)*(yn1:Int)))=(rh:Int))
   (P1 P2:Nat→Nat→Prop) (hq0:P1 qh rh) (hqb:∀a b,P1 a b→Q1≤a∧a≤4294967297∧b<4294967296)
   (hqA:∀a b,P1 a b→a<4294967296→∃A:Nat,IntKind.u64.wrap ((a:Int)*(yn0:Int))=(A:Int)∧(Q1<a↔4294967296*b+un1<A))
   (hqn:∀a b,P1 a b→Q1<a→b+yn1<4294967296→P1 (a-1) (b+yn1))
   (hqe:∀a b,P1 a b→Q1<a→4294967296≤b+yn1→a-1=Q1) (hQ1:Q1<4294967296)
   (f1:IntKind.u64.wrap (IntKind.u64.wrap (IntKind.u64.wrap ((hi:Int)*4294967296)+(un1:Int))-IntKind.u64.wrap ((Q1:Int)*(y:Int)))=(R1:Int))
   (f7:IntKind.u64.wrap ((R1:Int)/(yn1:Int))=(q2:Int)) (f8:IntKind.u64.wrap ((R1:Int)-IntKind.u64.wrap ((q2:Int)*(yn1:Int)))=(r2:Int))
   (gq0:P2 q2 r2) (gqb:∀a b,P2 a b→Q0≤a∧a≤4294967297∧b<4294967296)
   (gqA:∀a b,P2 a b→a<4294967296→∃A:Nat,IntKind.u64.wrap ((a:Int)*(yn0:Int))=(A:Int)∧(Q0<a↔4294967296*b+un0<A))
   (gqn:∀a b,P2 a b→Q0<a→b+yn1<4294967296→P2 (a-1) (b+yn1))
   (gqe:∀a b,P2 a b→Q0<a→4294967296≤b+yn1→a-1=Q0) (hQ0:Q0<4294967296)
   (f9:IntKind.u64.wrap (IntKind.u64.wrap (IntKind.u64.wrap ((R1:Int)*4294967296)+(un0:Int))-IntKind.u64.wrap ((Q0:Int)*(y:Int)))=(R0:Int))
   (w:World) :
   Calls Tryz.prog 113 #[.int .u64 hi,.int .u64 lo,.int .u64 y] w fun r w'=>r=.returned (.tuple #[.int .u64 ((Q1:Int)*4294967296+Q0),.int .u64 R0])∧w=w':=by
 go_enter Tryz.func113,Tryz.ntmps113
 go_upto_block 0 with (go_at_call 128;refine (hlz _).mono ?_;rintro _ _ ⟨rfl,rfl⟩)
 go_cut [15,16] from 67 to 85 (fun s15 _ wx=>w=wx∧s15=.int .u64 (Q1:Int))
 case first =>
   clear f1 f7 f8 gq0 gqb gqA gqn gqe hQ0 f9
   go_wp2_with fail
   obtain⟨N,hN⟩:∃N:Nat,4294967297<N:=⟨4294967298,by omega⟩
   go_loopg [15,16] N (fun g s15 s16 wx=>w=wx∧∃a b:Nat,a≤g∧P1 a b∧s15=.int .u64 (a:Int)∧s16=.int .u64 (b:Int))
   case atStart=>exact⟨rfl,qh,rh,by have:=hqb _ _ hq0;omega,hq0,rfl,rfl⟩
   case round =>
     obtain⟨rfl,a,b,hag,hP,rfl,rfl⟩:=hrel
     clear e1 e2 e3 e4 e5 e6 e7 e8 hy hle hh hlz hq0 hN
     obtain⟨b1,b2,b3⟩:=hqb _ _ hP
     by_cases hbig:a<4294967296
     · obtain⟨A,hA,hAiff⟩:=hqA _ _ hP hbig
       by_cases ht:Q1<a
       · have ht2:(4294967296:Int)*(b:Int)+(un1:Int)<(A:Int):=by have:=hAiff.1 ht;omega
         by_cases hbr:b+yn1<4294967296
         · have hnew:=hqn _ _ hP ht hbr
           clear hqb hqA hqn hqe hAiff hP
           have hbigZ:¬(4294967296:Int)≤(a:Int):=by omega
           have hbrZ:¬(4294967296:Int)≤(b:Int)+(yn1:Int):=by omega
           have HT:Hid (Q1<a):=ht
           have HN:=(show Hid _ from hnew)
           have ha1:(1:Int)≤(a:Int):=by omega
           clear ht hnew hbr
           clear hbig b2
           go_upto_if 85 with fail
           have ht:=HT.out
           have hnew:=HN.out
           refine wp_cond_false (by simp [Act.eval]) ?_
           refine wp_skip ?_
           simp only [Exit.inBlock,Exit.then]
           apply_assumption
           refine Handed.intro (a-1) (by omega) ?_
           apply_assumption
           (repeat apply Exists.intro)
           refine⟨?_,rfl⟩
           exact⟨rfl,a-1,b+yn1,Nat.le_refl _,hnew,by congr 1;omega,by congr 1⟩
         · have hnew:=hqe _ _ hP ht (by omega)
           clear hqb hqA hqn hqe hAiff hP
           have hbigZ:¬(4294967296:Int)≤(a:Int):=by omega
           have hbrZ:(4294967296:Int)≤(b:Int)+(yn1:Int):=by omega
           have HT:Hid (Q1<a):=ht
           have HN:=(show Hid _ from hnew)
           have ha1:(1:Int)≤(a:Int):=by omega
           clear ht hnew hbr
           clear hbig b2
           go_upto_if 85 with fail
           have ht:=HT.out
           have hnew:=HN.out
           refine wp_cond_true (by simp [Act.eval]) ?_
           refine wp_exit ?_
           simp only [Exit.inBlock,Exit.then,Nat.zero_ne_one,if_false,if_true]
           apply_assumption
           refine Met.intro ?_
           apply_assumption
           (repeat apply Exists.intro)
           refine⟨?_,rfl⟩
           exact⟨rfl,by congr 1;omega⟩
       · have ht2:¬(4294967296:Int)*(b:Int)+(un1:Int)<(A:Int):=by intro hx;exact ht (hAiff.2 (by omega))
         have hnew:a=Q1:=by omega
         clear hqb hqA hqn hqe hAiff hP ht
         have hid:Hid (a=Q1):=hnew
         clear hnew
         have hbigZ:¬(4294967296:Int)≤(a:Int):=by omega
         clear hbig b2
         go_upto_if 78 with fail
         have hnew:=hid.out
         refine wp_cond_false (by simp [Act.eval]) ?_
         refine wp_exit ?_
         simp only [Exit.inBlock,Exit.then,if_true]
         apply_assumption
         refine Met.intro ?_
         apply_assumption
         (repeat apply Exists.intro)
         refine⟨?_,rfl⟩
         exact⟨rfl,by rw [hnew]⟩
     · have ht:Q1<a:=by omega
       by_cases hbr:b+yn1<4294967296
       · have hnew:=hqn _ _ hP ht hbr
         clear hqb hqA hqn hqe hP
         have hbigZ:(4294967296:Int)≤(a:Int)∧(a:Int)≤4294967297:=by omega
         have hbrZ:¬(4294967296:Int)≤(b:Int)+(yn1:Int):=by omega
         have HT:Hid (Q1<a):=ht
         have HN:=(show Hid _ from hnew)
         have ha1:(1:Int)≤(a:Int):=by omega
         clear ht hnew hbr
         clear hbig b2
         go_upto_if 85 with fail
         have ht:=HT.out
         have hnew:=HN.out
         refine wp_cond_false (by simp [Act.eval]) ?_
         refine wp_skip ?_
         simp only [Exit.inBlock,Exit.then]
         apply_assumption
         refine Handed.intro (a-1) (by omega) ?_
         apply_assumption
         (repeat apply Exists.intro)
         refine⟨?_,rfl⟩
         exact⟨rfl,a-1,b+yn1,Nat.le_refl _,hnew,by congr 1;omega,by congr 1⟩
       · have hnew:=hqe _ _ hP ht (by omega)
         clear hqb hqA hqn hqe hP
         have hbigZ:(4294967296:Int)≤(a:Int)∧(a:Int)≤4294967297:=by omega
         have hbrZ:(4294967296:Int)≤(b:Int)+(yn1:Int):=by omega
         have HT:Hid (Q1<a):=ht
         have HN:=(show Hid _ from hnew)
         have ha1:(1:Int)≤(a:Int):=by omega
         clear ht hnew hbr
         clear hbig b2
         go_upto_if 85 with fail
         have ht:=HT.out
         have hnew:=HN.out
         refine wp_cond_true (by simp [Act.eval]) ?_
         refine wp_exit ?_
         simp only [Exit.inBlock,Exit.then,Nat.zero_ne_one,if_false,if_true]
         apply_assumption
         refine Met.intro ?_
         apply_assumption
         (repeat apply Exists.intro)
         refine⟨?_,rfl⟩
         exact⟨rfl,by congr 1;omega⟩
 case rest =>
 obtain⟨rfl,rfl⟩:=hcut
 clear hqb hqA hqn hqe hq0 e7 e8
 go_upto_block 2 with fail
 go_cut [18,16] from 102 to 120 (fun s18 _ wx=>w=wx∧s18=.int .u64 (Q0:Int))
 case first =>
   clear f1 f7 f8 f9
   go_wp2_with fail
   obtain⟨N,hN⟩:∃N:Nat,4294967297<N:=⟨4294967298,by omega⟩
   go_loopg [18,16] N (fun g s18 s16 wx=>w=wx∧∃a b:Nat,a≤g∧P2 a b∧s18=.int .u64 (a:Int)∧s16=.int .u64 (b:Int))
   case atStart=>exact⟨rfl,q2,r2,by have:=gqb _ _ gq0;omega,gq0,rfl,rfl⟩
   case round =>
     obtain⟨rfl,a,b,hag,hP,rfl,rfl⟩:=hrel
     clear e1 e2 e3 e4 e5 e6 hy hle hh hlz gq0 hN
     obtain⟨b1,b2,b3⟩:=gqb _ _ hP
     by_cases hbig:a<4294967296
     · obtain⟨A,hA,hAiff⟩:=gqA _ _ hP hbig
       by_cases ht:Q0<a
       · have ht2:(4294967296:Int)*(b:Int)+(un0:Int)<(A:Int):=by have:=hAiff.1 ht;omega
         by_cases hbr:b+yn1<4294967296
         · have hnew:=gqn _ _ hP ht hbr
           clear gqb gqA gqn gqe hAiff hP
           have hbigZ:¬(4294967296:Int)≤(a:Int):=by omega
           have hbrZ:¬(4294967296:Int)≤(b:Int)+(yn1:Int):=by omega
           have HT:Hid (Q0<a):=ht
           have HN:=(show Hid _ from hnew)
           have ha1:(1:Int)≤(a:Int):=by omega
           clear ht hnew hbr
           clear hbig b2
           go_upto_if 120 with fail
           have ht:=HT.out
           have hnew:=HN.out
           refine wp_cond_false (by simp [Act.eval]) ?_
           refine wp_skip ?_
           simp only [Exit.inBlock,Exit.then]
           apply_assumption
           refine Handed.intro (a-1) (by omega) ?_
           apply_assumption
           (repeat apply Exists.intro)
           refine⟨?_,rfl⟩
           exact⟨rfl,a-1,b+yn1,Nat.le_refl _,hnew,by congr 1;omega,by congr 1⟩
         · have hnew:=gqe _ _ hP ht (by omega)
           clear gqb gqA gqn gqe hAiff hP
           have hbigZ:¬(4294967296:Int)≤(a:Int):=by omega
           have hbrZ:(4294967296:Int)≤(b:Int)+(yn1:Int):=by omega
           have HT:Hid (Q0<a):=ht
           have HN:=(show Hid _ from hnew)
           have ha1:(1:Int)≤(a:Int):=by omega
           clear ht hnew hbr
           clear hbig b2
           go_upto_if 120 with fail
           have ht:=HT.out
           have hnew:=HN.out
           refine wp_cond_true (by simp [Act.eval]) ?_
           refine wp_exit ?_
           simp only [Exit.inBlock,Exit.then,show ¬(2:Nat)=3 by decide,if_false,if_true]
           apply_assumption
           refine Met.intro ?_
           apply_assumption
           (repeat apply Exists.intro)
           refine⟨?_,rfl⟩
           exact⟨rfl,by congr 1;omega⟩
       · have ht2:¬(4294967296:Int)*(b:Int)+(un0:Int)<(A:Int):=by intro hx;exact ht (hAiff.2 (by omega))
         have hnew:a=Q0:=by omega
         clear gqb gqA gqn gqe hAiff hP ht
         have hid:Hid (a=Q0):=hnew
         clear hnew
         have hbigZ:¬(4294967296:Int)≤(a:Int):=by omega
         clear hbig b2
         go_upto_if 113 with fail
         have hnew:=hid.out
         refine wp_cond_false (by simp [Act.eval]) ?_
         refine wp_exit ?_
         simp only [Exit.inBlock,Exit.then,if_true]
         apply_assumption
         refine Met.intro ?_
         apply_assumption
         (repeat apply Exists.intro)
         refine⟨?_,rfl⟩
         exact⟨rfl,by rw [hnew]⟩
     · have ht:Q0<a:=by omega
       by_cases hbr:b+yn1<4294967296
       · have hnew:=gqn _ _ hP ht hbr
         clear gqb gqA gqn gqe hP
         have hbigZ:(4294967296:Int)≤(a:Int)∧(a:Int)≤4294967297:=by omega
         have hbrZ:¬(4294967296:Int)≤(b:Int)+(yn1:Int):=by omega
         have HT:Hid (Q0<a):=ht
         have HN:=(show Hid _ from hnew)
         have ha1:(1:Int)≤(a:Int):=by omega
         clear ht hnew hbr
         clear hbig b2
         go_upto_if 120 with fail
         have ht:=HT.out
         have hnew:=HN.out
         refine wp_cond_false (by simp [Act.eval]) ?_
         refine wp_skip ?_
         simp only [Exit.inBlock,Exit.then]
         apply_assumption
         refine Handed.intro (a-1) (by omega) ?_
         apply_assumption
         (repeat apply Exists.intro)
         refine⟨?_,rfl⟩
         exact⟨rfl,a-1,b+yn1,Nat.le_refl _,hnew,by congr 1;omega,by congr 1⟩
       · have hnew:=gqe _ _ hP ht (by omega)
         clear gqb gqA gqn gqe hP
         have hbigZ:(4294967296:Int)≤(a:Int)∧(a:Int)≤4294967297:=by omega
         have hbrZ:(4294967296:Int)≤(b:Int)+(yn1:Int):=by omega
         have HT:Hid (Q0<a):=ht
         have HN:=(show Hid _ from hnew)
         have ha1:(1:Int)≤(a:Int):=by omega
         clear ht hnew hbr
         clear hbig b2
         go_upto_if 120 with fail
         have ht:=HT.out
         have hnew:=HN.out
         refine wp_cond_true (by simp [Act.eval]) ?_
         refine wp_exit ?_
         simp only [Exit.inBlock,Exit.then,show ¬(2:Nat)=3 by decide,if_false,if_true]
         apply_assumption
         refine Met.intro ?_
         apply_assumption
         (repeat apply Exists.intro)
         refine⟨?_,rfl⟩
         exact⟨rfl,by congr 1;omega⟩
 case rest =>
 obtain⟨rfl,rfl⟩:=hcut
 clear gqb gqA gqn gqe gq0 f7 f8
 go_wp2_with fail
 go_ret2
 exact⟨rfl,rfl⟩
end Go.Proofs.YtlabmpngbcnhpaaGreat
