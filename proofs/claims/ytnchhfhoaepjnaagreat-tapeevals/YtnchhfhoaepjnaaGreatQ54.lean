/- TapeEvals: the law's walk. -/
import Derived.Test.YtnchhfhoaepjnaaGreatQ53
import Derived.Test.YtnchhfhoaepjnaaGreatQ21
namespace Go.Proofs.YtnchhfhoaepjnaaGreat
open Go.ChangeShapes Go.WideShapes Go.ChangeAt Go.RowKit
set_option maxHeartbeats 1000000 in
theorem eval_bad (v:Int) (A:Option Addr) (n C:Nat) (D:Option Addr) (m E:Nat) (xs:Value) (e:Int) (he:e=50∨e=1) (w:World) (c1:∀W,Below w.heap.size w W→Calls Tryz.prog 15 #[tapeV v A n C D m E,xs] W fun e' w'=>e'=.returned (.int .i64 e)∧Below W.heap.size W w') :
   Calls Tryz.prog 6 #[tapeV v A n C D m E,xs] w fun e' w'=>e'=.returned (.tuple #[.slice none 0 0,.int .i64 e])∧Below w.heap.size w w':=by
 unfold tapeV at *
 rcases he with rfl | rfl
 all_goals
   have T:=hasT_new w v A n C D m E
   have HB:Below w.heap.size w (w.alloc (.cells #[.int .i64 v,.slice A n C,.slice D m E] 25)):=by go_grown
   go_enter Tryz.func6,Tryz.ntmps6
   go_upto_region 1 with fail
   generalize (w.alloc (.cells #[.int .i64 v,.slice A n C,.slice D m E] 25))=V1 at *
   obtain⟨t0,t1,t2,tl⟩:=id T
   go_wp2_with (go_at_call 15;refine (c1 _ HB).mono ?_;rintro _ VV ⟨rfl,hb1⟩;replace HB:=later HB hb1)
   refine bodyPost_ret (v:=.tuple #[.slice none 0 0,.int .i64 _]) (by simp [results,Tryz.results6,go_sem]) rfl ⟨rfl,HB⟩
theorem short_w (v:Int) (A:Option Addr) (n C:Nat) (D:Option Addr) (m E:Nat) (w:World) :
   Calls Tryz.prog 5 #[tapeV v A n C D m E] w fun e w'=>e=.returned (.bool (decide ((n:Int)≤120)&&decide ((m:Int)≤40)))∧Below w.heap.size w w':=by
 unfold tapeV
 by_cases h1:(n:Int)≤120
 · by_cases h2:(m:Int)≤40
   all_goals
     go_enter Tryz.func5,Tryz.ntmps5
     go_wp2_with fail
     go_ret
     exact⟨by simp [h1,h2],by go_grown⟩
 · go_enter Tryz.func5,Tryz.ntmps5
   go_wp2_with fail
   go_ret
   exact⟨by rw [show decide ((n:Int)≤120)=false from decide_eq_false (by omega)];rfl,by go_grown⟩
set_option maxHeartbeats 1000000 in
theorem evals_long (v:Int) (A:Option Addr) (n C:Nat) (D:Option Addr) (m E:Nat) (xs:Value) (w:World) (cS:∀W,Calls Tryz.prog 5 #[tapeV v A n C D m E] W fun e w'=>e=.returned (.bool false)∧Below W.heap.size W w') :
   Calls Tryz.prog 3 #[tapeV v A n C D m E,xs] w fun e w'=>e=.returned (.bool true)∧Below w.heap.size w w':=by
 unfold tapeV at *
 have T:=hasT_new w v A n C D m E
 have HB:Below w.heap.size w (w.alloc (.cells #[.int .i64 v,.slice A n C,.slice D m E] 25)):=by go_grown
 go_enter Tryz.func3,Tryz.ntmps3
 go_upto_region 1 with fail
 generalize (w.alloc (.cells #[.int .i64 v,.slice A n C,.slice D m E] 25))=V1 at *
 obtain⟨t0,t1,t2,tl⟩:=id T
 go_wp2_with (go_at_call 5;refine (cS _).mono ?_;rintro _ VV ⟨rfl,hb1⟩;replace HB:=later HB hb1)
 go_ret
 exact⟨rfl,HB⟩
set_option maxHeartbeats 2000000 in
theorem evals_core (v:Int) (A:Option Addr) (n C:Nat) (D:Option Addr) (m E:Nat) (xs:Value) (w:World) (N:Nat) (hN:N≤400) (V:Nat→Nat×Nat) (e:Int) (cS:∀W,Calls Tryz.prog 5 #[tapeV v A n C D m E] W fun e w'=>e=.returned (.bool true)∧Below W.heap.size W w')
   (cE:∀W,Below w.heap.size w W→Calls Tryz.prog 6 #[tapeV v A n C D m E,xs] W fun r w'=>(∃A' C',r=.returned (.tuple #[.slice A' N C',.int .i64 e])∧Ivs w' A' N V)∧Below W.heap.size W w')
   (cR:∀W,Below w.heap.size w W→Calls Tryz.prog 7 #[tapeV v A n C D m E,xs,.bool false] W fun r w'=>(∃A' C' sl,r=.returned (.tuple #[.slice A' N C',sl,.int .i64 e])∧Ivs w' A' N V)∧Below W.heap.size W w') :
   Calls Tryz.prog 3 #[tapeV v A n C D m E,xs] w fun e w'=>e=.returned (.bool true)∧Below w.heap.size w w':=by
 unfold tapeV at *
 have T:=hasT_new w v A n C D m E
 have HB:Below w.heap.size w (w.alloc (.cells #[.int .i64 v,.slice A n C,.slice D m E] 25)):=by go_grown
 go_enter Tryz.func3,Tryz.ntmps3
 go_upto_region 1 with fail
 generalize (w.alloc (.cells #[.int .i64 v,.slice A n C,.slice D m E] 25))=V1 at *
 obtain⟨t0,t1,t2,tl⟩:=id T
 go_wp2_with (first
   | (go_at_call 5;refine (cS _).mono ?_;rintro _ V2 ⟨rfl,hb1⟩;replace HB:=later HB hb1;replace T:=T.keep hb1;clear t0 t1 t2 tl hb1;obtain⟨t0,t1,t2,tl⟩:=id T)
   | (go_at_call 6;refine (cE _ HB).mono ?_;rintro _ V3 ⟨⟨A1,C1,rfl,U1⟩,hb1⟩;replace HB:=later HB hb1;replace T:=T.keep hb1;clear t0 t1 t2 tl hb1;obtain⟨t0,t1,t2,tl⟩:=id T)
   | (go_at_call 7;refine (cR _ HB).mono ?_;rintro _ V4 ⟨⟨A2,C2,sl,rfl,U2⟩,hb1⟩;replace HB:=later HB hb1;replace U1:=U1.keep hb1)
   | (go_at_call 8;refine (rsameV_w A1 A2 N C1 C2 V V (by omega) (fun _ _=>rfl) _ U1 U2).mono ?_;rintro _ V5 ⟨rfl,hb5⟩;replace HB:=later HB hb5))
 go_ret
 exact⟨rfl,HB⟩
theorem tapeEvals_all (v:Int) (A:Option Addr) (n C:Nat) (D:Option Addr) (m E:Nat) (O:Nat→Opw) (Y:Nat→Int) (AX:Option Addr) (mx CX:Nat) (X:Nat→Nat×Nat) (hn:n≤9223372036854775807) (hm:m≤9223372036854775807) (hx:mx≤9223372036854775807) (w:World) (VO:Ops w A n O) (VY:Ins w D m Y) (VX:Ivs w AX mx X) :
   Calls Tryz.prog 3 #[tapeV v A n C D m E,.slice AX mx CX] w fun e w'=>e=.returned (.bool true)∧Below w.heap.size w w':=by
 by_cases hs:(decide ((n:Int)≤120)&&decide ((m:Int)≤40))=true
 rotate_left
 · refine evals_long v A n C D m E _ w fun W=>?_
   have:=short_w v A n C D m E W
   rw [Bool.eq_false_iff.2 hs] at this
   exact this
 have cS:∀W,Calls Tryz.prog 5 #[tapeV v A n C D m E] W fun e w'=>e=.returned (.bool true)∧Below W.heap.size W w':=fun W=>by
   have:=short_w v A n C D m E W
   rw [hs] at this
   exact this
 have none0:∀W:World,Ivs W none 0 (fun _=>(0,0)):=fun W i hi=>absurd hi (by omega)
 have c1:∀W,Below w.heap.size w W→Calls Tryz.prog 10 #[tapeV v A n C D m E] W fun e' w'=>e'=.returned (.int .i64 (errT (rightT v n O m Y)))∧Below W.heap.size W w':=fun W hW=>right_t v A n C D m E O Y hn hm W (VO.keep hW) (VY.keep hW)
 have c2:∀W,Below w.heap.size w W→Calls Tryz.prog 18 #[tapeV v A n C D m E] W fun e' w'=>e'=.returned (.bool (rightT v n O m Y))∧Below W.heap.size W w':=fun W hW=>rright_t v A n C D m E O Y W (VO.keep hW) (VY.keep hW)
 have c3:∀W,Below w.heap.size w W→Calls Tryz.prog 19 #[tapeV v A n C D m E,.slice AX mx CX] W fun e' w'=>e'=.returned (.bool (allB mx X&&((mx:Int)==v)))∧Below W.heap.size W w':=fun W hW=>vars_t v A n C D m E AX mx CX X hx W (VX.keep hW)
 cases hr:rightT v n O m Y
 · rw [hr] at c1 c2
   refine evals_core v A n C D m E _ w 0 (by omega) (fun _=>(0,0)) 50 cS (fun W hW=>?_) (fun W hW=>?_)
   · refine (eval_bad v A n C D m E _ 50 (.inl rfl) W fun W2 h2=>ref_bad v A n C D m E _ 50 rfl W2 fun W3 h3=>c1 W3 (later (later hW h2) h3)).mono ?_
     rintro r w' ⟨rfl,hb⟩
     exact⟨⟨none,0,rfl,none0 _⟩,hb⟩
   · refine (run_bad v A n C D m E _ W fun W2 h2=>c2 W2 (later hW h2)).mono ?_
     rintro r w' ⟨rfl,hb⟩
     exact⟨⟨none,0,_,rfl,none0 _⟩,hb⟩
 rw [hr] at c1 c2
 have parts:=hr
 unfold rightT at parts
 simp only [Bool.and_eq_true] at parts
 obtain⟨⟨q1,q2⟩,q3⟩:=parts
 have q1:=of_decide_eq_true q1
 cases hv:(allB mx X&&((mx:Int)==v))
 · rw [hv] at c3
   refine evals_core v A n C D m E _ w 0 (by omega) (fun _=>(0,0)) 1 cS (fun W hW=>?_) (fun W hW=>?_)
   · refine (eval_bad v A n C D m E _ 1 (.inr rfl) W fun W2 h2=>?_).mono ?_
     · cases hne:((mx:Int) != v)
       · have e1:((mx:Int)==v)=true:=by simpa [bne] using hne
         have e2:allB mx X=false:=by rw [e1,Bool.and_true] at hv;exact hv
         have:=ref_all v A n C D m E AX mx CX X hx hne W2 (VX.keep (later hW h2)) fun W3 h3=>c1 W3 (later (later hW h2) h3)
         rw [e2] at this
         exact this
       · exact ref_len v A n C D m E AX mx CX hne W2 fun W3 h3=>c1 W3 (later (later hW h2) h3)
     · rintro r w' ⟨rfl,hb⟩
       exact⟨⟨none,0,rfl,none0 _⟩,hb⟩
   · refine (run_vars v A n C D m E _ W (fun W2 h2=>c2 W2 (later hW h2)) fun W2 h2=>c3 W2 (later hW h2)).mono ?_
     rintro r w' ⟨rfl,hb⟩
     exact⟨⟨none,0,_,rfl,none0 _⟩,hb⟩
 rw [hv] at c3
 simp only [Bool.and_eq_true] at hv
 obtain⟨ha,hvv⟩:=hv
 have hvv:(mx:Int)=v:=by simpa using hvv
 subst hvv
 have hO:∀i,i<n→opB (O i) (i:Int) (mx:Int)=true:=all_upto2.1 q2
 have hY:∀i,i<m→0≤Y i∧Y i<(n:Int):=fun i hi=>by have:=one_yes (all_upto2.1 q3 i hi);omega
 have hX:∀i,i<mx→hsB (X i).1 (X i).2=true:=all_upto2.1 ha
 have cE:∀W,Below w.heap.size w W→_:=fun W hW=>eval_t (mx:Int) A n C D m E O Y AX mx CX X (by omega) (by omega) rfl hO hY W (VO.keep hW) (VY.keep hW) (VX.keep hW) fun W2 h2=>by
   have:=ref_all (mx:Int) A n C D m E AX mx CX X hx (by simp) W2 (VX.keep (later hW h2)) fun W3 h3=>c1 W3 (later (later hW h2) h3)
   rw [ha] at this
   exact this
 have cR:∀W,Below w.heap.size w W→_:=fun W hW=>run_t A n C D m E O Y AX mx CX X (by omega) (by omega) hO hY hX W (VO.keep hW) (VY.keep hW) (VX.keep hW) (fun W2 h2=>c2 W2 (later hW h2)) (fun W2 h2=>c3 W2 (later hW h2))
 have words:∀i,i<m→W2 (vAt O X n (Y i).toNat):=fun i hi=>by
   have lj:(Y i).toNat<(vsL O X n).length:=by rw [vsL_len];have:=hY i hi;omega
   have:vAt O X n (Y i).toNat=(vsL O X n)[(Y i).toNat]:=by unfold vAt;simp [lj]
   rw [this]
   exact vsL_W2 hO (fun i hi=>by obtain⟨b,o,e,l,c0,c1,c2,c3,c4,c5,r⟩:=VO i hi;exact r) (fun i hi=>ivs_words VX i (by omega)) n (by omega) _ (List.getElem_mem lj)
 by_cases hall:∀j,j<n→errI O X j=0
 · refine evals_core (mx:Int) A n C D m E _ w m (by omega) (fun i=>vAt O X n (Y i).toNat) 0 cS (fun W hW=>(cE W hW).mono ?_) (fun W hW=>(cR W hW).mono ?_)
   · rintro r w' ⟨⟨g,rfl,hI, -⟩ | ⟨k,hk, -,h0, -⟩,hb⟩
     · exact⟨⟨_,_,rfl,hI.ivs fun i hi=>words i hi⟩,hb⟩
     · exact absurd (hall k hk) h0
   · rintro r w' ⟨⟨A',C',sl,rfl,hI, -⟩ | ⟨k,hk, -,h0, -⟩,hb⟩
     · exact⟨⟨_,_,_,rfl,hI⟩,hb⟩
     · exact absurd (hall k hk) h0
 · obtain⟨k,hk,hbel,h0⟩:∃k,k<n∧(∀j,j<k→errI O X j=0)∧errI O X k≠0:=by
     apply Classical.byContradiction
     intro hno
     apply hall
     intro j
     induction j using Nat.strongRecOn with
     | ind j ih =>
       intro hj
       apply Classical.byContradiction
       intro h0
       exact hno ⟨j,hj,fun i hi=>ih i hi (by omega),h0⟩
   have uniq:∀k',(∀j,j<k'→errI O X j=0)→errI O X k'≠0→k'=k:=fun k' h1 h2=>by
     rcases Nat.lt_trichotomy k' k with h | h | h
     · exact absurd (hbel k' h) h2
     · exact h
     · exact absurd (h1 k h) h0
   refine evals_core (mx:Int) A n C D m E _ w 0 (by omega) (fun _=>(0,0)) (errI O X k) cS (fun W hW=>(cE W hW).mono ?_) (fun W hW=>(cR W hW).mono ?_)
   · rintro r w' ⟨⟨g,rfl,hI,ha⟩ | ⟨k',hk',b',h0',rfl⟩,hb⟩
     · exact absurd (ha k hk) h0
     · rw [uniq k' b' h0']
       exact⟨⟨none,0,rfl,none0 _⟩,hb⟩
   · rintro r w' ⟨⟨A',C',sl,rfl,hI,ha⟩ | ⟨k',hk',b',h0',rfl⟩,hb⟩
     · exact absurd (ha k hk) h0
     · rw [uniq k' b' h0']
       exact⟨⟨none,0,_,rfl,none0 _⟩,hb⟩
end Go.Proofs.YtnchhfhoaepjnaaGreat
