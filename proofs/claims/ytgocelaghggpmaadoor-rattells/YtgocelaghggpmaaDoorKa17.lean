/- The program's Read, whole, over what strconv.ParseInt answers. The program's Read against its model readV, over what strconv.ParseInt answers. -/
import Derived.Test.YtgocelaghggpmaaDoorKa14
namespace Go.Proofs.YtgocelaghggpmaaDoor
open Go.ChangeShapes Go.WideShapes Go.ChangeAt Go.RowKit
theorem frac_facts (s:ByteArray):(fracB s).d.size≤40∧(∀i (h:i<(fracB s).d.size),isDg (fracB s).d[i]=true)∧(fracB s).r.size≤s.size:=by
 unfold fracB
 split
 · refine⟨?_,lead_dg _ _, ?_⟩
   · show (ByteArray.extract _ _ _).size≤40
     rw [lead_size];unfold ldN;omega
   · show (ByteArray.extract _ _ _).size≤_
     rw [ByteArray.size_extract,ByteArray.size_extract];omega
 · exact⟨by show 0≤40;omega,fun i h=>absurd h (Nat.not_lt_zero i),Nat.le_refl _⟩
theorem val_100 {a:ByteArray} (h:a.size≤2) (k:∀i (h:i<a.size),isDg a[i]=true):valN a.data.toList<100:=by
 rw [←vlN_text]
 refine Nat.lt_of_lt_of_le (vlN_lt (bytN_dg k)) ?_
 have:10^a.size≤10^2:=Nat.pow_le_pow_right (by omega) h
 omega
theorem lead_two (v:ByteArray):(v.extract 0 (ldN v 2)).size≤2:=by rw [lead_size];unfold ldN;omega
theorem lead_100 (v:ByteArray):valN (v.extract 0 (ldN v 2)).data.toList<100:=by
 have h1:=lead_two v
 have h2:=lead_dg v 2
 generalize v.extract 0 (ldN v 2)=a at *
 exact val_100 h1 h2
theorem exp_facts (s:ByteArray):(expB s).e≤99∧-99≤(expB s).e:=by
 unfold expB
 split
 · unfold expS
   have:=lead_100 (afterS (s.extract 1 s.size))
   generalize valN ((afterS (s.extract 1 s.size)).extract 0 (ldN (afterS (s.extract 1 s.size)) 2)).data.toList=n at *
   simp only
   split <;> omega
 · exact⟨by show (0:Int)≤99;omega,by show (-99:Int)≤0;omega⟩
set_option maxHeartbeats 2000000 in
theorem read_w (s:ByteArray) (hs:(s.size:Int)≤9223372036854775807) (w:World)
   (cp:∀W g N,Below w.heap.size w W→N≤1000→DgN g (N+1)→Calls Tryd.prog 49 #[.string ⟨(textN g (N+1)).toArray⟩,.int .i64 10,.int .i64 64] W fun e w'=>PInt (vlN g (N+1)) e∧Below W.heap.size W w') :
   Calls Tryd.prog 8 #[.string s] w fun r w'=>r=.returned (.tuple #[.agg #[.int .i64 (readV s).1,.int .i64 (readV s).2.1],.int .i64 (readV s).2.2])∧Below w.heap.size w w':=by
 have c1:∀W,Calls Tryd.prog 19 #[.string s,.int .i64 40] W fun e w'=>e=.returned (.tuple #[.string (s.extract 0 (ldN s 40)),.string (s.extract (ldN s 40) s.size)])∧Below W.heap.size W w':=fun W=>leading_w s 40 (by omega) hs W
 have z1:((s.extract (ldN s 40) s.size).size:Int)≤9223372036854775807:=by rw [ByteArray.size_extract];omega
 have c2:=fun W=>readFraction_w (s.extract (ldN s 40) s.size) z1 W
 obtain⟨f1,f2,f3⟩:=frac_facts (s.extract (ldN s 40) s.size)
 have c3:=fun W=>readExponent_w (fracB (s.extract (ldN s 40) s.size)).r (by omega) W
 have x1:=exp_facts (fracB (s.extract (ldN s 40) s.size)).r
 have a1:=lead_dg s 40
 have a2:=lead_size s 40
 have a3:ldN s 40≤40:=by unfold ldN;omega
 have hR:readV s=if ldN s 40≠0∧(fracB (s.extract (ldN s 40) s.size)).ok=true∧(expB (fracB (s.extract (ldN s 40) s.size)).r).ok=true∧(expB (fracB (s.extract (ldN s 40) s.size)).r).r.size=0 then decV (valN (s.extract 0 (ldN s 40)++(fracB (s.extract (ldN s 40) s.size)).d).data.toList) ((expB (fracB (s.extract (ldN s 40) s.size)).r).e-((fracB (s.extract (ldN s 40) s.size)).d.size:Int)) else (0,0,110):=rfl
 generalize s.extract 0 (ldN s 40)=a at *
 generalize s.extract (ldN s 40) s.size=s1 at *
 generalize expB (fracB s1).r=X at *
 generalize fracB s1=F at *
 generalize ldN s 40=n at *
 rw [hR]
 obtain⟨d,s2,qf⟩:=F
 obtain⟨e,s3,qe⟩:=X
 simp only at *
 by_cases c:n≠0∧qf=true∧qe=true∧s3.size=0
 · rw [if_pos c]
   obtain⟨cn,rfl,rfl,c4⟩:=c
   refine read_yes s a s1 d s2 s3 e _ _ _ (by rw [empty_is,decide_eq_false (by omega)]) (by rw [empty_is,decide_eq_true c4]) (by omega) (by omega) (by omega) (by omega) c1 c2 c3 w ?_
   intro W b cap hb HB BN
   have sz:(a++d).size=a.size+d.size:=ByteArray.size_append
   have DG:=bytN_dg (app_dg a1 f2)
   have ev:=vlN_text (a++d)
   obtain⟨N,hN⟩:∃N,(a++d).size=N+1:=⟨(a++d).size-1,by omega⟩
   rw [hN] at BN DG ev ⊢
   rw [←ev]
   exact decimal_w b N cap (e-(d.size:Int)) (bytN (a++d)) (by omega) (by omega) (by omega) W BN DG (fun W' g hB hD=>cp W' g N (HB.trans (hB.below hb HB.size)) (by omega) hD)
 · rw [if_neg c]
   refine read_no s a s1 d s2 s3 qf qe e ?_ c1 c2 c3 w
   rw [empty_is,empty_is,a2]
   by_cases k:n=0
   · exact Or.inl (decide_eq_true k)
   · rw [decide_eq_false k]
     cases qf
     · exact Or.inr (Or.inl ⟨rfl,rfl⟩)
     · cases qe
       · exact Or.inr (Or.inr (Or.inl ⟨rfl,rfl,rfl⟩))
       · refine Or.inr (Or.inr (Or.inr ⟨rfl,rfl,rfl,decide_eq_false fun q=>c ⟨k,rfl,rfl,q⟩⟩))
end Go.Proofs.YtgocelaghggpmaaDoor
