/- The program's reading of an exponent, whole (rat.readExponent). The program's reading of a number's text (rat.Read). -/
import Derived.Test.YtgocelaghggpmaaDoorKa11
import Derived.Test.YtgocelaghggpmaaDoorKa10
namespace Go.Proofs.YtgocelaghggpmaaDoor
open Go.ChangeShapes Go.WideShapes Go.ChangeAt Go.RowKit
theorem lead_dg (v:ByteArray) (lim:Nat):∀i (h:i<(v.extract 0 (ldN v lim)).size),isDg (v.extract 0 (ldN v lim))[i]=true:=by
 intro i h
 have l:=ldN_le v lim
 have hs:i<ldN v lim:=by rw [ByteArray.size_extract] at h;omega
 have hu:i<(v.data.toList.takeWhile isDg).length:=by
   have:ldN v lim≤uptoN v 0:=by unfold ldN;omega
   unfold uptoN at this
   rw [List.drop_zero,Nat.zero_add] at this
   omega
 have ha:=List.all_eq_true.1 (List.all_takeWhile (p:=isDg) (l:=v.data.toList)) _ (List.getElem_mem hu)
 rw [(List.takeWhile_prefix isDg (l:=v.data.toList)).getElem hu] at ha
 rw [ByteArray.getElem_extract]
 simp only [Nat.zero_add]
 exact ha
theorem lead_size (v:ByteArray) (lim:Nat):(v.extract 0 (ldN v lim)).size=ldN v lim:=by
 have l:=ldN_le v lim
 rw [ByteArray.size_extract]
 omega
theorem lead_empty (v:ByteArray) (lim:Nat):(v.extract 0 (ldN v lim)).toList.isEmpty=!(decide (ldN v lim≠0)):=by
 rw [empty_is,lead_size]
 by_cases q:ldN v lim=0
 · rw [decide_eq_true q,decide_eq_false (by omega)];rfl
 · rw [decide_eq_false q,decide_eq_true q];rfl
structure Expo where
 e:Int
 r:ByteArray
 ok:Bool
def afterS (t:ByteArray):ByteArray:=if headB t 45 || headB t 43 then t.extract 1 t.size else t
def expS (t v:ByteArray):Expo:=⟨if headB t 45 then -((valN (v.extract 0 (ldN v 2)).data.toList:Nat):Int) else ((valN (v.extract 0 (ldN v 2)).data.toList:Nat):Int),v.extract (ldN v 2) v.size,decide (ldN v 2≠0)⟩
def expB (s:ByteArray):Expo:=if headB s 101 || headB s 69 then expS (s.extract 1 s.size) (afterS (s.extract 1 s.size)) else ⟨0,s,true⟩
set_option maxHeartbeats 1000000 in
theorem readExponent_w (s:ByteArray) (hs:(s.size:Int)≤9223372036854775807) (w:World) :
   Calls Tryd.prog 21 #[.string s] w fun e w'=>e=.returned (.tuple #[.int .i64 (expB s).e,.string (expB s).r,.bool (expB s).ok])∧Below w.heap.size w w':=by
 by_cases z:s.size=0
 · have e:expB s=⟨0,s,true⟩:=by unfold expB;rw [head_none z,head_none z];rfl
   rw [e]
   exact (expo_none s (Or.inl (by rw [empty_is,decide_eq_true z])) w).mono fun _ _ ⟨h1,h2⟩=>⟨h1,by rw [h2];exact Below.refl _ _⟩
 · have h0:0<s.size:=by omega
   have he:s.toList.isEmpty=false:=by rw [empty_is,decide_eq_false z]
   by_cases c:s[0].toNat=101∨s[0].toNat=69
   · have e:expB s=expS (s.extract 1 s.size) (afterS (s.extract 1 s.size)):=by
       unfold expB
       rw [head_some h0,head_some h0]
       rcases c with c | c <;> rw [c] <;> rfl
     rw [e]
     have sz:(s.extract 1 s.size).size=s.size-1:=by rw [ByteArray.size_extract];omega
     obtain⟨t,ht⟩:∃t,s.extract 1 s.size=t:=⟨_,rfl⟩
     rw [ht] at sz ⊢
     have cl:∀(v:ByteArray),v.size≤s.size→∀W,Calls Tryd.prog 19 #[.string v,.int .i64 2] W fun e w'=>e=.returned (.tuple #[.string (v.extract 0 (ldN v 2)),.string (v.extract (ldN v 2) v.size)])∧Below W.heap.size W w':=fun v hv W=>leading_w v 2 (by omega) (by omega) W
     have tz:(t.extract 1 t.size).size≤s.size:=by rw [ByteArray.size_extract];omega
     have la:∀v:ByteArray,(v.extract 0 (ldN v 2)).size≤2:=fun v=>by rw [lead_size];unfold ldN;omega
     by_cases t0:0<t.size
     · have te:t.toList.isEmpty=false:=by rw [empty_is,decide_eq_false (by omega)]
       by_cases m:t[0].toNat=45
       · have ea:afterS t=t.extract 1 t.size:=by unfold afterS;rw [head_some t0,m];rfl
         have hh:headB t 45=true:=by rw [head_some t0,m];rfl
         rw [ea]
         unfold expS
         rw [if_pos hh]
         rcases c with c | c
         · exact expo_lm s t (t.extract 1 t.size) ((t.extract 1 t.size).extract 0 (ldN (t.extract 1 t.size) 2)) ((t.extract 1 t.size).extract (ldN (t.extract 1 t.size) 2) (t.extract 1 t.size).size) (decide (ldN (t.extract 1 t.size) 2≠0)) _ he h0 c ht te t0 m rfl (lead_empty _ _) (la _) (lead_dg _ _) rfl (cl _ tz) w
         · exact expo_um s t (t.extract 1 t.size) ((t.extract 1 t.size).extract 0 (ldN (t.extract 1 t.size) 2)) ((t.extract 1 t.size).extract (ldN (t.extract 1 t.size) 2) (t.extract 1 t.size).size) (decide (ldN (t.extract 1 t.size) 2≠0)) _ he h0 c ht te t0 m rfl (lead_empty _ _) (la _) (lead_dg _ _) rfl (cl _ tz) w
       · have hh:¬headB t 45=true:=by rw [head_some t0,beq_eq_false_iff_ne.2 m];exact Bool.false_ne_true
         by_cases p:t[0].toNat=43
         · have ea:afterS t=t.extract 1 t.size:=by unfold afterS;rw [head_some t0,head_some t0,p];rfl
           rw [ea]
           unfold expS
           rw [if_neg hh]
           rcases c with c | c
           · exact expo_lp s t (t.extract 1 t.size) ((t.extract 1 t.size).extract 0 (ldN (t.extract 1 t.size) 2)) ((t.extract 1 t.size).extract (ldN (t.extract 1 t.size) 2) (t.extract 1 t.size).size) (decide (ldN (t.extract 1 t.size) 2≠0)) _ he h0 c ht te t0 p rfl (lead_empty _ _) (la _) (lead_dg _ _) rfl (cl _ tz) w
           · exact expo_up s t (t.extract 1 t.size) ((t.extract 1 t.size).extract 0 (ldN (t.extract 1 t.size) 2)) ((t.extract 1 t.size).extract (ldN (t.extract 1 t.size) 2) (t.extract 1 t.size).size) (decide (ldN (t.extract 1 t.size) 2≠0)) _ he h0 c ht te t0 p rfl (lead_empty _ _) (la _) (lead_dg _ _) rfl (cl _ tz) w
         · have ea:afterS t=t:=by unfold afterS;rw [head_some t0,head_some t0,beq_eq_false_iff_ne.2 m,beq_eq_false_iff_ne.2 p];rfl
           rw [ea]
           unfold expS
           rw [if_neg hh]
           rcases c with c | c
           · exact expo_lo s t (t.extract 0 (ldN t 2)) (t.extract (ldN t 2) t.size) (decide (ldN t 2≠0)) _ he h0 c ht (Or.inr ⟨te,t0,m,p⟩) (lead_empty _ _) (la _) (lead_dg _ _) rfl (cl _ (by omega)) w
           · exact expo_uo s t (t.extract 0 (ldN t 2)) (t.extract (ldN t 2) t.size) (decide (ldN t 2≠0)) _ he h0 c ht (Or.inr ⟨te,t0,m,p⟩) (lead_empty _ _) (la _) (lead_dg _ _) rfl (cl _ (by omega)) w
     · have tn:t.size=0:=by omega
       have te:t.toList.isEmpty=true:=by rw [empty_is,decide_eq_true tn]
       have ea:afterS t=t:=by unfold afterS;rw [head_none tn,head_none tn];rfl
       have hh:¬headB t 45=true:=by rw [head_none tn];exact Bool.false_ne_true
       rw [ea]
       unfold expS
       rw [if_neg hh]
       rcases c with c | c
       · exact expo_lo s t (t.extract 0 (ldN t 2)) (t.extract (ldN t 2) t.size) (decide (ldN t 2≠0)) _ he h0 c ht (Or.inl te) (lead_empty _ _) (la _) (lead_dg _ _) rfl (cl _ (by omega)) w
       · exact expo_uo s t (t.extract 0 (ldN t 2)) (t.extract (ldN t 2) t.size) (decide (ldN t 2≠0)) _ he h0 c ht (Or.inl te) (lead_empty _ _) (la _) (lead_dg _ _) rfl (cl _ (by omega)) w
   · have c1:¬s[0].toNat=101:=fun q=>c (Or.inl q)
     have c2:¬s[0].toNat=69:=fun q=>c (Or.inr q)
     have e:expB s=⟨0,s,true⟩:=by
       unfold expB
       rw [head_some h0,head_some h0,beq_eq_false_iff_ne.2 c1,beq_eq_false_iff_ne.2 c2];rfl
     rw [e]
     exact (expo_none s (Or.inr ⟨he,h0,c1,c2⟩) w).mono fun _ _ ⟨h1,h2⟩=>⟨h1,by rw [h2];exact Below.refl _ _⟩
set_option maxHeartbeats 4000000 in
theorem read_no (s a s1 d s2 s3:ByteArray) (qf qe:Bool) (e:Int)
   (h:a.toList.isEmpty=true∨(a.toList.isEmpty=false∧qf=false)∨(a.toList.isEmpty=false∧qf=true∧qe=false)∨(a.toList.isEmpty=false∧qf=true∧qe=true∧s3.toList.isEmpty=false))
   (c1:∀W,Calls Tryd.prog 19 #[.string s,.int .i64 40] W fun e w'=>e=.returned (.tuple #[.string a,.string s1])∧Below W.heap.size W w')
   (c2:∀W,Calls Tryd.prog 20 #[.string s1] W fun e w'=>e=.returned (.tuple #[.string d,.string s2,.bool qf])∧Below W.heap.size W w')
   (c3:∀W,Calls Tryd.prog 21 #[.string s2] W fun r w'=>r=.returned (.tuple #[.int .i64 e,.string s3,.bool qe])∧Below W.heap.size W w') (w:World) :
   Calls Tryd.prog 8 #[.string s] w fun r w'=>r=.returned (.tuple #[.agg #[.int .i64 0,.int .i64 0],.int .i64 110])∧Below w.heap.size w w':=by
 have HB:Below w.heap.size w (w.alloc (.cells #[.int .i64 0,.int .i64 0] 23)):=by go_grown
 have X:Has2 (w.alloc (.cells #[.int .i64 0,.int .i64 0] 23)) w.heap.size (.int .i64 0) (.int .i64 0):=⟨by go_simp,by go_simp,by go_simp,by go_simp,by go_size⟩
 rcases h with h | ⟨h,rfl⟩ | ⟨h,rfl,rfl⟩ | ⟨h,rfl,rfl,h3⟩
 all_goals
   go_enter Tryd.func8,Tryd.ntmps8
   go_wp2_with (first
     | (go_at_call 19;(with_reducible refine (c1 _).mono ?_);rintro _ W1 ⟨rfl,hb1⟩;replace X:=X.keep hb1;replace HB:=later HB hb1;clear hb1)
     | (go_at_call 20;(with_reducible refine (c2 _).mono ?_);rintro _ W2 ⟨rfl,hb1⟩;replace X:=X.keep hb1;replace HB:=later HB hb1;clear hb1)
     | (go_at_call 21;(with_reducible refine (c3 _).mono ?_);rintro _ W3 ⟨rfl,hb1⟩;replace X:=X.keep hb1;replace HB:=later HB hb1;clear hb1;obtain⟨x0,x1,x2,x3,x4⟩:=id X))
   refine bodyPost_ret (v:=.tuple #[.agg #[.int .i64 0,.int .i64 0],.int .i64 110]) (by simp [results,Tryd.results8,go_sem, *]) rfl ⟨rfl, ?_⟩
   repeat' (first | (with_reducible exact HB) | (with_reducible refine Below.setCell ?_ ?_ _) | go_size)
end Go.Proofs.YtgocelaghggpmaaDoor
