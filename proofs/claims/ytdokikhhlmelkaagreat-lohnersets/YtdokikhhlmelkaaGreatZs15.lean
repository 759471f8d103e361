/- What Div, Sqr and Sqrt of intervals that hold numbers answer: ends with the quotient, the square, the root between them. The statement IvalHolds, walked: at every input it answers true. Whole numbers as floats: what is exact is rounded to itself, to whichever side; the walk of the statement UlpWhole. -/
import Derived.Test.YtdokikhhlmelkaaGreatZs14
namespace Go.Proofs.YtdokikhhlmelkaaGreat
open Go.ChangeShapes Go.WideShapes Go.ChangeAt Go.RowKit
theorem mulV_nz {p q:Nat} (d:Int) (np:nanB p=false) (nq:nanB q=false):mulV p q d≠9223372036854775808:=by
 have e:=mulV_is d np nq
 unfold mulR at e
 rw [np,nq] at e
 simp only [Bool.or_self,Bool.false_eq_true,if_false] at e
 split at e
 · injection e with e;rw [←e];decide
 · rename_i z
   split at e
   · injection e with e
     rw [←e]
     have z':(isZ p || isZ q)=false:=by simpa using z
     have z2:=Bool.or_eq_false_iff.1 z'
     have h1:=splitM_lt p
     have h2:=splitM_lt q
     exact (roundN_facts (splitG p != splitG q) (prodM (splitM p) (splitM q)) (prodE (splitM p) (splitE p) (splitM q) (splitE q)) d (prodM_lt (splitM_zero z2.1) (splitM_zero z2.2) (by omega) (by omega))).2.1
   · injection e with e
     rw [←e]
     exact (infW_facts _).2.1
theorem divR_fin {a b:Nat} (d:Int) (fa:finB a=true) (fb:finB b=true) (zb:isZ b=false):divR a b d=some (divF a b d):=by
 unfold divR
 rw [fin_not_nan fa,fin_not_nan fb,zb,fa,fb]
 simp
theorem divF_facts {a b:Nat} (d:Int) (zb:isZ b=false):nanB (divF a b d)=false∧divF a b d≠9223372036854775808∧divF a b d<18446744073709551616:=roundN_facts _ _ _ d (divM_lt zb)
theorem div_mirror {a b:Nat} (hb:b<18446744073709551616) (fa:finB a=true) (fb:finB b=true) (zb:isZ b=false):key (divF a b 1)=- key (divF a (negB b) (-1)):=by
 have m:=divR_mirror (a:=a) (b:=negB b) (negB_lt hb)
 rw [negB_negB hb,divR_fin (-1) fa (by rw [finB_negB hb];exact fb) (by rw [isZ_negB hb];exact zb),divR_fin 1 fa fb zb] at m
 rcases m with ⟨c, -⟩ | ⟨x,y,e1,e2, -, -,k⟩
 · cases c
 · injection e1 with e1
   injection e2 with e2
   rw [e1,e2];exact k
theorem div_sides {a b:Nat} (ha:a<18446744073709551616) (hb:b<18446744073709551616) (fa:finB a=true) (fb:finB b=true) (zb:isZ b=false) :
   Le (divF a b (-1)) (divF a b 0)∧Le (divF a b 0) (divF a b 1)∧key (divF a b (-1))≤9218868437227405311∧-9218868437227405311≤key (divF a b 1):=by
 obtain⟨u,hu⟩:∃u:Nat,u=1075:=⟨_,rfl⟩
 have s:=divR_sides a b
 rw [divR_fin (-1) fa fb zb,divR_fin 0 fa fb zb,divR_fin 1 fa fb zb] at s
 have t1:=(div_bot hu ha fa fb zb).2
 have t2:=(div_bot hu ha fa (b:=negB b) (by rw [finB_negB hb];exact fb) (by rw [isZ_negB hb];exact zb)).2
 have t3:=div_mirror hb fa fb zb
 rcases s with ⟨c, -, -⟩ | ⟨d,n,v,e1,e2,e3,ok⟩
 · cases c
 · injection e1 with e1
   injection e2 with e2
   injection e3 with e3
   obtain⟨⟨nd,nn,nu⟩, -,⟨ld,ln,lu⟩,k1,k2, -⟩:=ok
   rw [e1] at t1 ⊢
   rw [e3] at t3 ⊢
   rw [e2]
   exact⟨⟨ld,ln,nd,nn,k1⟩,⟨ln,lu,nn,nu,k2⟩,t1,by omega⟩
theorem isZ_pos {b:Nat} (hb:b<18446744073709551616) (h:key b≠0):isZ b=false:=by
 cases c:isZ b
 · rfl
 · exact absurd ((key_zero hb).1 c) h
theorem point0_w (w:World):Calls Tryz.prog 28 #[.float .f64 0] w fun e w'=>e=.returned (.agg #[.float .f64 0,.float .f64 0])∧Below w.heap.size w w':=by
 have h:=point_w 0 (by omega) w
 have e:makeP 0 0=(0,0):=by
   have h1:pz 0=0:=rfl
   have h2:hsB 0 0=true:=by decide
   unfold makeP
   rw [h1,if_pos h2]
 rw [e] at h
 exact h
theorem told_calls {f:FuncId} {args:Array Value} {o:Option Nat} {v:Nat} (h:o=some v) (c:∀w,Calls Tryz.prog f args w fun x w'=>Ans o x∧Below w.heap.size w w') :
   ∀w,Calls Tryz.prog f args w fun e w'=>e=.returned (.float .f64 v)∧Below w.heap.size w w':=fun w=>by
 have c:=c w
 rw [h] at c
 refine c.mono ?_
 rintro _ _ ⟨⟨r,rfl, -,e⟩,hb⟩
 have e:r=v:=e
 rw [e]
 exact⟨rfl,hb⟩
theorem kdown_exact {x:Ex} (ok:x.Ok) {k l:Int} (h1:-9218868437227405312≤k) (h2:k≤9218868437227405311) (le:x.le (2*V k)) (ge:x.ge (2*V k)) (h:KDown x l):l=k:=by
 have hk:KDown x k:=⟨h1,h2,Or.inr le,Or.inr fun c=>by
   have:=ok.sep ge c
   have:=V_mono (show k<k+1 by omega)
   omega⟩
 exact Int.le_antisymm (kdown_mono ok (fun _ c=>c) h hk) (kdown_mono ok (fun _ c=>c) hk h)
theorem side_dir (dir:Int) (g:Bool):(dir<0→sideN dir g=sideN (-1) g)∧(dir=0→sideN dir g=sideN 0 g)∧(0<dir→sideN dir g=sideN 1 g):=by
 unfold sideN
 refine⟨fun h=>?_,fun h=>by rw [h],fun h=>?_⟩
 · have h1:¬dir=0:=by omega
   have h2:¬0<dir:=by omega
   simp [h1,h2]
 · have h1:¬dir=0:=by omega
   simp [h1,h]
theorem round_dir (g:Bool) (m:Nat) (e dir:Int):(dir<0∧roundN g m e dir=roundN g m e (-1))∨(dir=0∧roundN g m e dir=roundN g m e 0)∨(0<dir∧roundN g m e dir=roundN g m e 1):=by
 have s:=side_dir dir g
 unfold roundN
 rcases Int.lt_trichotomy dir 0 with c | c | c
 · left;exact⟨c,by rw [s.1 c]⟩
 · right;left;exact⟨c,by rw [s.2.1 c]⟩
 · right;right;exact⟨c,by rw [s.2.2 c]⟩
theorem all_sides {f:Int→Nat} {k:Int} (hd:∀d,(d<0∧f d=f (-1))∨(d=0∧f d=f 0)∨(0<d∧f d=f 1)) (h1:key (f (-1))=k) (h2:key (f 1)=k) (h3:key (f (-1))≤key (f 0)) (h4:key (f 0)≤key (f 1)) (d:Int):key (f d)=k:=by
 rcases hd d with ⟨-,e⟩ | ⟨-,e⟩ | ⟨-,e⟩ <;> rw [e] <;> omega
theorem both {k:Int} (h:-9218868437227405311≤k∧k≤9218868437227405311):(-9218868437227405312≤k∧k≤9218868437227405311)∧(-9218868437227405312≤-k∧-k≤9218868437227405311):=by omega
theorem div_exact {u:Nat} (hu:u=1075) {a b c:Nat} (ha:a<18446744073709551616) (hb:b<18446744073709551616) (hc:c<18446744073709551616) (fa:finB a=true) (fb:finB b=true) (fc:finB c=true) (zb:isZ b=false)
   (h:V (key a)*((2^u:Nat):Int)=2*V (key c)*V (key b)) (dir:Int):key (divF a b dir)=key c:=by
 have kc:=fin_key hc fc
 have core:∀{a b c:Nat},a<18446744073709551616→b<18446744073709551616→finB a=true→finB b=true→isZ b=false→-9218868437227405312≤key c→key c≤9218868437227405311→V (key a)*((2^u:Nat):Int)=2*V (key c)*V (key b)→key (divF a b (-1))=key c:=by
   intro a b c ha hb fa fb zb k1 k2 h
   have kv:=key_val hb
   have e:(if splitG b then -V (key a) else V (key a))*((2^u:Nat):Int)=2*V (key c)*((val (b%9223372036854775808):Nat):Int):=by
     cases g:splitG b
     · rw [g] at kv
       simp only [Bool.false_eq_true,if_false] at kv ⊢
       rw [h,kv]
     · rw [g] at kv
       simp only [if_true] at kv ⊢
       rw [Int.neg_mul,h,kv,Int.mul_neg,Int.neg_neg]
   exact kdown_exact (exQ_ok _ (valz zb)) k1 k2 (by show 2*V (key c)*_≤_;rw [e];exact Int.le_refl _) (by show _≤2*V (key c)*_;rw [e];exact Int.le_refl _) (divF_down hu ha fa fb zb)
 have h1:=core ha hb fa fb zb (both kc).1.1 (both kc).1.2 h
 have h2:=core (c:=negB c) ha (negB_lt hb) fa (by rw [finB_negB hb];exact fb) (by rw [isZ_negB hb];exact zb) (by rw [key_negB hc];exact (both kc).2.1) (by rw [key_negB hc];exact (both kc).2.2) (by rw [key_negB hb,key_negB hc,V_neg,V_neg,h,Int.mul_neg 2,Int.neg_mul_neg])
 have m:=div_mirror hb fa fb zb
 rw [h2,key_negB hc] at m
 obtain⟨s1,s2, -, -⟩:=div_sides ha hb fa fb zb
 exact all_sides (f:=divF a b) (fun d=>round_dir _ _ _ d) h1 (by rw [m,Int.neg_neg]) s1.le s2.le dir
theorem addF_facts (a b:Nat) (d:Int):nanB (addF a b d)=false∧addF a b d≠9223372036854775808∧addF a b d<18446744073709551616:=by
 unfold addF
 exact roundN_facts _ _ _ d (sumM_lt (splitG a) (splitM a) (splitE a) (splitG b) (splitM b) (splitE b) (splitM_lt a) (splitM_lt b))
theorem addR_fin {a b:Nat} (d:Int) (fa:finB a=true) (fb:finB b=true):addR a b d=some (addF a b d):=by
 unfold addR
 rw [fin_not_nan fa,fin_not_nan fb,fa,fb,if_neg (by decide),if_pos (by decide)]
end Go.Proofs.YtdokikhhlmelkaaGreat
