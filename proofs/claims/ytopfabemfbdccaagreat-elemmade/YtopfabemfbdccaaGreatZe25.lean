/- What Div, Sqr and Sqrt of intervals that hold numbers answer: ends with the quotient, the square, the root between them. The statement IvalHolds, walked: at every input it answers true. Whole numbers as floats: what is exact is rounded to itself, to whichever side; the walk of the statement UlpWhole. Functions beyond roots, as total functions of words: whole numbers cut off a float. -/
import Derived.Test.YtopfabemfbdccaaGreatZe23
import Derived.Test.YtopfabemfbdccaaGreatZe24
import Derived.Laws.FloatArith
namespace Go.Proofs.YtopfabemfbdccaaGreat
open Go.ChangeShapes Go.WideShapes Go.ChangeAt Go.RowKit
theorem mulV_nz {p q:Nat} (d:Int) (np:nanB p=false) (nq:nanB q=false):mulV p q d≠9223372036854775808:=by
 have e:=mulV_is d np nq
 unfold mulR at e
 rw [np,nq] at e
 simp only [Bool.or_self,Bool.false_eq_true,if_false] at e
 split at e
 · injection e with e;rw [←e];decide
 · rename_i z
   split at e
   · injection e with e
     rw [←e]
     have z':(isZ p || isZ q)=false:=by simpa using z
     have z2:=Bool.or_eq_false_iff.1 z'
     have h1:=splitM_lt p
     have h2:=splitM_lt q
     exact (roundN_facts (splitG p != splitG q) (prodM (splitM p) (splitM q)) (prodE (splitM p) (splitE p) (splitM q) (splitE q)) d (prodM_lt (splitM_zero z2.1) (splitM_zero z2.2) (by omega) (by omega))).2.1
   · injection e with e
     rw [←e]
     exact (infW_facts _).2.1
theorem order_key {x:Nat} (hx:x<18446744073709551616) (hn:nanB x=false):FloatKind.f64.format.order x 0=some (if key x<0 then .lt else if key x=0 then .eq else .gt):=by
 have h0:nanB 0=false:=by decide
 have k0:key 0=0:=rfl
 rw [order_eq x 0 hx (by omega),hn,h0,k0]
 rfl
theorem divR_fin {a b:Nat} (d:Int) (fa:finB a=true) (fb:finB b=true) (zb:isZ b=false):divR a b d=some (divF a b d):=by
 unfold divR
 rw [fin_not_nan fa,fin_not_nan fb,zb,fa,fb]
 simp
theorem divF_facts {a b:Nat} (d:Int) (zb:isZ b=false):nanB (divF a b d)=false∧divF a b d≠9223372036854775808∧divF a b d<18446744073709551616:=roundN_facts _ _ _ d (divM_lt zb)
theorem div_mirror {a b:Nat} (hb:b<18446744073709551616) (fa:finB a=true) (fb:finB b=true) (zb:isZ b=false):key (divF a b 1)=- key (divF a (negB b) (-1)):=by
 have m:=divR_mirror (a:=a) (b:=negB b) (negB_lt hb)
 rw [negB_negB hb,divR_fin (-1) fa (by rw [finB_negB hb];exact fb) (by rw [isZ_negB hb];exact zb),divR_fin 1 fa fb zb] at m
 rcases m with ⟨c, -⟩ | ⟨x,y,e1,e2, -, -,k⟩
 · cases c
 · injection e1 with e1
   injection e2 with e2
   rw [e1,e2];exact k
theorem div_sides {a b:Nat} (ha:a<18446744073709551616) (hb:b<18446744073709551616) (fa:finB a=true) (fb:finB b=true) (zb:isZ b=false) :
   Le (divF a b (-1)) (divF a b 0)∧Le (divF a b 0) (divF a b 1)∧key (divF a b (-1))≤9218868437227405311∧-9218868437227405311≤key (divF a b 1):=by
 obtain⟨u,hu⟩:∃u:Nat,u=1075:=⟨_,rfl⟩
 have s:=divR_sides a b
 rw [divR_fin (-1) fa fb zb,divR_fin 0 fa fb zb,divR_fin 1 fa fb zb] at s
 have t1:=(div_bot hu ha fa fb zb).2
 have t2:=(div_bot hu ha fa (b:=negB b) (by rw [finB_negB hb];exact fb) (by rw [isZ_negB hb];exact zb)).2
 have t3:=div_mirror hb fa fb zb
 rcases s with ⟨c, -, -⟩ | ⟨d,n,v,e1,e2,e3,ok⟩
 · cases c
 · injection e1 with e1
   injection e2 with e2
   injection e3 with e3
   obtain⟨⟨nd,nn,nu⟩, -,⟨ld,ln,lu⟩,k1,k2, -⟩:=ok
   rw [e1] at t1 ⊢
   rw [e3] at t3 ⊢
   rw [e2]
   exact⟨⟨ld,ln,nd,nn,k1⟩,⟨ln,lu,nn,nu,k2⟩,t1,by omega⟩
theorem isZ_pos {b:Nat} (hb:b<18446744073709551616) (h:key b≠0):isZ b=false:=by
 cases c:isZ b
 · rfl
 · exact absurd ((key_zero hb).1 c) h
theorem le00 {x:Nat} (hn:nanB x=false):leB 0 x=decide (0≤key x):=by
 unfold leB
 have h0:nanB 0=false:=by decide
 have k0:key 0=0:=rfl
 rw [hn,h0,k0];simp
theorem eq00 {x:Nat} (hn:nanB x=false):eqB x 0=decide (key x=0):=by
 unfold eqB
 have h0:nanB 0=false:=by decide
 have k0:key 0=0:=rfl
 rw [hn,h0,k0];simp
theorem lq_some {t dl dh a b:Nat} (ht:t<18446744073709551616) (h1:dl<18446744073709551616) (h2:dh<18446744073709551616) (ha:a<18446744073709551616) (hb:b<18446744073709551616) (nt:nanB t=false) (n1:nanB dl=false) (n2:nanB dh=false) (fa:finB a=true) (fb:finB b=true)
   (k0:0≤key dl) (kt:key t≤key a) (k1:key dl≤key b) (k2:key b≤key dh) (kb:0<key b) :
   (leB 0 t=true→∃r,divR t dh (-1)=some r)∧(leB 0 t=false→eqB dl 0=false→∃r,divR t dl (-1)=some r)∧Le (lqP t dl dh) (divF a b (-1)):=by
 have fa':=fin_key ha fa
 have fb':=fin_key hb fb
 have zb:=isZ_pos hb (by omega)
 have zh:=isZ_pos h2 (show key dh≠0 by omega)
 have fm:=divF_facts (a:=a) (-1) zb
 have v0:=V_nonneg k0
 have vt:=V_mono_le kt
 have v1:=V_mono_le k1
 have v2:=V_mono_le k2
 have vb:=V_pos kb
 obtain⟨u,hu⟩:∃u:Nat,u=1075:=⟨_,rfl⟩
 have kbot:=(div_bot hu ha fa fb zb).1
 clear hu
 unfold lqP
 rw [le00 nt,eq00 n1]
 by_cases c:0≤key t
 · have ft:finB t=true:=by
     cases h:finB t
     · rcases (key_inf ht nt).1 h with d | d <;> omega
     · rfl
   have vt0:=V_nonneg c
   simp only [c,decide_true,if_true]
   cases fh:finB dh
   · have e:divR t dh (-1)=some 0:=by unfold divR;rw [nt,n2,zh,ft,fh];simp
     refine⟨fun _=>⟨_,e⟩,(fun h=>by cases h), ?_⟩
     have e2:divD t dh=0:=by unfold divD;rw [e,Option.getD_some]
     rw [e2]
     have kk:key 0≤key (divF a b (-1)):=div_nonneg ha hb fa fb (by omega) kb
     exact⟨by omega,fm.2.2,by decide,fm.1,kk⟩
   · have e:divR t dh (-1)=some (divF t dh (-1)):=divR_fin (-1) ft fh zh
     refine⟨fun _=>⟨_,e⟩,(fun h=>by cases h), ?_⟩
     have e2:divD t dh=divF t dh (-1):=by unfold divD;rw [e,Option.getD_some]
     rw [e2]
     have g:=divF_facts (a:=t) (-1) zh
     refine⟨g.2.2,fm.2.2,g.1,fm.1,div_le ht h2 ha hb ft fh fa fb (by omega) kb ?_⟩
     exact Int.mul_le_mul vt v2 (by omega) (by omega)
 · simp only [c,decide_false,Bool.false_eq_true,if_false]
   refine⟨(fun h=>by cases h), ?_⟩
   by_cases cz:key dl=0
   · simp only [cz,decide_true,if_true]
     exact⟨(fun _ h=>by cases h),infI_lt _,fm.2.2,nan_inf _,fm.1,by rw [key_down];exact kbot⟩
   · simp only [cz,decide_false,Bool.false_eq_true,if_false]
     have zl:=isZ_pos h1 cz
     have fl:finB dl=true:=by
       cases h:finB dl
       · rcases (key_inf h1 n1).1 h with d | d <;> omega
       · rfl
     have vl:=V_pos (show 0<key dl by omega)
     have vt0:=V_lt0 (show key t<0 by omega)
     cases ft:finB t
     · have zt:=isZ_pos ht (show key t≠0 by omega)
       have e:divR t dl (-1)=some (infW (signB t != signB dl)):=by unfold divR;rw [nt,n1,zl,ft,fl];simp
       refine⟨fun _ _=>⟨_,e⟩, ?_⟩
       have e2:divD t dl=infW (signB t != signB dl):=by unfold divD;rw [e,Option.getD_some]
       rw [e2]
       have i:=infW_facts (signB t != signB dl)
       refine⟨i.2.2.1,fm.2.2,i.1,fm.1, ?_⟩
       rw [infW_key,sign_key ht zt,sign_key h1 zl]
       have q1:key t<0:=by omega
       have q2:¬key dl<0:=by omega
       simp only [q1,q2,decide_true,decide_false]
       simpa using kbot
     · have e:divR t dl (-1)=some (divF t dl (-1)):=divR_fin (-1) ft fl zl
       refine⟨fun _ _=>⟨_,e⟩, ?_⟩
       have e2:divD t dl=divF t dl (-1):=by unfold divD;rw [e,Option.getD_some]
       rw [e2]
       have g:=divF_facts (a:=t) (-1) zl
       refine⟨g.2.2,fm.2.2,g.1,fm.1,div_le ht h1 ha hb ft fl fa fb (by omega) kb ?_⟩
       generalize V (key t)=T at *
       generalize V (key dl)=L at *
       generalize V (key a)=A at *
       generalize V (key b)=B at *
       rcases Int.lt_or_le A 0 with ca | ca
       · have s1:T*B≤A*B:=Int.mul_le_mul_of_nonneg_right vt (by omega)
         have s2:A*B≤A*L:=Int.mul_le_mul_of_nonpos_left (by omega) v1
         omega
       · have s1:T*B≤0:=Int.mul_nonpos_of_nonpos_of_nonneg (by omega) (by omega)
         have s2:0≤A*L:=Int.mul_nonneg ca (by omega)
         omega
theorem point0_w (w:World):Calls Tryz.prog 55 #[.float .f64 0] w fun e w'=>e=.returned (.agg #[.float .f64 0,.float .f64 0])∧Below w.heap.size w w':=by
 have h:=point_w 0 (by omega) w
 have e:makeP 0 0=(0,0):=by
   have h1:pz 0=0:=rfl
   have h2:hsB 0 0=true:=by decide
   unfold makeP
   rw [h1,if_pos h2]
 rw [e] at h
 exact h
theorem key_abs {x:Nat} (hx:x<18446744073709551616):key (x%9223372036854775808)=if key x<0 then-key x else key x:=by
 unfold key
 rw [if_pos (by omega)]
 by_cases c:x<9223372036854775808
 · rw [if_pos c,if_neg (by omega)];omega
 · rw [if_neg c]
   split <;> omega
theorem told_calls {f:FuncId} {args:Array Value} {o:Option Nat} {v:Nat} (h:o=some v) (c:∀w,Calls Tryz.prog f args w fun x w'=>Ans o x∧Below w.heap.size w w') :
   ∀w,Calls Tryz.prog f args w fun e w'=>e=.returned (.float .f64 v)∧Below w.heap.size w w':=fun w=>by
 have c:=c w
 rw [h] at c
 refine c.mono ?_
 rintro _ _ ⟨⟨r,rfl, -,e⟩,hb⟩
 have e:r=v:=e
 rw [e]
 exact⟨rfl,hb⟩
theorem kdown_exact {x:Ex} (ok:x.Ok) {k l:Int} (h1:-9218868437227405312≤k) (h2:k≤9218868437227405311) (le:x.le (2*V k)) (ge:x.ge (2*V k)) (h:KDown x l):l=k:=by
 have hk:KDown x k:=⟨h1,h2,Or.inr le,Or.inr fun c=>by
   have:=ok.sep ge c
   have:=V_mono (show k<k+1 by omega)
   omega⟩
 exact Int.le_antisymm (kdown_mono ok (fun _ c=>c) h hk) (kdown_mono ok (fun _ c=>c) hk h)
theorem side_dir (dir:Int) (g:Bool):(dir<0→sideN dir g=sideN (-1) g)∧(dir=0→sideN dir g=sideN 0 g)∧(0<dir→sideN dir g=sideN 1 g):=by
 unfold sideN
 refine⟨fun h=>?_,fun h=>by rw [h],fun h=>?_⟩
 · have h1:¬dir=0:=by omega
   have h2:¬0<dir:=by omega
   simp [h1,h2]
 · have h1:¬dir=0:=by omega
   simp [h1,h]
theorem round_dir (g:Bool) (m:Nat) (e dir:Int):(dir<0∧roundN g m e dir=roundN g m e (-1))∨(dir=0∧roundN g m e dir=roundN g m e 0)∨(0<dir∧roundN g m e dir=roundN g m e 1):=by
 have s:=side_dir dir g
 unfold roundN
 rcases Int.lt_trichotomy dir 0 with c | c | c
 · left;exact⟨c,by rw [s.1 c]⟩
 · right;left;exact⟨c,by rw [s.2.1 c]⟩
 · right;right;exact⟨c,by rw [s.2.2 c]⟩
theorem all_sides {f:Int→Nat} {k:Int} (hd:∀d,(d<0∧f d=f (-1))∨(d=0∧f d=f 0)∨(0<d∧f d=f 1)) (h1:key (f (-1))=k) (h2:key (f 1)=k) (h3:key (f (-1))≤key (f 0)) (h4:key (f 0)≤key (f 1)) (d:Int):key (f d)=k:=by
 rcases hd d with ⟨-,e⟩ | ⟨-,e⟩ | ⟨-,e⟩ <;> rw [e] <;> omega
theorem both {k:Int} (h:-9218868437227405311≤k∧k≤9218868437227405311):(-9218868437227405312≤k∧k≤9218868437227405311)∧(-9218868437227405312≤-k∧-k≤9218868437227405311):=by omega
theorem div_exact {u:Nat} (hu:u=1075) {a b c:Nat} (ha:a<18446744073709551616) (hb:b<18446744073709551616) (hc:c<18446744073709551616) (fa:finB a=true) (fb:finB b=true) (fc:finB c=true) (zb:isZ b=false)
   (h:V (key a)*((2^u:Nat):Int)=2*V (key c)*V (key b)) (dir:Int):key (divF a b dir)=key c:=by
 have kc:=fin_key hc fc
 have core:∀{a b c:Nat},a<18446744073709551616→b<18446744073709551616→finB a=true→finB b=true→isZ b=false→-9218868437227405312≤key c→key c≤9218868437227405311→V (key a)*((2^u:Nat):Int)=2*V (key c)*V (key b)→key (divF a b (-1))=key c:=by
   intro a b c ha hb fa fb zb k1 k2 h
   have kv:=key_val hb
   have e:(if splitG b then -V (key a) else V (key a))*((2^u:Nat):Int)=2*V (key c)*((val (b%9223372036854775808):Nat):Int):=by
     cases g:splitG b
     · rw [g] at kv
       simp only [Bool.false_eq_true,if_false] at kv ⊢
       rw [h,kv]
     · rw [g] at kv
       simp only [if_true] at kv ⊢
       rw [Int.neg_mul,h,kv,Int.mul_neg,Int.neg_neg]
   exact kdown_exact (exQ_ok _ (valz zb)) k1 k2 (by show 2*V (key c)*_≤_;rw [e];exact Int.le_refl _) (by show _≤2*V (key c)*_;rw [e];exact Int.le_refl _) (divF_down hu ha fa fb zb)
 have h1:=core ha hb fa fb zb (both kc).1.1 (both kc).1.2 h
 have h2:=core (c:=negB c) ha (negB_lt hb) fa (by rw [finB_negB hb];exact fb) (by rw [isZ_negB hb];exact zb) (by rw [key_negB hc];exact (both kc).2.1) (by rw [key_negB hc];exact (both kc).2.2) (by rw [key_negB hb,key_negB hc,V_neg,V_neg,h,Int.mul_neg 2,Int.neg_mul_neg])
 have m:=div_mirror hb fa fb zb
 rw [h2,key_negB hc] at m
 obtain⟨s1,s2, -, -⟩:=div_sides ha hb fa fb zb
 exact all_sides (f:=divF a b) (fun d=>round_dir _ _ _ d) h1 (by rw [m,Int.neg_neg]) s1.le s2.le dir
theorem addF_facts (a b:Nat) (d:Int):nanB (addF a b d)=false∧addF a b d≠9223372036854775808∧addF a b d<18446744073709551616:=by
 unfold addF
 exact roundN_facts _ _ _ d (sumM_lt (splitG a) (splitM a) (splitE a) (splitG b) (splitM b) (splitE b) (splitM_lt a) (splitM_lt b))
theorem addR_fin {a b:Nat} (d:Int) (fa:finB a=true) (fb:finB b=true):addR a b d=some (addF a b d):=by
 unfold addR
 rw [fin_not_nan fa,fin_not_nan fb,fa,fb,if_neg (by decide),if_pos (by decide)]
theorem cutz_le (neg:Bool) (n drop:Nat):Ieee.Toward.cut .zero neg n drop≤n:=by
 unfold Ieee.Toward.cut
 simp
 exact Nat.div_le_self _ _
theorem tint_some {s:Bool} {m:Nat} (h:m≤9007199254740992):∃n:Int,Ieee.signed s m 0=n∧-9007199254740992≤n∧n≤9007199254740992:=by
 unfold Ieee.signed
 cases s
 · exact⟨_,rfl,by simp <;> omega,by simp <;> omega⟩
 · exact⟨_,rfl,by simp <;> omega,by simp <;> omega⟩
theorem trunc_some (x:Nat) (h:x%9223372036854775808≤4845873199050653696):∃n,floatToIntVal .f64 x .i64=some n∧-9007199254740992≤n∧n≤9007199254740992:=by
 have key:∀(s:Bool) (m:Nat) (p:Int),(m <<< p.toNat)≤9007199254740992→∃n,(Ieee.Datum.number s m p).toInt .zero=some n∧-9007199254740992≤n∧n≤9007199254740992:=by
   intro s m p hm
   obtain⟨n,e,a,b⟩:=tint_some (s:=s) (m:=Ieee.Toward.cut .zero s (m <<< p.toNat) (-p).toNat) (Nat.le_trans (cutz_le _ _ _) hm)
   exact⟨n,by unfold Ieee.Datum.toInt Ieee.Datum.integral;simp [e],a,b⟩
 have main:∃n,(FloatKind.f64.decode x).toInt .zero=some n∧-9007199254740992≤n∧n≤9007199254740992:=by
   have e:FloatKind.f64.decode x=Ieee.double.read x:=rfl
   rw [e]
   unfold Ieee.Format.read
   have sw:Ieee.double.signWeight=9223372036854775808:=by decide
   have bn:Ieee.double.binade=4503599627370496:=by decide
   have ir:Ieee.double.infRung=9218868437227405312:=by decide
   have lp:Ieee.double.leastPlace=-1074:=by decide
   simp only [sw,bn,ir,lp]
   generalize x%9223372036854775808=r at *
   by_cases c:r<4503599627370496
   · rw [if_pos c]
     refine key _ _ _ ?_
     show r <<< 0≤_
     simp
     omega
   · rw [if_neg c,if_pos (by omega)]
     refine key _ _ _ ?_
     by_cases d:r/4503599627370496≤1075
     · have z:((-1074:Int)+((r/4503599627370496-1:Nat):Int)).toNat=0:=by omega
       rw [z]
       simp
       omega
     · have q:r=4845873199050653696:=by omega
       subst q
       decide
 obtain⟨n,hn,a,b⟩:=main
 refine⟨n, ?_,a,b⟩
 unfold floatToIntVal
 rw [hn]
 have m1:IntKind.i64.min=-9223372036854775808:=by decide
 have m2:IntKind.i64.max=9223372036854775807:=by decide
 simp only [m1,m2]
 rw [if_pos (by omega)]
theorem cut_even_le (neg:Bool) (n d:Nat) (h:n/2^d<9007199254740992):Ieee.Toward.cut .even neg n d≤9007199254740992:=by
 unfold Ieee.Toward.cut
 simp only [Nat.one_shiftLeft]
 have lo:n/2^(min d (n.log2+2))<9007199254740992:=by
   rcases Nat.le_total d (n.log2+2) with c | c
   · rw [Nat.min_eq_left c];exact h
   · rw [Nat.min_eq_right c]
     have:n<2^(n.log2+2):=Nat.lt_of_lt_of_le (@Nat.lt_log2_self n) (Nat.pow_le_pow_right (by omega) (by omega))
     rw [Nat.div_eq_of_lt this]
     omega
 generalize n/2^(min d (n.log2+2))=q at *
 have:∀b:Bool,b.toNat≤1:=fun b=>by cases b <;> simp
 have:=this (decide (2^min d (n.log2+2)<2*(n%2^min d (n.log2+2))) || 2^min d (n.log2+2)==2*(n%2^min d (n.log2+2))&&q%2==1)
 omega
theorem near_bound (neg:Bool) (mag:Nat) (place:Int) (h:place+(mag.log2:Int)≤51):∃r,Ieee.double.nearest neg mag place=(if neg then 9223372036854775808+r else r)∧r≤4841369599423283200:=by
 have hb:Ieee.double.binade=4503599627370496:=by decide
 have hi:Ieee.double.infRung=9218868437227405312:=by decide
 have hp:Ieee.double.leastPlace=-1074:=by decide
 have hf:Ieee.double.fractionBits=52:=rfl
 have hs:Ieee.double.signWeight=9223372036854775808:=by decide
 unfold Ieee.Format.nearest
 by_cases h0:mag=0
 · rw [if_pos h0]
   exact⟨0,by unfold Ieee.Format.word;rw [hs],by omega⟩
 · rw [if_neg h0]
   simp only [hb,hi,hp,hf]
   generalize hl:max (place+(mag.log2:Int)-(52:Nat)) (-1074)=last
   have k:Ieee.Toward.cut .even neg (mag <<< (place-last).toNat) (last-place).toNat≤9007199254740992:=by
     refine cut_even_le _ _ _ ?_
     rw [Nat.shiftLeft_eq]
     have lt:=@Nat.lt_log2_self mag
     rcases Int.le_total last place with c | c
     · have z:(last-place).toNat=0:=by omega
       rw [z,Nat.pow_zero,Nat.div_one]
       have e:mag.log2+1+(place-last).toNat≤53:=by omega
       calc mag*2^(place-last).toNat<2^(mag.log2+1)*2^(place-last).toNat:=Nat.mul_lt_mul_of_pos_right lt (Nat.two_pow_pos _)
         _=2^(mag.log2+1+(place-last).toNat):=(Nat.pow_add _ _ _).symm
         _≤2^53:=Nat.pow_le_pow_right (by omega) e
         _=9007199254740992:=by decide
     · have z:(place-last).toNat=0:=by omega
       rw [z,Nat.pow_zero,Nat.mul_one]
       have e:mag.log2+1≤53+(last-place).toNat:=by omega
       refine (Nat.div_lt_iff_lt_mul (Nat.two_pow_pos _)).2 ?_
       calc mag<2^(mag.log2+1):=lt
         _≤2^(53+(last-place).toNat):=Nat.pow_le_pow_right (by omega) e
         _=2^53*2^(last-place).toNat:=Nat.pow_add _ _ _
         _=9007199254740992*2^(last-place).toNat:=by rw [show (2:Nat)^53=9007199254740992 by decide]
   generalize Ieee.Toward.cut .even neg (mag <<< (place-last).toNat) (last-place).toNat=kept at *
   refine⟨min ((last - -1074).toNat*4503599627370496+kept) 9218868437227405312,by unfold Ieee.Format.word;rw [hs], ?_⟩
   refine Nat.le_trans (Nat.min_le_left _ _) ?_
   have l1:(last - -1074).toNat≤1073:=by omega
   have l2:=Nat.mul_le_mul_right 4503599627370496 l1
   exact Nat.le_trans (Nat.add_le_add l2 k) (by decide)
theorem add_small (x y:Nat) (hx:x%9223372036854775808<4832362400168542208) (hy:y%9223372036854775808<4832362400168542208):∃r,Ieee.double.add x y=some r∧r<18446744073709551616∧r%9223372036854775808≤4841369599423283200:=by
 have hb:Ieee.double.binade=4503599627370496:=by decide
 have hi:Ieee.double.infRung=9218868437227405312:=by decide
 have hp:Ieee.double.leastPlace=-1074:=by decide
 have hs:Ieee.double.signWeight=9223372036854775808:=by decide
 have rd:∀z:Nat,z%9223372036854775808<4832362400168542208→∃s m i,Ieee.double.read z=.number s m i∧(-1074:Int)≤i∧i≤49∧m<2^(50-i).toNat:=by
   intro z hz
   unfold Ieee.Format.read
   simp only [hs,hb,hi,hp]
   generalize z%9223372036854775808=r at *
   by_cases c:r<4503599627370496
   · rw [if_pos c]
     refine⟨_,_,_,rfl,by omega,by omega, ?_⟩
     have e52:(4503599627370496:Nat)=2^52:=by decide
     rw [e52] at c
     exact Nat.lt_of_lt_of_le c (Nat.pow_le_pow_right (by omega) (by omega))
   · rw [if_neg c,if_pos (by omega)]
     refine⟨_,_,_,rfl,by omega,by omega, ?_⟩
     have e:53≤(50-((-1074:Int)+((r/4503599627370496-1:Nat):Int))).toNat:=by omega
     exact Nat.lt_of_lt_of_le (show 4503599627370496+r%4503599627370496<2^53 by have:r%4503599627370496<4503599627370496:=Nat.mod_lt _ (by omega);rw [show (2:Nat)^53=9007199254740992 by decide];omega) (Nat.pow_le_pow_right (by omega) e)
 obtain⟨s,m,i,e1,i1,i2,hm⟩:=rd x hx
 obtain⟨t,n,j,e2,j1,j2,hn⟩:=rd y hy
 unfold Ieee.Format.add
 rw [e1,e2]
 unfold Ieee.Datum.sum
 simp only [Option.map_some]
 unfold Ieee.Format.write
 simp only
 have ab:∀(b:Bool) (q u:Nat),(Ieee.signed b q u).natAbs=q*2^u:=by
   intro b q u
   unfold Ieee.signed
   rw [Nat.shiftLeft_eq]
   cases b
   · exact Int.natAbs_natCast _
   · rw [if_pos rfl,Int.natAbs_neg]
     exact Int.natAbs_natCast _
 have tb:(Ieee.signed s m (i-min i j).toNat+Ieee.signed t n (j-min i j).toNat).natAbs<2^(51-min i j).toNat:=by
   refine Nat.lt_of_le_of_lt (Int.natAbs_add_le _ _) ?_
   rw [ab,ab]
   have g1:m*2^(i-min i j).toNat<2^(50-min i j).toNat:=by
     have:=Nat.mul_lt_mul_of_pos_right hm (Nat.two_pow_pos (i-min i j).toNat)
     rw [←Nat.pow_add] at this
     rwa [show (50-i).toNat+(i-min i j).toNat=(50-min i j).toNat by omega] at this
   have g2:n*2^(j-min i j).toNat<2^(50-min i j).toNat:=by
     have:=Nat.mul_lt_mul_of_pos_right hn (Nat.two_pow_pos (j-min i j).toNat)
     rw [←Nat.pow_add] at this
     rwa [show (50-j).toNat+(j-min i j).toNat=(50-min i j).toNat by omega] at this
   have e:2^(51-min i j).toNat=2^(50-min i j).toNat+2^(50-min i j).toNat:=by
     rw [show (51-min i j).toNat=(50-min i j).toNat+1 by omega,Nat.pow_succ];omega
   omega
 generalize Ieee.signed s m (i-min i j).toNat+Ieee.signed t n (j-min i j).toNat=total at *
 have lg:min i j+(total.natAbs.log2:Int)≤51:=by
   by_cases z:total.natAbs=0
   · rw [z]
     have:(0:Nat).log2=0:=by decide
     rw [this]
     omega
   · have:=(Nat.log2_lt z).2 tb
     omega
 obtain⟨r,hr,hle⟩:=near_bound (if total=0 then s&&t else decide (total<0)) total.natAbs (min i j) lg
 refine⟨_,rfl, ?_⟩
 rw [hr]
 generalize (if total=0 then s&&t else decide (total<0))=bb
 clear hr lg tb ab rd
 cases bb
 · rw [if_neg (by simp)]
   exact⟨by omega,by omega⟩
 · rw [if_pos rfl]
   exact⟨by omega,by omega⟩
def truncI (x:Nat):Int:=(floatToIntVal .f64 x .i64).getD 0
def flI (x:Nat):Int:=if ltB x (floatOfInt .f64 (truncI x)) then truncI x-1 else truncI x
theorem foi_lt (n:Int):floatOfInt .f64 n<18446744073709551616:=by
 have e:floatOfInt .f64 n=Ieee.double.nearest (decide (n<0)) n.natAbs 0:=rfl
 rw [e]
 exact Ieee.double.nearest_lt _ _ _
theorem flI_in (x:Nat) (hb:x%9223372036854775808<4845873199050653696):-9007199254740993≤flI x∧flI x≤9007199254740992:=by
 obtain⟨n,hn,a,b⟩:=trunc_some x (by omega)
 have ht:truncI x=n:=by unfold truncI;rw [hn];rfl
 unfold flI
 rw [ht]
 split <;> omega
theorem floor_w (x:Nat) (hx:x<18446744073709551616) (hb:x%9223372036854775808<4845873199050653696) (w:World):Calls Tryz.prog 149 #[.float .f64 x] w fun e w'=>e=.returned (.int .i64 (flI x))∧w=w':=by
 obtain⟨n,hn,a,b⟩:=trunc_some x (by omega)
 have ht:truncI x=n:=by unfold truncI;rw [hn];rfl
 unfold flI
 rw [ht]
 clear ht
 have hc:∀w,(convert 22 3 (.float .f64 x)).run Tryz.prog w=.ok (.int .i64 n) w:=fun w=>run_convert_float_int w 22 3 .f64 .i64 x n (by rw [Tryz.underlying22];rfl) Tryz.underlying3 hn
 clear hn
 have hg:=o_gt (foi_lt n) hx
 generalize ltB x (floatOfInt .f64 n)=b at *
 cases b
 all_goals
   go_enter Tryz.func149,Tryz.ntmps149
   go_wp2_with (simp only [hc])
   go_ret
   exact⟨rfl,rfl⟩
theorem ceil_w (x:Nat) (hx:x<18446744073709551616) (hb:x%9223372036854775808<4845873199050653696) (w:World):Calls Tryz.prog 164 #[.float .f64 x] w fun e w'=>e=.returned (.int .i64 (-flI (negB x)))∧w=w':=by
 have hb':negB x%9223372036854775808<4845873199050653696:=by unfold negB;split <;> omega
 have c:=fun w=>floor_w (negB x) (negB_lt hx) hb' w
 have hr:=flI_in (negB x) hb'
 have hneg:Op.negFloat .f64 x=negB x:=negFloat_eq x hx
 generalize flI (negB x)=f at *
 generalize negB x=r at *
 go_enter Tryz.func164,Tryz.ntmps164
 go_wp2_with (go_at_call 149;refine (c _).mono ?_;rintro _ w1 ⟨rfl,rfl⟩)
 go_ret
 exact⟨rfl,rfl⟩
theorem wholeI_w (k:Int) (w:World):Calls Tryz.prog 155 #[.int .i64 k] w fun e w'=>e=.returned (.agg #[.float .f64 (makeP (floatOfInt .f64 k) (floatOfInt .f64 k)).1,.float .f64 (makeP (floatOfInt .f64 k) (floatOfInt .f64 k)).2])∧Below w.heap.size w w':=by
 have hm:=fun w=>point_w (floatOfInt .f64 k) (foi_lt k) w
 generalize makeP (floatOfInt .f64 k) (floatOfInt .f64 k)=p at *
 go_enter Tryz.func155,Tryz.ntmps155
 go_wp2_with (go_at_call 55;refine (hm _).mono ?_;rintro _ w1 ⟨rfl,hb1⟩
              have k1:Has2 w1 w.heap.size (.float .f64 0) (.float .f64 0):=Has2.keep ⟨by go_simp,by go_simp,by go_simp,by go_simp,by go_size⟩ hb1
              obtain⟨a0,a1,a2,a3,a4⟩:=k1)
 refine bodyPost_ret (v:=.agg #[.float .f64 p.1,.float .f64 p.2]) (by simp [results,Tryz.results155,go_sem, *]) rfl ⟨rfl, ?_⟩
 have t:Below w.heap.size w w1:=later (by go_grown) hb1
 repeat' (first | (with_reducible exact t) | (with_reducible refine Below.setCell ?_ ?_ _) | go_size)
theorem Pi_w (w:World):Calls Tryz.prog 5 #[] w fun e w'=>e=.returned (.agg #[.float .f64 (makeP 4614256656552045848 4614256656552045849).1,.float .f64 (makeP 4614256656552045848 4614256656552045849).2])∧Below w.heap.size w w':=by
 have hm:=fun w=>make_w 4614256656552045848 4614256656552045849 (by omega) (by omega) w
 generalize makeP 4614256656552045848 4614256656552045849=p at *
 go_enter Tryz.func5,Tryz.ntmps5
 go_wp2_with (go_at_call 32;refine (hm _).mono ?_;rintro _ w1 ⟨rfl,hb1⟩
              have k1:Has2 w1 w.heap.size (.float .f64 0) (.float .f64 0):=Has2.keep ⟨by go_simp,by go_simp,by go_simp,by go_simp,by go_size⟩ hb1
              obtain⟨a0,a1,a2,a3,a4⟩:=k1)
 refine bodyPost_ret (v:=.agg #[.float .f64 p.1,.float .f64 p.2]) (by simp [results,Tryz.results5,go_sem, *]) rfl ⟨rfl, ?_⟩
 have t:Below w.heap.size w w1:=later (by go_grown) hb1
 repeat' (first | (with_reducible exact t) | (with_reducible refine Below.setCell ?_ ?_ _) | go_size)
theorem Ln2_w (w:World):Calls Tryz.prog 7 #[] w fun e w'=>e=.returned (.agg #[.float .f64 (makeP 4604418534313441775 4604418534313441776).1,.float .f64 (makeP 4604418534313441775 4604418534313441776).2])∧Below w.heap.size w w':=by
 have hm:=fun w=>make_w 4604418534313441775 4604418534313441776 (by omega) (by omega) w
 generalize makeP 4604418534313441775 4604418534313441776=p at *
 go_enter Tryz.func7,Tryz.ntmps7
 go_wp2_with (go_at_call 32;refine (hm _).mono ?_;rintro _ w1 ⟨rfl,hb1⟩
              have k1:Has2 w1 w.heap.size (.float .f64 0) (.float .f64 0):=Has2.keep ⟨by go_simp,by go_simp,by go_simp,by go_simp,by go_size⟩ hb1
              obtain⟨a0,a1,a2,a3,a4⟩:=k1)
 refine bodyPost_ret (v:=.agg #[.float .f64 p.1,.float .f64 p.2]) (by simp [results,Tryz.results7,go_sem, *]) rfl ⟨rfl, ?_⟩
 have t:Below w.heap.size w w1:=later (by go_grown) hb1
 repeat' (first | (with_reducible exact t) | (with_reducible refine Below.setCell ?_ ?_ _) | go_size)
theorem nearOne_w (w:World):Calls Tryz.prog 153 #[] w fun e w'=>e=.returned (.agg #[.float .f64 (makeP 4602678819172646912 4609434218613702656).1,.float .f64 (makeP 4602678819172646912 4609434218613702656).2])∧Below w.heap.size w w':=by
 have hm:=fun w=>make_w 4602678819172646912 4609434218613702656 (by omega) (by omega) w
 generalize makeP 4602678819172646912 4609434218613702656=p at *
 go_enter Tryz.func153,Tryz.ntmps153
 go_wp2_with (go_at_call 32;refine (hm _).mono ?_;rintro _ w1 ⟨rfl,hb1⟩
              have k1:Has2 w1 w.heap.size (.float .f64 0) (.float .f64 0):=Has2.keep ⟨by go_simp,by go_simp,by go_simp,by go_simp,by go_size⟩ hb1
              obtain⟨a0,a1,a2,a3,a4⟩:=k1)
 refine bodyPost_ret (v:=.agg #[.float .f64 p.1,.float .f64 p.2]) (by simp [results,Tryz.results153,go_sem, *]) rfl ⟨rfl, ?_⟩
 have t:Below w.heap.size w w1:=later (by go_grown) hb1
 repeat' (first | (with_reducible exact t) | (with_reducible refine Below.setCell ?_ ?_ _) | go_size)
end Go.Proofs.YtopfabemfbdccaaGreat
