/- Whole numbers as floats: what is exact is rounded to itself, to whichever side; the walk of the statement UlpWhole. The walks of counted, Hull and Meet. The walks of Meet, of the laws' hull, and of Add and Mul with an interval that holds nothing. Plain facts: hulls hold both, meets lie in both and hold just what both hold. What is taken off itself holds nought, what is divided by itself one; negatives twice; the least amount is not above the greatest. A region that draws its order, whose callees make memory of their own but change none: one walk, in the text's order, over all worlds that are as the first one was below its end. The walk of the statement IvalLattice: its two variables. IvalLattice: for every two intervals and every float64 the statement's answer is true. -/
import Derived.Test.YtfdomcnaaadedaaZs16
import Derived.Test.YtfdomcnaaadedaaZs13
import Derived.Test.YtfdomcnaaadedaaZs14
import Derived.Test.YtfdomcnaaadedaaZs03
import Derived.BigQuiet
import Derived.Deep.RegionWith
import Derived.Test.YtfdomcnaaadedaaZs12
namespace Go.Proofs.Ytfdomcnaaadedaa
open Go.ChangeShapes Go.WideShapes Go.ChangeAt Go.RowKit
theorem kdown_exact {x:Ex} (ok:x.Ok) {k l:Int} (h1:-9218868437227405312≤k) (h2:k≤9218868437227405311) (le:x.le (2*V k)) (ge:x.ge (2*V k)) (h:KDown x l):l=k:=by
 have hk:KDown x k:=⟨h1,h2,Or.inr le,Or.inr fun c=>by
   have:=ok.sep ge c
   have:=V_mono (show k<k+1 by omega)
   omega⟩
 exact Int.le_antisymm (kdown_mono ok (fun _ c=>c) h hk) (kdown_mono ok (fun _ c=>c) hk h)
theorem side_dir (dir:Int) (g:Bool):(dir<0→sideN dir g=sideN (-1) g)∧(dir=0→sideN dir g=sideN 0 g)∧(0<dir→sideN dir g=sideN 1 g):=by
 unfold sideN
 refine⟨fun h=>?_,fun h=>by rw [h],fun h=>?_⟩
 · have h1:¬dir=0:=by omega
   have h2:¬0<dir:=by omega
   simp [h1,h2]
 · have h1:¬dir=0:=by omega
   simp [h1,h]
theorem round_dir (g:Bool) (m:Nat) (e dir:Int):(dir<0∧roundN g m e dir=roundN g m e (-1))∨(dir=0∧roundN g m e dir=roundN g m e 0)∨(0<dir∧roundN g m e dir=roundN g m e 1):=by
 have s:=side_dir dir g
 unfold roundN
 rcases Int.lt_trichotomy dir 0 with c | c | c
 · left;exact⟨c,by rw [s.1 c]⟩
 · right;left;exact⟨c,by rw [s.2.1 c]⟩
 · right;right;exact⟨c,by rw [s.2.2 c]⟩
theorem all_sides {f:Int→Nat} {k:Int} (hd:∀d,(d<0∧f d=f (-1))∨(d=0∧f d=f 0)∨(0<d∧f d=f 1)) (h1:key (f (-1))=k) (h2:key (f 1)=k) (h3:key (f (-1))≤key (f 0)) (h4:key (f 0)≤key (f 1)) (d:Int):key (f d)=k:=by
 rcases hd d with ⟨-,e⟩ | ⟨-,e⟩ | ⟨-,e⟩ <;> rw [e] <;> omega
theorem both {k:Int} (h:-9218868437227405311≤k∧k≤9218868437227405311):(-9218868437227405312≤k∧k≤9218868437227405311)∧(-9218868437227405312≤-k∧-k≤9218868437227405311):=by omega
theorem div_exact {u:Nat} (hu:u=1075) {a b c:Nat} (ha:a<18446744073709551616) (hb:b<18446744073709551616) (hc:c<18446744073709551616) (fa:finB a=true) (fb:finB b=true) (fc:finB c=true) (zb:isZ b=false)
   (h:V (key a)*((2^u:Nat):Int)=2*V (key c)*V (key b)) (dir:Int):key (divF a b dir)=key c:=by
 have kc:=fin_key hc fc
 have core:∀{a b c:Nat},a<18446744073709551616→b<18446744073709551616→finB a=true→finB b=true→isZ b=false→-9218868437227405312≤key c→key c≤9218868437227405311→V (key a)*((2^u:Nat):Int)=2*V (key c)*V (key b)→key (divF a b (-1))=key c:=by
   intro a b c ha hb fa fb zb k1 k2 h
   have kv:=key_val hb
   have e:(if splitG b then -V (key a) else V (key a))*((2^u:Nat):Int)=2*V (key c)*((val (b%9223372036854775808):Nat):Int):=by
     cases g:splitG b
     · rw [g] at kv
       simp only [Bool.false_eq_true,if_false] at kv ⊢
       rw [h,kv]
     · rw [g] at kv
       simp only [if_true] at kv ⊢
       rw [Int.neg_mul,h,kv,Int.mul_neg,Int.neg_neg]
   exact kdown_exact (exQ_ok _ (valz zb)) k1 k2 (by show 2*V (key c)*_≤_;rw [e];exact Int.le_refl _) (by show _≤2*V (key c)*_;rw [e];exact Int.le_refl _) (divF_down hu ha fa fb zb)
 have h1:=core ha hb fa fb zb (both kc).1.1 (both kc).1.2 h
 have h2:=core (c:=negB c) ha (negB_lt hb) fa (by rw [finB_negB hb];exact fb) (by rw [isZ_negB hb];exact zb) (by rw [key_negB hc];exact (both kc).2.1) (by rw [key_negB hc];exact (both kc).2.2) (by rw [key_negB hb,key_negB hc,V_neg,V_neg,h,Int.mul_neg 2,Int.neg_mul_neg])
 have m:=div_mirror hb fa fb zb
 rw [h2,key_negB hc] at m
 obtain⟨s1,s2, -, -⟩:=div_sides ha hb fa fb zb
 exact all_sides (f:=divF a b) (fun d=>round_dir _ _ _ d) h1 (by rw [m,Int.neg_neg]) s1.le s2.le dir
theorem addF_facts (a b:Nat) (d:Int):nanB (addF a b d)=false∧addF a b d≠9223372036854775808∧addF a b d<18446744073709551616:=by
 unfold addF
 exact roundN_facts _ _ _ d (sumM_lt (splitG a) (splitM a) (splitE a) (splitG b) (splitM b) (splitE b) (splitM_lt a) (splitM_lt b))
theorem addR_fin {a b:Nat} (d:Int) (fa:finB a=true) (fb:finB b=true):addR a b d=some (addF a b d):=by
 unfold addR
 rw [fin_not_nan fa,fin_not_nan fb,fa,fb,if_neg (by decide),if_pos (by decide)]
theorem Has2.put {w:World} {b:Nat} {x y:Value} (h:Has2 w b x y) (x' y':Value):Has2 ((w.setCell ⟨b,0,none⟩ x').setCell ⟨b,1,none⟩ y') b x' y':=by
 obtain⟨h0,h1,f0,f1,hl⟩:=h
 refine⟨by go_simp,by go_simp,by go_simp,by go_simp, ?_⟩
 simp only [World.size_setCell];exact hl
theorem Has2.far {w:World} {b c:Nat} {x y:Value} (h:Has2 w b x y) (hne:c≠b) (x' y':Value):Has2 ((w.setCell ⟨c,0,none⟩ x').setCell ⟨c,1,none⟩ y') b x y:=by
 obtain⟨h0,h1,f0,f1,hl⟩:=h
 have hne':b≠c:=fun e=>hne e.symm
 refine⟨by simp [World.cell?_setCell_far, *],by simp [World.cell?_setCell_far, *],by go_simp,by go_simp, ?_⟩
 simp only [World.size_setCell];exact hl
set_option maxHeartbeats 1000000 in
theorem add_none (xl xh yl yh:Nat) (h1:xl<18446744073709551616) (h2:xh<18446744073709551616) (h3:yl<18446744073709551616) (h4:yh<18446744073709551616) (hs:(hsB xl xh&&hsB yl yh)=false) (w:World) :
   Calls Try.prog 53 #[.agg #[.float .f64 xl,.float .f64 xh],.agg #[.float .f64 yl,.float .f64 yh]] w fun e w'=>e=.returned (.agg #[.float .f64 (infI 1),.float .f64 (infI (-1))])∧Below w.heap.size w w':=by
 have c1:=fun b W hlt c0 c1 c2 c3=>someEmpty2_w b xl xh yl yh h1 h2 h3 h4 W hlt c0 c1 c2 c3
 rw [hs] at c1
 clear hs h1 h2 h3 h4
 go_enter Try.func53,Try.ntmps53
 go_wp2_with (first
   | (go_at_call 65;refine (c1 (w.heap.size+1+1+1) _ (by go_size) (by go_simp) (by go_simp) (by go_simp) (by go_simp)).mono ?_;rintro _ w1 ⟨rfl,hb1⟩
      have R:Has2 w1 (w.heap.size+1+1) (.float .f64 0) (.float .f64 0):=Has2.keep ⟨by go_simp,by go_simp,by go_simp,by go_simp,by go_size⟩ hb1
      have HB:Below w.heap.size w w1:=later (by go_grown) hb1)
   | (go_at_call 76;refine (empty_w _).mono ?_;rintro _ w2 ⟨rfl,hb2⟩;replace HB:=later HB hb2;obtain⟨d0,d1,d2,d3,d4⟩:=R.keep hb2))
 refine bodyPost_ret (v:=.agg #[.float .f64 (infI 1),.float .f64 (infI (-1))]) (by simp [results,Try.results53,go_sem, *]) rfl ⟨rfl, ?_⟩
 repeat' (first | (with_reducible exact HB) | (with_reducible refine Below.setCell ?_ ?_ _) | go_size)
set_option maxHeartbeats 1000000 in
theorem mul_none (xl xh yl yh:Nat) (h1:xl<18446744073709551616) (h2:xh<18446744073709551616) (h3:yl<18446744073709551616) (h4:yh<18446744073709551616) (hs:(hsB xl xh&&hsB yl yh)=false) (w:World) :
   Calls Try.prog 67 #[.agg #[.float .f64 xl,.float .f64 xh],.agg #[.float .f64 yl,.float .f64 yh]] w fun e w'=>e=.returned (.agg #[.float .f64 (infI 1),.float .f64 (infI (-1))])∧Below w.heap.size w w':=by
 have c1:=fun b W hlt c0 c1 c2 c3=>someEmpty2_w b xl xh yl yh h1 h2 h3 h4 W hlt c0 c1 c2 c3
 rw [hs] at c1
 clear hs h1 h2 h3 h4
 go_enter Try.func67,Try.ntmps67
 go_wp2_with (first
   | (go_at_call 65;refine (c1 (w.heap.size+1+1+1) _ (by go_size) (by go_simp) (by go_simp) (by go_simp) (by go_simp)).mono ?_;rintro _ w1 ⟨rfl,hb1⟩
      have R:Has2 w1 (w.heap.size+1+1) (.float .f64 0) (.float .f64 0):=Has2.keep ⟨by go_simp,by go_simp,by go_simp,by go_simp,by go_size⟩ hb1
      have HB:Below w.heap.size w w1:=later (by go_grown) hb1)
   | (go_at_call 76;refine (empty_w _).mono ?_;rintro _ w2 ⟨rfl,hb2⟩;replace HB:=later HB hb2;obtain⟨d0,d1,d2,d3,d4⟩:=R.keep hb2))
 refine bodyPost_ret (v:=.agg #[.float .f64 (infI 1),.float .f64 (infI (-1))]) (by simp [results,Try.results67,go_sem, *]) rfl ⟨rfl, ?_⟩
 repeat' (first | (with_reducible exact HB) | (with_reducible refine Below.setCell ?_ ?_ _) | go_size)
theorem pick_nan {z a b:Nat} (h:z=a∨z=b) (ha:nanB a=false) (hb:nanB b=false):nanB z=false:=by
 rcases h with rfl | rfl
 · exact ha
 · exact hb
theorem pick_ne {z a b:Nat} (h:z=a∨z=b) (ha:a≠9223372036854775808) (hb:b≠9223372036854775808):z≠9223372036854775808:=by
 rcases h with rfl | rfl
 · exact ha
 · exact hb
structure Some2 (lo hi:Nat):Prop where
 nl:nanB lo=false
 nh:nanB hi=false
 le:key lo≤key hi
 lt:key lo<9218868437227405312
 gt:-9218868437227405312<key hi
 zl:lo≠9223372036854775808
 zh:hi≠9223372036854775808
theorem hs_iff {lo hi:Nat}:hsB lo hi=true↔Some2 lo hi:=by
 unfold hsB mz
 simp only [Bool.and_eq_true,Bool.not_eq_true',decide_eq_true_eq,decide_eq_false_iff_not]
 constructor
 · rintro ⟨⟨⟨⟨⟨⟨a,b⟩,c⟩,d⟩,e⟩,f⟩,g⟩
   exact⟨a,b,c,d,e,f,g⟩
 · rintro ⟨a,b,c,d,e,f,g⟩
   exact⟨⟨⟨⟨⟨⟨a,b⟩,c⟩,d⟩,e⟩,f⟩,g⟩
theorem not_some_empty:¬Some2 (infI 1) (infI (-1)):=fun s=>by have:=s.lt;rw [key_up] at this;omega
theorem held_at {lo hi v:Nat} (hl:lo<18446744073709551616) (hh:hi<18446744073709551616) (hv:v<18446744073709551616) (S:Some2 lo hi) (fv:finB v=true) (k1:key lo≤key v) (k2:key v≤key hi):Held lo hi v :=
 ⟨hl,hh,hv,S.nl,S.nh,fv,k1,k2,S.zl,S.zh,hs_iff.2 S⟩
theorem held_some {lo hi:Nat} (hl:lo<18446744073709551616) (hh:hi<18446744073709551616) (S:Some2 lo hi):∃a,Held lo hi a:=by
 cases f1:finB lo
 · cases f2:finB hi
   · refine⟨0,held_at hl hh (by omega) S (by decide) ?_ ?_⟩
     · have k0:key 0=0:=rfl
       rw [k0]
       have:=S.lt
       rcases (key_inf hl S.nl).1 f1 with c | c <;> omega
     · have k0:key 0=0:=rfl
       rw [k0]
       have:=S.gt
       rcases (key_inf hh S.nh).1 f2 with c | c <;> omega
   · exact⟨hi,held_at hl hh hh S f2 S.le (Int.le_refl _)⟩
 · exact⟨lo,held_at hl hh hl S f1 (Int.le_refl _) S.le⟩
theorem addR_nz {a b r:Nat} {d:Int} (h:addR a b d=some r):r≠9223372036854775808:=by
 unfold addR at h
 split at h
 · cases h
 · split at h
   · injection h with h
     rw [←h]
     exact (addF_facts a b d).2.1
   · rename_i nf
     split at h
     · cases h
     · injection h with h
       rw [←h]
       cases fa:finB a
       · simp only [Bool.false_eq_true,if_false]
         exact inf_ne fa
       · simp only [if_true]
         refine inf_ne ?_
         cases fb:finB b
         · rfl
         · rw [fa,fb] at nf;exact absurd rfl nf
theorem one_val {u:Nat} (hu:u=1074):V (key 4607182418800017408)=((2^u:Nat):Int):=by
 have k:key 4607182418800017408=((4607182418800017408:Nat):Int):=by decide
 rw [k,V_nat]
 obtain⟨t,ht⟩:∃t:Nat,t=1022:=⟨_,rfl⟩
 have e:4607182418800017408=t*4503599627370496+4503599627370496:=by omega
 rw [e,val_grid (by omega) (Or.inr (by omega)),show 4503599627370496=2^52 from rfl,←Nat.pow_add,show 52+t=u by omega]
structure Behind (w0:World) where
 W:World
 bel:Below w0.heap.size w0 W
instance (w0:World):Nonempty (Behind w0):=⟨⟨w0,Below.refl _ _⟩⟩
theorem region_behind {P:Program} {id:Nat} {Q:Exit→Act→World→Prop} {a:Act} {w:World} {l:List Oper} (hm:P.follows .mixedOrders=true) (hB:Region.lexB .any l.toArray=true)
   (h:wpQuiet P l.toArray (fun w'=>∃n:Behind w,w'=n.W) (fun a'=>∀w',(∃n:Behind w,w'=n.W)→Q .normal a' w') l a):(Code.region id l.toArray true).wp P Q a w :=
 wp_region_quiet (C:=fun w'=>∃n:Behind w,w'=n.W) hm hB ⟨⟨w.drew,(Below.refl _ _).drew⟩,rfl⟩ (by simpa using h)
theorem Behind.call {P:Program} {f:FuncId} {args:Array Value} {w0:World} {n:Behind w0} {v:Value} (h:Calls P f args n.W fun e w'=>e=.returned v∧Below n.W.heap.size n.W w') :
   Calls P f args n.W fun e w''=>e=.returned v∧∃m:Behind w0,w''=m.W :=
 h.mono fun _ w' ⟨a,b⟩=>⟨a,⟨⟨w',later n.bel b⟩,rfl⟩⟩
theorem Behind.same {P:Program} {f:FuncId} {args:Array Value} {w0:World} {n:Behind w0} {v:Value} (h:Calls P f args n.W fun e w'=>e=.returned v∧n.W=w') :
   Calls P f args n.W fun e w''=>e=.returned v∧∃m:Behind w0,w''=m.W :=
 h.mono fun _ _ ⟨a,b⟩=>⟨a,⟨n,b.symm⟩⟩
theorem Behind.cell {w0:World} (n:Behind w0) {b o:Nat} {v:Value} (h:w0.cell? ⟨b,o,none⟩=some v) (hl:b<w0.heap.size):n.W.cell? ⟨b,o,none⟩=some v:=keepsC n.bel h hl
theorem Has2.alloc {w:World} {b:Nat} {x y:Value} (h:Has2 w b x y) (o:Obj):Has2 (w.alloc o) b x y:=h.keep ((Below.refl _ _).alloc (Nat.le_refl _) o)
theorem below_alloc {w W:World} (h:Below w.heap.size w W) (o:Obj):Below w.heap.size w (W.alloc o):=h.alloc h.size o
theorem has2_new (w:World) (x y:Value) (T:TypeId):Has2 (w.alloc (.cells #[x,y] T)) w.heap.size x y:=⟨by go_simp,by go_simp,by go_simp,by go_simp,by go_size⟩
theorem pick_lt {z a b:Nat} (h:z=a∨z=b) (ha:a<18446744073709551616) (hb:b<18446744073709551616):z<18446744073709551616:=by
 rcases h with h | h <;> rw [h] <;> assumption
end Go.Proofs.Ytfdomcnaaadedaa
