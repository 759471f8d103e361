/- The walks of the reference's Hull, Meet, Neg, ends, Add and Sub: they answer as the program's; IvalSums' walk. The reference's products, amounts and even powers of intervals answer as the program's; IvalProducts' walk. Sin and Cos as functions of words. The program's image of a vector. picard: the wide box by the document's words. -/
import Derived.Lib.Strings
import Derived.Lib.Slices
import Derived.Lib.Small
import Derived.Lib.Walk
import Derived.Lib.BitFns
import Derived.KernelRfl
import Derived.WalkKit
import Derived.Laws.Cover2
import Derived.Laws.FloatArith
import Derived.Laws.BitsAllLaws
import Derived.ProofKit
import Derived.OpenShut
import Derived.WalkSpells
import Derived.WalkLawsBesides
import Derived.Laws.Externs
import Derived.Laws.Bits64b
import Derived.Handy
import Derived.Deep.RegionWith
import Derived.Deep.QuietTactic
import Derived.BigQuiet
import Derived.Deep.RegionHeld3
import Derived.Deep.CutRange
import Derived.Deep.CutBlock
import Derived.Deep.LoopGhost
import Derived.WalkSmall
import Derived.ChangeSame
import Derived.JoinedOf
import Derived.JoinedAt
import Derived.RowKit3
import Derived.Deep.Slices
import Derived.WideKeyArgs
import Derived.Deep.Quiet
import Derived.StillTail
import Derived.Deep.SlicePairs
import Derived.Deep.AppendLies
import Derived.Deep.RegionLaw
import Derived.Lib.SliceRun
import Derived.Test.YtnnfafilgiajoaaGreatZ01
import Derived.Test.YtnnfafilgiajoaaGreatZ02
import Derived.Test.YtnnfafilgiajoaaGreatZ03
import Derived.Test.YtnnfafilgiajoaaGreatZ04
import Derived.Test.YtnnfafilgiajoaaGreatZ05
import Derived.Test.YtnnfafilgiajoaaGreatZ06
import Derived.Test.YtnnfafilgiajoaaGreatZ07
import Derived.Test.YtnnfafilgiajoaaGreatZ08
import Derived.Test.YtnnfafilgiajoaaGreatZ09
import Derived.Test.YtnnfafilgiajoaaGreatZ10
import Derived.Test.YtnnfafilgiajoaaGreatZ11
import Derived.Test.YtnnfafilgiajoaaGreatZ12
import Derived.Test.YtnnfafilgiajoaaGreatZ13
import Derived.Test.YtnnfafilgiajoaaGreatZ14
import Derived.Test.YtnnfafilgiajoaaGreatZ15
import Derived.Test.YtnnfafilgiajoaaGreatZ16
import Derived.Test.YtnnfafilgiajoaaGreatZ17
import Derived.Test.YtnnfafilgiajoaaGreatZ18
import Derived.Test.YtnnfafilgiajoaaGreatZ19
import Derived.Test.YtnnfafilgiajoaaGreatZ20
import Derived.Test.YtnnfafilgiajoaaGreatZ21
import Derived.Test.YtnnfafilgiajoaaGreatZ22
import Derived.Test.YtnnfafilgiajoaaGreatZ23
import Derived.Test.YtnnfafilgiajoaaGreatZ24
import Derived.Test.YtnnfafilgiajoaaGreatZ25
import Derived.Test.YtnnfafilgiajoaaGreatZ26
import Derived.Test.YtnnfafilgiajoaaGreatZ27
import Derived.Test.YtnnfafilgiajoaaGreatZ28
import Derived.Test.YtnnfafilgiajoaaGreatZ29
import Derived.Test.YtnnfafilgiajoaaGreatZ30
import Derived.Test.YtnnfafilgiajoaaGreatZ31
import Derived.Test.YtnnfafilgiajoaaGreatZ32
import Derived.Test.YtnnfafilgiajoaaGreatZ33
import Derived.Test.YtnnfafilgiajoaaGreatZ34
import Derived.Test.YtnnfafilgiajoaaGreatZ35
import Derived.Test.YtnnfafilgiajoaaGreatZ36
import Derived.Test.YtnnfafilgiajoaaGreatZ37
import Derived.Test.YtnnfafilgiajoaaGreatZ38
import Derived.Test.YtnnfafilgiajoaaGreatZ39
import Derived.Test.YtnnfafilgiajoaaGreatZ40
import Derived.Test.YtnnfafilgiajoaaGreatZ41
import Derived.Test.YtnnfafilgiajoaaGreatZ42
import Derived.Test.YtnnfafilgiajoaaGreatZ43
import Derived.Test.YtnnfafilgiajoaaGreatZ44
import Derived.Test.YtnnfafilgiajoaaGreatZ45
import Derived.Test.YtnnfafilgiajoaaGreatZ46
import Derived.Test.YtnnfafilgiajoaaGreatZ47
import Derived.Test.YtnnfafilgiajoaaGreatZ48
import Derived.Test.YtnnfafilgiajoaaGreatZ49
import Derived.Test.YtnnfafilgiajoaaGreatY01
namespace Go.Proofs.YtnnfafilgiajoaaGreat
open Go.ChangeShapes Go.WideShapes Go.ChangeAt Go.RowKit
theorem rsame_self (a b:Nat) (ha:a<18446744073709551616) (hb:b<18446744073709551616) (w:World) :
   Calls Tryz.prog 32 #[.agg #[.float .f64 a,.float .f64 b],.agg #[.float .f64 a,.float .f64 b]] w fun e w'=>e=.returned (.bool true)∧Below w.heap.size w w':=by
 have h:=rsame_w a b a b ha hb ha hb w
 have e:∀R,sameB R R=true:=fun R=>by unfold sameB;cases nanB R <;> simp
 rw [e,e] at h
 exact h
def rmagP (lo hi:Nat):Nat:=if hsB lo hi then (if ltB (lo%9223372036854775808) (hi%9223372036854775808) then hi%9223372036854775808 else lo%9223372036854775808) else 0
theorem rmag_is (lo hi:Nat):rmagP lo hi=magP lo hi:=by
 unfold rmagP magP
 cases hs:hsB lo hi
 · rfl
 · simp only [if_true]
   have S:=hs_iff.1 hs
   have w1:lo%9223372036854775808<9223372036854775808:=Nat.mod_lt _ (by omega)
   have w2:hi%9223372036854775808<9223372036854775808:=Nat.mod_lt _ (by omega)
   rw [maxW_is (by omega) (by omega),lt_is (by rw [nan_abs];exact S.nl) (by rw [nan_abs];exact S.nh)]
   simp only [decide_eq_true_eq]
set_option maxHeartbeats 1000000 in
theorem rmag_core (lo hi al ah:Nat) (b b2:Bool)
   (c1:∀w,Calls Tryz.prog 24 #[.agg #[.float .f64 lo,.float .f64 hi]] w fun e w'=>e=.returned (.bool (!b))∧Below w.heap.size w w')
   (c2:∀w,Calls Tryz.prog 39 #[.float .f64 lo] w fun e w'=>e=.returned (.float .f64 al)∧w=w')
   (c3:∀w,Calls Tryz.prog 39 #[.float .f64 hi] w fun e w'=>e=.returned (.float .f64 ah)∧w=w')
   (o:(FloatKind.f64.format.order ah al==some .gt)=b2) (w:World) :
   Calls Tryz.prog 17 #[.agg #[.float .f64 lo,.float .f64 hi]] w fun e w'=>e=.returned (.float .f64 (if b then (if b2 then ah else al) else 0))∧Below w.heap.size w w':=by
 have X:Has2 (w.alloc (.cells #[.float .f64 lo,.float .f64 hi] 40)) w.heap.size (.float .f64 lo) (.float .f64 hi):=⟨by go_simp,by go_simp,by go_simp,by go_simp,by go_size⟩
 have HB:Below w.heap.size w (w.alloc (.cells #[.float .f64 lo,.float .f64 hi] 40)):=by go_grown
 cases b <;> cases b2
 all_goals
   simp only [Bool.not_true,Bool.not_false,if_true,Bool.false_eq_true,if_false] at c1 ⊢
   go_enter Tryz.func17,Tryz.ntmps17
   go_wp2_with fail
   generalize w.alloc (.cells #[.float .f64 lo,.float .f64 hi] 40)=V0 at *
   obtain⟨x0,x1,x2,x3,x4⟩:=id X
   go_wp2_with (first
     | (go_at_call 24;refine (c1 _).mono ?_;rintro _ w1 ⟨rfl,hb1⟩;replace X:=X.keep hb1;replace HB:=later HB hb1;clear hb1;clear x0 x1 x2 x3 x4
        obtain⟨x0,x1,x2,x3,x4⟩:=id X)
     | (go_at_call_of 39 (Value.float .f64 lo);refine (c2 _).mono ?_;rintro _ _ ⟨rfl,rfl⟩)
     | (go_at_call 39;refine (c3 _).mono ?_;rintro _ _ ⟨rfl,rfl⟩))
   go_ret
   exact⟨rfl,HB⟩
theorem rMag_w (lo hi:Nat) (hl:lo<18446744073709551616) (hh:hi<18446744073709551616) (w:World) :
   Calls Tryz.prog 17 #[.agg #[.float .f64 lo,.float .f64 hi]] w fun e w'=>e=.returned (.float .f64 (magP lo hi))∧Below w.heap.size w w':=by
 rw [←rmag_is]
 exact rmag_core lo hi _ _ _ _ (fun w=>none_w lo hi hl hh w) (fun w=>abs_w lo hl w) (fun w=>abs_w hi hh w) (o_gt absw absw) w
instance (p:Nat×Nat):Decidable (W2 p):=inferInstanceAs (Decidable (_∧_))
set_option maxHeartbeats 2000000 in
theorem rsameV_w (A B:Option Addr) (n C D:Nat) (X Y:Nat→Nat×Nat) (hn:n≤9223372036854775807) (hxy:∀i,i<n→X i=Y i) (w:World) (V:Ivs w A n X) (U:Ivs w B n Y) :
   Calls Tryz.prog 13 #[.slice A n C,.slice B n D] w fun e w'=>e=.returned (.bool true)∧Below w.heap.size w w':=by
 have HX:Hid (∀i,i<n→X i=Y i):=hxy
 clear hxy
 go_enter Tryz.func13,Tryz.ntmps13
 go_wp2_with fail
 go_loopg [13] n (fun G s13 wx=>Below w.heap.size w wx∧∃i:Nat,i+G=n∧s13=.int .i64 (i:Int))
 case atStart=>exact⟨Below.refl _ _,0,by omega,rfl⟩
 case round =>
   obtain⟨HB,i,hi,rfl⟩:=hrel
   by_cases ci:i=n
   · subst ci
     go_wp2_with fail
     go_ret
     exact⟨rfl,HB⟩
   · have hlt:(i:Int)<(n:Int):=by omega
     obtain⟨b,o,hA,hb,x0,x1,l0,l1⟩:=(V.keep HB) i (by omega)
     obtain⟨b',o',hB,hb',y0,y1, -, -⟩:=(U.keep HB) i (by omega)
     rw [←HX i (by omega)] at y0 y1
     have c:=fun w=>rsame_self (X i).1 (X i).2 l0 l1 w
     subst hA hB
     go_upto_region 6 with fail
     have kx0:=fun n:Behind wr=>n.cell x0 hb
     have kx1:=fun n:Behind wr=>n.cell x1 hb
     have ky0:=fun n:Behind wr=>n.cell y0 hb'
     have ky1:=fun n:Behind wr=>n.cell y1 hb'
     refine region_behind (by kernel_rfl) (by kernel_rfl) ?_
     repeat (go_big_quiet_step (first
       | (go_at_call 32;with_reducible refine Behind.call (c _))))
     refine wpQuiet_nil ?_
     rintro _ ⟨q,rfl⟩
     obtain⟨W,hb1⟩:=q
     dsimp only
     replace HB:=later HB hb1
     clear hb1 kx0 kx1 ky0 ky1
     go_wp2_with fail
     go_roundg (n-i-1)
     case measure=>omega
     case rel=>exact⟨HB,i+1,by omega,by go_num⟩
theorem key_word1 {a b:Nat} (ha:a<18446744073709551616) (hb:b<18446744073709551616) (za:a≠9223372036854775808) (zb:b≠9223372036854775808) (h:key a=key b):a=b:=by
 unfold key at h
 split at h <;> split at h <;> omega
theorem hull_in {x u:Nat×Nat} (I:In x.1 x.2 u.1 u.2):hullQ x u=u:=by
 have q1:=minW_key x.1 u.1
 have q2:=maxW_key x.2 u.2
 have k1:=I.kl
 have k2:=I.kh
 have e1:minW x.1 u.1=u.1:=by
   rcases q1.2 with e | e
   · rw [e]
     exact key_word1 I.a1 I.b1 I.S.zl I.T.zl (by rw [e] at q1;have:=q1.1;omega)
   · exact e
 have e2:maxW x.2 u.2=u.2:=by
   rcases q2.2 with e | e
   · rw [e]
     exact key_word1 I.a2 I.b2 I.S.zh I.T.zh (by rw [e] at q2;have:=q2.1;omega)
   · exact e
 unfold hullQ hullP cntP
 rw [if_pos (hs_iff.2 I.S),if_pos (hs_iff.2 I.T)]
 exact Prod.ext e1 e2
theorem mag_tm {x:Nat×Nat} (S:Some2 x.1 x.2) (hx:W2 x) (hb:bndB x=true):Tm (magQ x):=by
 obtain⟨-,k⟩:=mig_key hx.1 hx.2 S
 have hl:=magQ_lt (x:=x)
 unfold bndB infB at hb
 simp only [Bool.and_eq_true,Bool.not_eq_true',decide_eq_false_iff_not] at hb
 have l1:=S.le
 have l2:=S.lt
 have l3:=S.gt
 have h1:=hx.1
 have h2:=hx.2
 have n1:=S.nl
 have n2:=S.nh
 unfold nanB at n1 n2
 simp only [decide_eq_false_iff_not] at n1 n2
 have kl:-9218868437227405312<key x.1:=by
   unfold key
   split <;> omega
 have kh:key x.2<9218868437227405312:=by
   unfold key
   split <;> omega
 have hk:0≤key (magQ x)∧key (magQ x)<9218868437227405312:=by
   unfold magQ
   rw [k]
   omega
 refine⟨hl, ?_,hk.1,hk.2⟩
 have a1:=hk.1
 have a2:=hk.2
 unfold nanB
 refine decide_eq_false ?_
 generalize magQ x=m at *
 unfold key at a1 a2
 split at a1 <;> omega
theorem pt_tm {m:Nat} (T:Tm m):ptQ m=(pz m,pz m)∧Some2 (pz m) (pz m):=by
 obtain⟨k,l,z,n⟩:=pz_key T.lt T.ge
 have g:=T.ge
 have f:=T.fin
 have S:Some2 (pz m) (pz m):=⟨n T.nn,n T.nn,Int.le_refl _,by omega,by omega,z,z⟩
 refine⟨?_,S⟩
 unfold ptQ mkQ makeP
 rw [if_pos (hs_iff.2 S)]
theorem one_pt:ptQ 4607182418800017408=(4607182418800017408,4607182418800017408):=by decide
theorem fac_pt:ptQ 4589168020290535424=(4589168020290535424,4589168020290535424):=by decide
theorem fac_some:Some2 4589168020290535424 4589168020290535424:=hs_iff.1 (by decide)
theorem fac_key:key (mulV 4607182418800017408 4589168020290535424 1)=4589168020290535424:=by decide +kernel
theorem room_ge {x:Nat×Nat} (S:Some2 x.1 x.2) (hx:W2 x) (hb:bndB x=true):4589168020290535424≤key (roomQ x)∧nanB (roomQ x)=false:=by
 have T:=mag_tm S hx hb
 obtain⟨e,P⟩:=pt_tm T
 obtain⟨pk,pl, -, -⟩:=pz_key T.lt T.ge
 have g:=T.ge
 unfold roomQ
 rw [e,one_pt,fac_pt]
 generalize pz (magQ x)=p at *
 obtain⟨l,u,e1,e2,A,l1,l2⟩:=add_some (xl:=4607182418800017408) (xh:=4607182418800017408) (by omega) (by omega) pl pl one_some P
 have p1:addQ (4607182418800017408,4607182418800017408) (p,p)=(l,u):=by unfold addQ addP;rw [hs_iff.2 one_some,hs_iff.2 P,e1,e2];rfl
 obtain⟨r,f,k⟩:∃r,addR 4607182418800017408 0 1=some r∧key r=key 4607182418800017408:=by
   refine⟨_,addR_fin 1 (by decide) (by decide), ?_⟩
   exact add_exact (by omega) (by omega) (by omega) (by decide) (by decide) (by decide) (by rw [show key 0=0 by decide,show V 0=0 by decide];omega) 1
 have hi:=add_high (p:=4607182418800017408) (q:=p) (c:=4607182418800017408) (d:=0) (by omega) pl (by omega) (by omega) (by decide) P.nl (by decide) (by decide) (by decide) (by decide) (Int.le_refl _) (by rw [show key 0=0 by decide];omega) f e2
 rw [k] at hi
 rw [p1]
 obtain⟨M, -,k2⟩:=mul_keys (xl:=4589168020290535424) (xh:=4589168020290535424) (by omega) (by omega) l1 l2 fac_some A
 refine⟨?_,M.nh⟩
 have rise:=mul_rise_up (p:=4607182418800017408) (a:=u) (q:=4589168020290535424) (by omega) l2 (by omega) (by decide) A.nh (by decide) (by decide) hi
 rw [fac_key,mulV_comm] at rise
 show _≤key (mulP 4589168020290535424 4589168020290535424 l u).2
 rw [k2]
 unfold topK
 omega
def wideR (x:Nat×Nat):Nat×Nat:=addQ x (mkQ (zminus (roomQ x)) (roomQ x))
theorem wide_same {x:Nat×Nat} (S:Some2 x.1 x.2) (hx:W2 x) (hb:bndB x=true):wideQ x=wideR x∧In x.1 x.2 (wideQ x).1 (wideQ x).2:=by
 obtain⟨k,n⟩:=room_ge S hx hb
 have hl:=roomQ_lt x
 unfold wideQ wideR
 generalize roomQ x=d at *
 have hz:isZ d=false:=by
   unfold isZ
   refine decide_eq_false fun c=>?_
   unfold key at k
   split at k <;> omega
 have e0:zminus d=negB d:=by unfold zminus;rw [hz,if_neg (by decide)]
 rw [e0]
 have kn:=key_negB hl
 have nl:=negB_lt hl
 have z1:negB d≠9223372036854775808:=fun c=>by rw [c] at kn;rw [show key 9223372036854775808=0 by decide] at kn;omega
 have z2:d≠9223372036854775808:=fun c=>by rw [c,show key 9223372036854775808=0 by decide] at k;omega
 have kle:key d≤9218868437227405312:=by
   have:=n
   unfold nanB at this
   simp only [decide_eq_false_iff_not] at this
   unfold key
   split <;> omega
 have D:Some2 (negB d) d:=⟨by rw [nanB_negB hl];exact n,n,by omega,by omega,by omega,z1,z2⟩
 have em:mkQ (negB d) d=(negB d,d):=by
   unfold mkQ makeP pz
   rw [if_neg z1,if_neg z2,if_pos (hs_iff.2 D)]
 rw [em]
 have I0:In 0 0 (negB d) d:=⟨zero_some,D,by rw [show key 0=0 by decide];omega,by rw [show key 0=0 by decide];omega,by omega,by omega,nl,hl⟩
 have i2:=padd0 S hx
 have gr:=add_gr (In.refl hx.1 hx.2 S) I0
 have W:=addP_lt hx.1 hx.2 nl hl
 have i3:=Gr.in gr i2.T i2.b1 i2.b2 W.1 W.2
 have I:In x.1 x.2 (addQ x (negB d,d)).1 (addQ x (negB d,d)).2:=i2.chain i3
 rw [hull_in I]
 exact⟨rfl,I⟩
theorem run_subz {d:Nat} (hd:d<18446744073709551616) (n:nanB d=false) (t:TypeId) (w:World):(binOp .sub t (.float .f64 0) (.float .f64 d)).run Tryz.prog w=.ok (.float .f64 (zminus d)) w:=by
 refine run_float_arith w .sub t .f64 _ _ _ ?_
 cases f:finB d
 · exact sub_bits_inf hd n f
 · exact sub_bits_fin hd f
def wdL (X:Nat→Nat×Nat) (k:Nat):List (Nat×Nat):=(List.range k).map fun i=>wideR (X i)
theorem wdL_step (X:Nat→Nat×Nat) (k:Nat):wdL X (k+1)=wdL X k++[((wideR (X k)).1,(wideR (X k)).2)]:=by unfold wdL;rw [List.range_succ,List.map_append];rfl
theorem wdL_len (X:Nat→Nat×Nat) (k:Nat):(wdL X k).length=k:=by unfold wdL;rw [List.length_map,List.length_range]
end Go.Proofs.YtnnfafilgiajoaaGreat
