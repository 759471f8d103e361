/- PicardShorter of tapes and boxes as they lie in memory. picard: the wide box by the document's words. PicardLines of slices as they lie in memory: rates that hang on nothing. PicardLines of slices as they lie in memory. -/
import Derived.Lib.Strings
import Derived.Lib.Slices
import Derived.Lib.Small
import Derived.Lib.Walk
import Derived.Lib.BitFns
import Derived.KernelRfl
import Derived.WalkKit
import Derived.Laws.Cover2
import Derived.Laws.FloatArith
import Derived.Laws.BitsAllLaws
import Derived.ProofKit
import Derived.OpenShut
import Derived.WalkSpells
import Derived.WalkLawsBesides
import Derived.Laws.Externs
import Derived.Laws.Bits64b
import Derived.Handy
import Derived.Deep.RegionWith
import Derived.Deep.QuietTactic
import Derived.BigQuiet
import Derived.Deep.RegionHeld3
import Derived.Deep.CutRange
import Derived.Deep.CutBlock
import Derived.Deep.LoopGhost
import Derived.WalkSmall
import Derived.ChangeSame
import Derived.JoinedOf
import Derived.JoinedAt
import Derived.RowKit3
import Derived.Deep.Slices
import Derived.WideKeyArgs
import Derived.Deep.Quiet
import Derived.StillTail
import Derived.Deep.SlicePairs
import Derived.Deep.AppendLies
import Derived.Deep.RegionLaw
import Derived.Lib.SliceRun
import Derived.WideKeyRuns
import Derived.Maps.Own
import Derived.Test.YtnnfafilgiajoaaGreatZ01
import Derived.Test.YtnnfafilgiajoaaGreatZ02
import Derived.Test.YtnnfafilgiajoaaGreatZ03
import Derived.Test.YtnnfafilgiajoaaGreatZ04
import Derived.Test.YtnnfafilgiajoaaGreatZ05
import Derived.Test.YtnnfafilgiajoaaGreatZ06
import Derived.Test.YtnnfafilgiajoaaGreatZ07
import Derived.Test.YtnnfafilgiajoaaGreatZ08
import Derived.Test.YtnnfafilgiajoaaGreatZ09
import Derived.Test.YtnnfafilgiajoaaGreatZ10
import Derived.Test.YtnnfafilgiajoaaGreatZ11
import Derived.Test.YtnnfafilgiajoaaGreatZ12
import Derived.Test.YtnnfafilgiajoaaGreatZ13
import Derived.Test.YtnnfafilgiajoaaGreatZ14
import Derived.Test.YtnnfafilgiajoaaGreatZ15
import Derived.Test.YtnnfafilgiajoaaGreatZ16
import Derived.Test.YtnnfafilgiajoaaGreatZ17
import Derived.Test.YtnnfafilgiajoaaGreatZ18
import Derived.Test.YtnnfafilgiajoaaGreatZ19
import Derived.Test.YtnnfafilgiajoaaGreatZ20
import Derived.Test.YtnnfafilgiajoaaGreatZ21
import Derived.Test.YtnnfafilgiajoaaGreatZ22
import Derived.Test.YtnnfafilgiajoaaGreatZ23
import Derived.Test.YtnnfafilgiajoaaGreatZ24
import Derived.Test.YtnnfafilgiajoaaGreatZ25
import Derived.Test.YtnnfafilgiajoaaGreatZ26
import Derived.Test.YtnnfafilgiajoaaGreatZ27
import Derived.Test.YtnnfafilgiajoaaGreatZ28
import Derived.Test.YtnnfafilgiajoaaGreatZ29
import Derived.Test.YtnnfafilgiajoaaGreatZ30
import Derived.Test.YtnnfafilgiajoaaGreatZ31
import Derived.Test.YtnnfafilgiajoaaGreatZ32
import Derived.Test.YtnnfafilgiajoaaGreatZ33
import Derived.Test.YtnnfafilgiajoaaGreatZ34
import Derived.Test.YtnnfafilgiajoaaGreatZ35
import Derived.Test.YtnnfafilgiajoaaGreatZ36
import Derived.Test.YtnnfafilgiajoaaGreatZ37
import Derived.Test.YtnnfafilgiajoaaGreatZ38
import Derived.Test.YtnnfafilgiajoaaGreatZ39
import Derived.Test.YtnnfafilgiajoaaGreatZ40
import Derived.Test.YtnnfafilgiajoaaGreatZ41
import Derived.Test.YtnnfafilgiajoaaGreatZ42
import Derived.Test.YtnnfafilgiajoaaGreatZ43
import Derived.Test.YtnnfafilgiajoaaGreatZ44
import Derived.Test.YtnnfafilgiajoaaGreatZ45
import Derived.Test.YtnnfafilgiajoaaGreatZ46
import Derived.Test.YtnnfafilgiajoaaGreatZ47
import Derived.Test.YtnnfafilgiajoaaGreatZ48
import Derived.Test.YtnnfafilgiajoaaGreatZ49
import Derived.Test.YtnnfafilgiajoaaGreatU03
namespace Go.Proofs.YtnnfafilgiajoaaGreat
open Go.ChangeShapes Go.WideShapes Go.ChangeAt Go.RowKit
theorem bound_fair (v:Int) (A:Option Addr) (n C:Nat) (D:Option Addr) (m E:Nat) (O:Nat→Opw) (Y:Nat→Int) (AX:Option Addr) (mx CX:Nat) (X:Nat→Nat×Nat) (t:Nat) (hn:n≤9223372036854775807) (hm:m≤9223372036854775807) (hmx:mx≤9223372036854775807) (ht:t<18446744073709551616)
   (hmm:((rightT v n O m Y&&fldB v m)&&(allB mx X&&((mx:Int)==v))&&tmB t)=true) (hbb:allBd mx X=true) (w:World) (VO:Ops w A n O) (VY:Ins w D m Y) (VX:Ivs w AX mx X) :
   Calls Tryz.prog 7 #[tapeV v A n C D m E,.slice AX mx CX,.float .f64 t] w fun e' w'=>(∃r,e'=.returned r∧BndR ⟨v,A,n,C,D,m,E,AX,mx,CX,t⟩ (okE n O mx) (rtE n O Y) X w' r)∧Below w.heap.size w w':=by
 have F:Fair v n O m Y mx t X:=fair_of ht hmm hbb
 let q:Qst:=⟨v,A,n,C,D,m,E,AX,mx,CX,t⟩
 have K:Ask q (okE n O mx) (rtE n O Y) X w:=Fair.ask (q:=q) F VO VY VX
 have hX:∀i,i<mx→W2 (X i):=fun i hi=>ivs_words VX i hi
 have h0:eqB t 0=true→okE n O mx X=true→gdB q (okE n O mx) (rtE n O Y) X X=true:=fun hz ho=>by
   unfold gdB
   rw [ho,Bool.true_and]
   refine allIn_iff.2 fun i hi=>?_
   obtain⟨r1,r2⟩:=F.facts VO ho i hi
   exact rch_zero (hs_iff.1 (F.hs i hi)) (hX i hi) r2 r1 F.tm hz
 refine bound_good (q:=q) K F.bnd h0 (fun W hW=>?_)
 have c:=pref_w v A n C D m E O Y AX mx CX t X hn hm hmx ht W (VO.keep hW) (VY.keep hW) (VX.keep hW)
 simp only [Bool.and_eq_true,beq_iff_eq] at hmm
 obtain⟨⟨⟨h1,h2⟩,h3,h4⟩,h5⟩:=hmm
 have e1:(anyU mx fun i=>!hsB (X i).1 (X i).2)=false:=anyU_false.2 fun i hi=>by rw [F.hs i hi];rfl
 have e2:(anyU mx fun i=>!bndB (X i))=false:=anyU_false.2 fun i hi=>by rw [F.bnd i hi];rfl
 have e3:((mx:Int) != v)=false:=by simp [h4]
 rw [h1,h2,h5,e1,e2,e3] at c
 exact c
theorem key_word1 {a b:Nat} (ha:a<18446744073709551616) (hb:b<18446744073709551616) (za:a≠9223372036854775808) (zb:b≠9223372036854775808) (h:key a=key b):a=b:=by
 unfold key at h
 split at h <;> split at h <;> omega
theorem hull_in {x u:Nat×Nat} (I:In x.1 x.2 u.1 u.2):hullQ x u=u:=by
 have q1:=minW_key x.1 u.1
 have q2:=maxW_key x.2 u.2
 have k1:=I.kl
 have k2:=I.kh
 have e1:minW x.1 u.1=u.1:=by
   rcases q1.2 with e | e
   · rw [e]
     exact key_word1 I.a1 I.b1 I.S.zl I.T.zl (by rw [e] at q1;have:=q1.1;omega)
   · exact e
 have e2:maxW x.2 u.2=u.2:=by
   rcases q2.2 with e | e
   · rw [e]
     exact key_word1 I.a2 I.b2 I.S.zh I.T.zh (by rw [e] at q2;have:=q2.1;omega)
   · exact e
 unfold hullQ hullP cntP
 rw [if_pos (hs_iff.2 I.S),if_pos (hs_iff.2 I.T)]
 exact Prod.ext e1 e2
theorem mag_tm {x:Nat×Nat} (S:Some2 x.1 x.2) (hx:W2 x) (hb:bndB x=true):Tm (magQ x):=by
 obtain⟨-,k⟩:=mig_key hx.1 hx.2 S
 have hl:=magQ_lt (x:=x)
 unfold bndB infB at hb
 simp only [Bool.and_eq_true,Bool.not_eq_true',decide_eq_false_iff_not] at hb
 have l1:=S.le
 have l2:=S.lt
 have l3:=S.gt
 have h1:=hx.1
 have h2:=hx.2
 have n1:=S.nl
 have n2:=S.nh
 unfold nanB at n1 n2
 simp only [decide_eq_false_iff_not] at n1 n2
 have kl:-9218868437227405312<key x.1:=by
   unfold key
   split <;> omega
 have kh:key x.2<9218868437227405312:=by
   unfold key
   split <;> omega
 have hk:0≤key (magQ x)∧key (magQ x)<9218868437227405312:=by
   unfold magQ
   rw [k]
   omega
 refine⟨hl, ?_,hk.1,hk.2⟩
 have a1:=hk.1
 have a2:=hk.2
 unfold nanB
 refine decide_eq_false ?_
 generalize magQ x=m at *
 unfold key at a1 a2
 split at a1 <;> omega
theorem pt_tm {m:Nat} (T:Tm m):ptQ m=(pz m,pz m)∧Some2 (pz m) (pz m):=by
 obtain⟨k,l,z,n⟩:=pz_key T.lt T.ge
 have g:=T.ge
 have f:=T.fin
 have S:Some2 (pz m) (pz m):=⟨n T.nn,n T.nn,Int.le_refl _,by omega,by omega,z,z⟩
 refine⟨?_,S⟩
 unfold ptQ mkQ makeP
 rw [if_pos (hs_iff.2 S)]
theorem one_pt:ptQ 4607182418800017408=(4607182418800017408,4607182418800017408):=by decide
theorem fac_pt:ptQ 4589168020290535424=(4589168020290535424,4589168020290535424):=by decide
theorem fac_some:Some2 4589168020290535424 4589168020290535424:=hs_iff.1 (by decide)
theorem fac_key:key (mulV 4607182418800017408 4589168020290535424 1)=4589168020290535424:=by decide +kernel
theorem room_ge {x:Nat×Nat} (S:Some2 x.1 x.2) (hx:W2 x) (hb:bndB x=true):4589168020290535424≤key (roomQ x)∧nanB (roomQ x)=false:=by
 have T:=mag_tm S hx hb
 obtain⟨e,P⟩:=pt_tm T
 obtain⟨pk,pl, -, -⟩:=pz_key T.lt T.ge
 have g:=T.ge
 unfold roomQ
 rw [e,one_pt,fac_pt]
 generalize pz (magQ x)=p at *
 obtain⟨l,u,e1,e2,A,l1,l2⟩:=add_some (xl:=4607182418800017408) (xh:=4607182418800017408) (by omega) (by omega) pl pl one_some P
 have p1:addQ (4607182418800017408,4607182418800017408) (p,p)=(l,u):=by unfold addQ addP;rw [hs_iff.2 one_some,hs_iff.2 P,e1,e2];rfl
 obtain⟨r,f,k⟩:∃r,addR 4607182418800017408 0 1=some r∧key r=key 4607182418800017408:=by
   refine⟨_,addR_fin 1 (by decide) (by decide), ?_⟩
   exact add_exact (by omega) (by omega) (by omega) (by decide) (by decide) (by decide) (by rw [show key 0=0 by decide,show V 0=0 by decide];omega) 1
 have hi:=add_high (p:=4607182418800017408) (q:=p) (c:=4607182418800017408) (d:=0) (by omega) pl (by omega) (by omega) (by decide) P.nl (by decide) (by decide) (by decide) (by decide) (Int.le_refl _) (by rw [show key 0=0 by decide];omega) f e2
 rw [k] at hi
 rw [p1]
 obtain⟨M, -,k2⟩:=mul_keys (xl:=4589168020290535424) (xh:=4589168020290535424) (by omega) (by omega) l1 l2 fac_some A
 refine⟨?_,M.nh⟩
 have rise:=mul_rise_up (p:=4607182418800017408) (a:=u) (q:=4589168020290535424) (by omega) l2 (by omega) (by decide) A.nh (by decide) (by decide) hi
 rw [fac_key,mulV_comm] at rise
 show _≤key (mulP 4589168020290535424 4589168020290535424 l u).2
 rw [k2]
 unfold topK
 omega
def wideR (x:Nat×Nat):Nat×Nat:=addQ x (mkQ (zminus (roomQ x)) (roomQ x))
theorem wide_same {x:Nat×Nat} (S:Some2 x.1 x.2) (hx:W2 x) (hb:bndB x=true):wideQ x=wideR x∧In x.1 x.2 (wideQ x).1 (wideQ x).2:=by
 obtain⟨k,n⟩:=room_ge S hx hb
 have hl:=roomQ_lt x
 unfold wideQ wideR
 generalize roomQ x=d at *
 have hz:isZ d=false:=by
   unfold isZ
   refine decide_eq_false fun c=>?_
   unfold key at k
   split at k <;> omega
 have e0:zminus d=negB d:=by unfold zminus;rw [hz,if_neg (by decide)]
 rw [e0]
 have kn:=key_negB hl
 have nl:=negB_lt hl
 have z1:negB d≠9223372036854775808:=fun c=>by rw [c] at kn;rw [show key 9223372036854775808=0 by decide] at kn;omega
 have z2:d≠9223372036854775808:=fun c=>by rw [c,show key 9223372036854775808=0 by decide] at k;omega
 have kle:key d≤9218868437227405312:=by
   have:=n
   unfold nanB at this
   simp only [decide_eq_false_iff_not] at this
   unfold key
   split <;> omega
 have D:Some2 (negB d) d:=⟨by rw [nanB_negB hl];exact n,n,by omega,by omega,by omega,z1,z2⟩
 have em:mkQ (negB d) d=(negB d,d):=by
   unfold mkQ makeP pz
   rw [if_neg z1,if_neg z2,if_pos (hs_iff.2 D)]
 rw [em]
 have I0:In 0 0 (negB d) d:=⟨zero_some,D,by rw [show key 0=0 by decide];omega,by rw [show key 0=0 by decide];omega,by omega,by omega,nl,hl⟩
 have i2:=padd0 S hx
 have gr:=add_gr (In.refl hx.1 hx.2 S) I0
 have W:=addP_lt hx.1 hx.2 nl hl
 have i3:=Gr.in gr i2.T i2.b1 i2.b2 W.1 W.2
 have I:In x.1 x.2 (addQ x (negB d,d)).1 (addQ x (negB d,d)).2:=i2.chain i3
 rw [hull_in I]
 exact⟨rfl,I⟩
theorem nan_key {m:Nat} (hl:m<18446744073709551616) (hn:nanB m=false):-9218868437227405312≤key m∧key m≤9218868437227405312:=by
 unfold nanB at hn
 simp only [decide_eq_false_iff_not] at hn
 unfold key
 split <;> omega
theorem bnd_inside {p u:Nat×Nat} (I:In p.1 p.2 u.1 u.2) (h:bndB u=true):bndB p=true:=by
 obtain⟨S,T,k1,k2,c1,c2,c3,c4⟩:=I
 unfold bndB infB at h ⊢
 simp only [Bool.and_eq_true,Bool.not_eq_true',decide_eq_false_iff_not] at h ⊢
 have s1:=S.lt
 have s2:=S.gt
 have s3:=S.le
 have n1:=S.nl
 have n2:=S.nh
 have n3:=T.nl
 have n4:=T.nh
 have g1:=nan_key c1 n1
 have g2:=nan_key c2 n2
 unfold nanB at n1 n2 n3 n4
 simp only [decide_eq_false_iff_not] at n1 n2 n3 n4
 have a1:-9218868437227405312<key u.1:=by unfold key;split <;> omega
 have a2:key u.2<9218868437227405312:=by unfold key;split <;> omega
 constructor
 · intro e
   have:key p.1=9218868437227405312∨key p.1=-9218868437227405312:=by unfold key;split <;> omega
   omega
 · intro e
   have:key p.2=9218868437227405312∨key p.2=-9218868437227405312:=by unfold key;split <;> omega
   omega
theorem mag_not {x:Nat×Nat} (S:Some2 x.1 x.2) (hx:W2 x) (hb:bndB x=true) {c:Nat} (hc:nanB c=false) (h:ltB c (magQ x)=false):- key c≤key x.1∧key x.2≤key c:=by
 have T:=mag_tm S hx hb
 obtain⟨-,k⟩:=mig_key hx.1 hx.2 S
 have hk:key (magQ x)≤key c:=by
   unfold ltB at h
   rw [hc,T.nn] at h
   simp only [Bool.not_false,Bool.true_and,decide_eq_false_iff_not] at h
   omega
 have e:key (magQ x)=max (- key x.1) (key x.2):=k
 rw [e] at hk
 omega
theorem one_key:key 4607182418800017408=4607182418800017408:=by decide
theorem neg_one:negB 4607182418800017408=13830554455654793216:=by decide
theorem small_mul {s p:Nat} (T:Tm s) (hs:key s≤4589168020290535424) (hp:p<18446744073709551616) (np:nanB p=false) (h1:-4607182418800017408≤key p) (h2:key p≤4607182418800017408):key (mulV s p 1)≤4589168020290535424∧-4589168020290535424≤key (mulV s p (-1)):=by
 have top:key (mulV 4607182418800017408 s 1)≤4589168020290535424:=by
   have r:=mul_rise_up (p:=s) (a:=4589168020290535424) (q:=4607182418800017408) T.lt (by omega) (by omega) T.nn (by decide) (by decide) (by decide) (by rw [show key 4589168020290535424=4589168020290535424 by decide];exact hs)
   rw [mulV_comm 4589168020290535424,fac_key,mulV_comm s] at r
   exact r
 constructor
 · have r:=mul_rise_up (p:=p) (a:=4607182418800017408) (q:=s) hp (by omega) T.lt np (by decide) T.nn T.ge (by rw [one_key];exact h2)
   rw [mulV_comm p] at r
   omega
 · have r:=mul_rise (p:=13830554455654793216) (a:=p) (q:=s) (by omega) hp T.lt (by decide) np T.nn T.ge (by rw [show key 13830554455654793216=-4607182418800017408 by decide];exact h1)
   have m:=mulV_mirror' (a:=4607182418800017408) (b:=s) (by omega) (by decide) T.nn
   rw [neg_one] at m
   rw [mulV_comm p] at r
   omega
theorem wide_form {x:Nat×Nat} (S:Some2 x.1 x.2) (hx:W2 x) (hb:bndB x=true):wideQ x=addP x.1 x.2 (negB (roomQ x)) (roomQ x)∧Some2 (negB (roomQ x)) (roomQ x):=by
 obtain⟨k,n⟩:=room_ge S hx hb
 have hl:=roomQ_lt x
 obtain⟨e, -⟩:=wide_same S hx hb
 rw [e]
 unfold wideR
 generalize roomQ x=d at *
 have hz:isZ d=false:=by
   unfold isZ
   refine decide_eq_false fun c=>?_
   unfold key at k
   split at k <;> omega
 have e0:zminus d=negB d:=by unfold zminus;rw [hz,if_neg (by decide)]
 rw [e0]
 have kn:=key_negB hl
 have z1:negB d≠9223372036854775808:=fun c=>by rw [c] at kn;rw [show key 9223372036854775808=0 by decide] at kn;omega
 have z2:d≠9223372036854775808:=fun c=>by rw [c,show key 9223372036854775808=0 by decide] at k;omega
 have kle:=(nan_key hl n).2
 have D:Some2 (negB d) d:=⟨by rw [nanB_negB hl];exact n,n,by omega,by omega,by omega,z1,z2⟩
 have em:mkQ (negB d) d=(negB d,d):=by
   unfold mkQ makeP pz
   rw [if_neg z1,if_neg z2,if_pos (hs_iff.2 D)]
 rw [em]
 exact⟨rfl,D⟩
theorem wide_bounds {x r:Nat×Nat} {s:Nat} (S:Some2 x.1 x.2) (hx:W2 x) (hb:bndB x=true) (R:Some2 r.1 r.2) (hr:W2 r) (hrb:bndB r=true) (hm:ltB 4607182418800017408 (magQ r)=false) (T:Tm s) (hs:key s≤4589168020290535424):In (rchQ x r s).1 (rchQ x r s).2 (wideQ x).1 (wideQ x).2:=by
 obtain⟨kd, -⟩:=room_ge S hx hb
 obtain⟨e,D⟩:=wide_form S hx hb
 have hl:=roomQ_lt x
 obtain⟨m1,m2⟩:=mag_not R hr hrb (by decide) hm
 rw [one_key] at m1 m2
 have rl:=R.le
 rw [e]
 generalize roomQ x=d at *
 have kn:=key_negB hl
 obtain⟨e1,Z⟩:=tm_mk T
 obtain⟨pk,pl, -,pn⟩:=pz_key T.lt T.ge
 have P:Tm (pz s):=⟨pl,pn T.nn,by rw [pk];exact T.ge,by rw [pk];exact T.fin⟩
 obtain⟨M,k1,k2⟩:=mul_keys (xl:=0) (by omega) pl hr.1 hr.2 Z R
 have W:=mulP_lt (xl:=0) (by omega) pl hr.1 hr.2
 obtain⟨a1,a2⟩:=small_mul P (by rw [pk];exact hs) hr.1 R.nl (by omega) (by omega)
 obtain⟨b1,b2⟩:=small_mul P (by rw [pk];exact hs) hr.2 R.nh (by omega) (by omega)
 have z:∀d,mulV 0 r.1 d=0:=fun d=>mulV_zl d (by decide) R.nl (by decide)
 have y:∀d,mulV 0 r.2 d=0:=fun d=>mulV_zl d (by decide) R.nh (by decide)
 unfold lowK at k1
 unfold topK at k2
 rw [z,y,show key 0=0 by decide] at k1 k2
 have I:In (mulP 0 (pz s) r.1 r.2).1 (mulP 0 (pz s) r.1 r.2).2 (negB d) d:=⟨M,D,by rw [k1,kn];omega,by rw [k2];omega,W.1,W.2,negB_lt hl,hl⟩
 have g:=add_gr (In.refl hx.1 hx.2 S) I
 obtain⟨l,u,q1,q2,Q,l1,l2⟩:=add_some hx.1 hx.2 W.1 W.2 S M
 have p1:addP x.1 x.2 (mulP 0 (pz s) r.1 r.2).1 (mulP 0 (pz s) r.1 r.2).2=(l,u):=by unfold addP;rw [hs_iff.2 S,hs_iff.2 M,q1,q2];rfl
 have er:rchQ x r s=(l,u):=by unfold rchQ addQ mulQ;rw [e1];exact p1
 rw [p1] at g
 rw [er]
 have A:=addP_lt hx.1 hx.2 (negB_lt hl) hl
 exact Gr.in g Q l1 l2 A.1 A.2
theorem thou_some:Some2 13875379345695965184 4652007308841189376:=hs_iff.1 (by decide)
theorem room_some:Some2 13857435315930660864 4634063279075885056:=hs_iff.1 (by decide)
theorem room_top:key (mulV 4652016104934211584 4589168020290535424 1)≤4634063279075885056:=by decide +kernel
theorem wide_top:bndB (addP 13875379345695965184 4652007308841189376 13857435315930660864 4634063279075885056)=true:=by decide +kernel
theorem thou_add:(addR 4607182418800017408 4652007308841189376 1).map key=some 4652016104934211584:=by decide +kernel
theorem wide_bnd {x:Nat×Nat} (S:Some2 x.1 x.2) (hx:W2 x) (hb:bndB x=true) (hm:ltB 4652007308841189376 (magQ x)=false):bndB (wideQ x)=true:=by
 obtain⟨e,D⟩:=wide_form S hx hb
 have hl:=roomQ_lt x
 obtain⟨m1,m2⟩:=mag_not S hx hb (by decide) hm
 rw [show key 4652007308841189376=4652007308841189376 by decide] at m1 m2
 have T:=mag_tm S hx hb
 have hk:key (magQ x)≤4652007308841189376:=by
   unfold ltB at hm
   rw [T.nn,show nanB 4652007308841189376=false by decide] at hm
   simp only [Bool.not_false,Bool.true_and,decide_eq_false_iff_not] at hm
   rw [show key 4652007308841189376=4652007308841189376 by decide] at hm
   omega
 have kd:key (roomQ x)≤4634063279075885056:=by
   obtain⟨ep,P⟩:=pt_tm T
   obtain⟨pk,pl, -, -⟩:=pz_key T.lt T.ge
   unfold roomQ
   rw [ep,one_pt,fac_pt]
   generalize pz (magQ x)=p at *
   obtain⟨l,u,e1,e2,A,l1,l2⟩:=add_some (xl:=4607182418800017408) (xh:=4607182418800017408) (by omega) (by omega) pl pl one_some P
   have p1:addQ (4607182418800017408,4607182418800017408) (p,p)=(l,u):=by unfold addQ addP;rw [hs_iff.2 one_some,hs_iff.2 P,e1,e2];rfl
   obtain⟨r,f,kr⟩:∃r,addR 4607182418800017408 4652007308841189376 1=some r∧key r=4652016104934211584:=by
     have h:=thou_add
     cases f:addR 4607182418800017408 4652007308841189376 1 with
     | none=>rw [f] at h;cases h
     | some r=>rw [f] at h;exact⟨r,rfl,Option.some.inj h⟩
   have hi:=add_high (p:=4607182418800017408) (q:=4652007308841189376) (c:=4607182418800017408) (d:=p) (by omega) (by omega) (by omega) pl (by decide) (by decide) (by decide) P.nl (by decide) P.gt (Int.le_refl _) (by rw [show key 4652007308841189376=4652007308841189376 by decide,pk];exact hk) e2 f
   rw [kr] at hi
   have lu:=A.le
   rw [p1]
   obtain⟨M, -,k2⟩:=mul_keys (xl:=4589168020290535424) (xh:=4589168020290535424) (by omega) (by omega) l1 l2 fac_some A
   show key (mulP 4589168020290535424 4589168020290535424 l u).2≤_
   rw [k2]
   have c1:=mul_rise_up (p:=l) (a:=4652016104934211584) (q:=4589168020290535424) l1 (by omega) (by omega) A.nl (by decide) (by decide) (by decide) (by rw [show key 4652016104934211584=4652016104934211584 by decide];omega)
   have c2:=mul_rise_up (p:=u) (a:=4652016104934211584) (q:=4589168020290535424) l2 (by omega) (by omega) A.nh (by decide) (by decide) (by decide) (by rw [show key 4652016104934211584=4652016104934211584 by decide];omega)
   have rt:=room_top
   rw [mulV_comm l] at c1
   rw [mulV_comm u] at c2
   unfold topK
   omega
 rw [e]
 generalize roomQ x=d at *
 have kn:=key_negB hl
 have I1:In x.1 x.2 13875379345695965184 4652007308841189376:=⟨S,thou_some,by rw [show key 13875379345695965184=-4652007308841189376 by decide];omega,by rw [show key 4652007308841189376=4652007308841189376 by decide];omega,hx.1,hx.2,by omega,by omega⟩
 have I2:In (negB d) d 13857435315930660864 4634063279075885056:=⟨D,room_some,by rw [show key 13857435315930660864=-4634063279075885056 by decide,kn];omega,by rw [show key 4634063279075885056=4634063279075885056 by decide];omega,negB_lt hl,hl,by omega,by omega⟩
 have g:=add_gr I1 I2
 obtain⟨l,u,q1,q2,Q,l1,l2⟩:=add_some hx.1 hx.2 (negB_lt hl) hl S D
 have p1:addP x.1 x.2 (negB d) d=(l,u):=by unfold addP;rw [hs_iff.2 S,hs_iff.2 D,q1,q2];rfl
 have A:=addP_lt (xl:=13875379345695965184) (xh:=4652007308841189376) (yl:=13857435315930660864) (yh:=4634063279075885056) (by omega) (by omega) (by omega) (by omega)
 rw [p1] at g ⊢
 exact bnd_inside (Gr.in g Q l1 l2 A.1 A.2) wide_top
theorem opsL_at (R:Nat→Nat×Nat) {k j:Nat} (hj:j<k):(opsL R k).getD j zeroO=cOp (R j):=by unfold opsL;simp [hj]
theorem numL_at {k j:Nat} (hj:j<k):(numL k).getD j 0=(j:Int):=by unfold numL;simp [hj]
theorem const_right {R:Nat→Nat×Nat} {k:Nat} (hk:k≤12) (hR:∀i,i<k→hsB (R i).1 (R i).2=true):rightT (k:Int) k (fun j=>(opsL R k).getD j zeroO) k (fun j=>(numL k).getD j 0)=true:=by
 refine right_of ⟨by omega,by omega,by omega,by omega⟩ (fun i hi=>?_) (fun i hi=>?_)
 · show opB ((opsL R k).getD i zeroO) _ _=true
   rw [opsL_at R hi]
   have h:=hR i hi
   unfold opB opdB restB Opw.ar arI cOp
   simp
   exact h
 · show 0≤(numL k).getD i 0∧(numL k).getD i 0<_
   rw [numL_at hi]
   omega
theorem const_err {R:Nat→Nat×Nat} {k:Nat} (hB:∀i,i<k→bndB (R i)=true) (B:Nat→Nat×Nat) {j:Nat} (hj:j<k):errI (fun j=>(opsL R k).getD j zeroO) B j=0:=by
 unfold errI
 simp only [opsL_at R hj]
 unfold errQ outQ evalQ cOp
 have h:=hB j hj
 simp
 exact h
theorem const_val {R:Nat→Nat×Nat} {k:Nat} (B:Nat→Nat×Nat):∀n,n≤k→vsL (fun j=>(opsL R k).getD j zeroO) B n=(List.range n).map R:=by
 intro n
 induction n with
 | zero=>intro _;rfl
 | succ n ih =>
   intro hn
   rw [vsL_step,ih (by omega),List.range_succ,List.map_append]
   have e:valI (fun j=>(opsL R k).getD j zeroO) B n=R n:=by
     unfold valI
     simp only [opsL_at R (show n<k by omega)]
     unfold evalQ cOp
     simp
   rw [e]
   rfl
theorem const_rt {R:Nat→Nat×Nat} {k:Nat} (B:Nat→Nat×Nat) {i:Nat} (hi:i<k):rtE k (fun j=>(opsL R k).getD j zeroO) (fun j=>(numL k).getD j 0) B i=R i:=by
 unfold rtE vAt
 simp only [numL_at hi]
 rw [const_val B k (Nat.le_refl _)]
 simp [hi]
theorem picardLines_all (AR:Option Addr) (kr CR:Nat) (R:Nat→Nat×Nat) (AX:Option Addr) (k CX:Nat) (X:Nat→Nat×Nat) (t:Nat) (hkr:kr≤9223372036854775807) (hkx:k≤9223372036854775807) (ht:t<18446744073709551616) (w:World) (VR:Ivs w AR kr R) (VX:Ivs w AX k X) :
   Calls Tryz.prog 6 #[.slice AR kr CR,.slice AX k CX,.float .f64 t] w fun r w'=>r=.returned (.bool true)∧Below w.heap.size w w':=by
 have cX:=fun (W:World) (hW:Below w.heap.size w W)=>bounded_w AX k CX X hkx W (VX.keep hW)
 have cR:=fun (W:World) (hW:Below w.heap.size w W)=>bounded_w AR kr CR R hkr W (VR.keep hW)
 have o1:=o_gt (a:=t) (b:=0) ht (by omega)
 have o2:=o_le (a:=t) (b:=4607182418800017408) ht (by omega)
 by_cases h1:(k:Int)<1
 · exact pll_skip AR kr CR AX k CX t _ _ _ _ o1 o2 (Or.inl h1) w cX cR
 by_cases h2:(k:Int)>12
 · exact pll_skip AR kr CR AX k CX t _ _ _ _ o1 o2 (Or.inr (Or.inl ⟨h1,h2⟩)) w cX cR
 by_cases h3:kr=k
 case neg=>exact pll_skip AR kr CR AX k CX t _ _ _ _ o1 o2 (Or.inr (Or.inr (Or.inl ⟨h1,h2,by simp;omega⟩))) w cX cR
 subst h3
 cases hbX:allBd kr X
 · rw [hbX] at cX
   exact pll_skip AR kr CR AX kr CX t _ _ _ _ o1 o2 (Or.inr (Or.inr (Or.inr (Or.inl ⟨h1,h2,rfl,rfl⟩)))) w cX cR
 cases hbR:allBd kr R
 · rw [hbX] at cX
   rw [hbR] at cR
   exact pll_skip AR kr CR AX kr CX t _ _ _ _ o1 o2 (Or.inr (Or.inr (Or.inr (Or.inr (Or.inl ⟨h1,h2,rfl,rfl,rfl⟩))))) w cX cR
 rw [hbX] at cX
 rw [hbR] at cR
 cases hb1:ltB 0 t
 · rw [hb1] at o1
   exact pll_skip AR kr CR AX kr CX t _ _ _ _ o1 o2 (Or.inr (Or.inr (Or.inr (Or.inr (Or.inr (Or.inl ⟨h1,h2,rfl,rfl,rfl,rfl⟩)))))) w cX cR
 cases hb2:leB t 4607182418800017408
 · rw [hb1] at o1
   rw [hb2] at o2
   exact pll_skip AR kr CR AX kr CX t _ _ _ _ o1 o2 (Or.inr (Or.inr (Or.inr (Or.inr (Or.inr (Or.inr ⟨h1,h2,rfl,rfl,rfl,rfl,rfl⟩)))))) w cX cR
 rw [hb1] at o1
 rw [hb2] at o2
 have htt:t<9223372036854775808∧t≤4607182418800017408:=by
   obtain⟨-, -,k2⟩:=le_iff.1 hb2
   unfold ltB at hb1
   simp only [Bool.and_eq_true,decide_eq_true_eq] at hb1
   have k1:=hb1.2
   rw [show key 0=0 by decide] at k1
   rw [show key 4607182418800017408=4607182418800017408 by decide] at k2
   unfold key at k1 k2
   split at k1 <;> split at k2 <;> omega
 obtain⟨s,hs,hst,hs5⟩:=quo_pow t 4629700416936869888 5 (by omega) (by omega) (by omega) (by decide)
 have hs16:=hs5 rfl htt.2
 have ks:key s=(s:Int):=by unfold key;rw [if_pos (by omega)]
 have ns:nanB s=false:=by unfold nanB;exact decide_eq_false (by omega)
 have Ts:Tm s:=⟨by omega,ns,by omega,by omega⟩
 have htm:tmB s=true:=by
   unfold tmB
   rw [Bool.and_eq_true]
   exact⟨le_iff.2 ⟨by decide,ns,by rw [show key 0=0 by decide];omega⟩,le_iff.2 ⟨ns,by decide,by rw [show key 4697254411347427328=4697254411347427328 by decide];omega⟩⟩
 have fX:∀i,i<kr→hsB (X i).1 (X i).2=true∧bndB (X i)=true:=fun i hi=>by
   have:=all_upto.1 (show (List.range kr).all _=true from hbX) i hi
   unfold bdQ at this
   rwa [Bool.and_eq_true] at this
 have fR:∀i,i<kr→hsB (R i).1 (R i).2=true∧bndB (R i)=true:=fun i hi=>by
   have:=all_upto.1 (show (List.range kr).all _=true from hbR) i hi
   unfold bdQ at this
   rwa [Bool.and_eq_true] at this
 have hX2:∀i,i<kr→W2 (X i):=fun i hi=>ivs_words VX i hi
 have hR2:∀i,i<kr→W2 (R i):=fun i hi=>ivs_words VR i hi
 refine pll_core AR CR AX kr CX t s X R h1 h2 o1 o2 hs (by omega) w VX VR cX cR (fun hm W A C D E hW VO VY=>?_)
 have hright:=const_right (R:=R) (k:=kr) (by omega) (fun i hi=>(fR i hi).1)
 have hmm:((rightT (kr:Int) kr (fun j=>(opsL R kr).getD j zeroO) kr (fun j=>(numL kr).getD j 0)&&fldB (kr:Int) kr)&&(allB kr X&&((kr:Int)==(kr:Int)))&&tmB s)=true:=by
   have e1:fldB (kr:Int) kr=true:=by unfold fldB;rw [decide_eq_true (by omega),decide_eq_true (by omega)];simp
   have e2:allB kr X=true:=by unfold allB;exact all_upto.2 fun i hi=>(fX i hi).1
   rw [hright,e1,e2,htm]
   simp
 refine (bound_fair (kr:Int) A kr C D kr E _ _ AX kr CX X s (by omega) (by omega) (by omega) (by omega) hmm hbX W VO VY (VX.keep hW)).mono ?_
 rintro _ w' ⟨⟨r,rfl,hr⟩,hb⟩
 refine⟨?_,hb⟩
 have hok:∀B:Nat→Nat×Nat,(∀i,i<kr→hsB (B i).1 (B i).2=true)→(∀i,i<kr→W2 (B i))→okE kr (fun j=>(opsL R kr).getD j zeroO) kr B=true:=fun B b1 b2=>okE_iff.2 ⟨b1,b2,fun j hj=>const_err (fun i hi=>(fR i hi).2) B hj⟩
 rcases hr with ⟨b,C',B,rfl,I,hB,hg,hf, -, -⟩ | ⟨rfl,h0,h9⟩
 · refine⟨b,C',B,rfl,I.ivs hB,fun i hi=>?_⟩
   unfold gdB at hg
   rw [Bool.and_eq_true] at hg
   have:=allIn_iff.1 hg.2 i hi
   unfold rchB at this
   rw [const_rt B hi] at this
   exact this
 · exfalso
   cases hz:eqB s 0
   · have hgw:gdB ⟨(kr:Int),A,kr,C,D,kr,E,AX,kr,CX,s⟩ (okE kr (fun j=>(opsL R kr).getD j zeroO) kr) (rtE kr (fun j=>(opsL R kr).getD j zeroO) (fun j=>(numL kr).getD j 0)) X (wdB X)=true:=by
       unfold gdB
       rw [Bool.and_eq_true]
       refine⟨hok _ (fun i hi=>?_) (fun i hi=>wideQ_W2 (hX2 i hi)),allIn_iff.2 fun i hi=>?_⟩
       · exact hs_iff.2 (wide_same (hs_iff.1 (fX i hi).1) (hX2 i hi) (fX i hi).2).2.T
       · unfold rchB
         rw [const_rt (wdB X) hi]
         exact (wide_bounds (hs_iff.1 (fX i hi).1) (hX2 i hi) (fX i hi).2 (hs_iff.1 (fR i hi).1) (hR2 i hi) (fR i hi).2 (hm i hi).1 Ts (by omega)).inside
     obtain⟨B,hB,hg,hin,i,hi,hib⟩:=h9 hz hgw
     unfold gdB at hg
     rw [Bool.and_eq_true] at hg
     have hi':i<kr:=hi
     have a:=allIn_iff.1 hg.2 i hi
     unfold rchB at a
     rw [const_rt B hi'] at a
     obtain⟨-, -,S⟩:=rch_less (In.refl (hX2 i hi').1 (hX2 i hi').2 (hs_iff.1 (fX i hi').1)) (hs_iff.1 (fR i hi').1) (hR2 i hi') (hB i hi) Ts Ts (Int.le_refl _) a
     have J:=in_inside (p:=B i) (q:=wdB X i) (allIn_iff.1 hin i hi) S (hB i hi) (wideQ_W2 (hX2 i hi'))
     have:=bnd_inside J (wide_bnd (hs_iff.1 (fX i hi').1) (hX2 i hi') (fX i hi').2 (hm i hi').2)
     rw [this] at hib
     cases hib
   · have:=h0 hz
     rw [hok X (fun i hi=>(fX i hi).1) hX2] at this
     cases this
end Go.Proofs.YtnnfafilgiajoaaGreat
