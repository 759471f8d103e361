/- PicardShorter of tapes and boxes as they lie in memory. -/
import Derived.Lib.Strings
import Derived.Lib.Slices
import Derived.Lib.Small
import Derived.Lib.Walk
import Derived.Lib.BitFns
import Derived.KernelRfl
import Derived.WalkKit
import Derived.Laws.Cover2
import Derived.Laws.FloatArith
import Derived.Laws.BitsAllLaws
import Derived.ProofKit
import Derived.OpenShut
import Derived.WalkSpells
import Derived.WalkLawsBesides
import Derived.Laws.Externs
import Derived.Laws.Bits64b
import Derived.Handy
import Derived.Deep.RegionWith
import Derived.Deep.QuietTactic
import Derived.BigQuiet
import Derived.Deep.RegionHeld3
import Derived.Deep.CutRange
import Derived.Deep.CutBlock
import Derived.Deep.LoopGhost
import Derived.WalkSmall
import Derived.ChangeSame
import Derived.JoinedOf
import Derived.JoinedAt
import Derived.RowKit3
import Derived.Deep.Slices
import Derived.WideKeyArgs
import Derived.Deep.Quiet
import Derived.StillTail
import Derived.Deep.SlicePairs
import Derived.Deep.AppendLies
import Derived.Deep.RegionLaw
import Derived.Lib.SliceRun
import Derived.Test.YtnnfafilgiajoaaGreatZ01
import Derived.Test.YtnnfafilgiajoaaGreatZ02
import Derived.Test.YtnnfafilgiajoaaGreatZ03
import Derived.Test.YtnnfafilgiajoaaGreatZ04
import Derived.Test.YtnnfafilgiajoaaGreatZ05
import Derived.Test.YtnnfafilgiajoaaGreatZ06
import Derived.Test.YtnnfafilgiajoaaGreatZ07
import Derived.Test.YtnnfafilgiajoaaGreatZ08
import Derived.Test.YtnnfafilgiajoaaGreatZ09
import Derived.Test.YtnnfafilgiajoaaGreatZ10
import Derived.Test.YtnnfafilgiajoaaGreatZ11
import Derived.Test.YtnnfafilgiajoaaGreatZ12
import Derived.Test.YtnnfafilgiajoaaGreatZ13
import Derived.Test.YtnnfafilgiajoaaGreatZ14
import Derived.Test.YtnnfafilgiajoaaGreatZ15
import Derived.Test.YtnnfafilgiajoaaGreatZ16
import Derived.Test.YtnnfafilgiajoaaGreatZ17
import Derived.Test.YtnnfafilgiajoaaGreatZ18
import Derived.Test.YtnnfafilgiajoaaGreatZ19
import Derived.Test.YtnnfafilgiajoaaGreatZ20
import Derived.Test.YtnnfafilgiajoaaGreatZ21
import Derived.Test.YtnnfafilgiajoaaGreatZ22
import Derived.Test.YtnnfafilgiajoaaGreatZ23
import Derived.Test.YtnnfafilgiajoaaGreatZ24
import Derived.Test.YtnnfafilgiajoaaGreatZ25
import Derived.Test.YtnnfafilgiajoaaGreatZ26
import Derived.Test.YtnnfafilgiajoaaGreatZ27
import Derived.Test.YtnnfafilgiajoaaGreatZ28
import Derived.Test.YtnnfafilgiajoaaGreatZ29
import Derived.Test.YtnnfafilgiajoaaGreatZ30
import Derived.Test.YtnnfafilgiajoaaGreatZ31
import Derived.Test.YtnnfafilgiajoaaGreatZ32
import Derived.Test.YtnnfafilgiajoaaGreatZ33
import Derived.Test.YtnnfafilgiajoaaGreatZ34
import Derived.Test.YtnnfafilgiajoaaGreatZ35
import Derived.Test.YtnnfafilgiajoaaGreatZ36
import Derived.Test.YtnnfafilgiajoaaGreatZ37
import Derived.Test.YtnnfafilgiajoaaGreatZ38
import Derived.Test.YtnnfafilgiajoaaGreatZ39
import Derived.Test.YtnnfafilgiajoaaGreatZ40
import Derived.Test.YtnnfafilgiajoaaGreatZ41
import Derived.Test.YtnnfafilgiajoaaGreatZ42
import Derived.Test.YtnnfafilgiajoaaGreatZ43
import Derived.Test.YtnnfafilgiajoaaGreatZ44
import Derived.Test.YtnnfafilgiajoaaGreatZ45
import Derived.Test.YtnnfafilgiajoaaGreatZ46
import Derived.Test.YtnnfafilgiajoaaGreatZ47
import Derived.Test.YtnnfafilgiajoaaGreatZ48
import Derived.Test.YtnnfafilgiajoaaGreatZ49
import Derived.Test.YtnnfafilgiajoaaGreatX03
namespace Go.Proofs.YtnnfafilgiajoaaGreat
open Go.ChangeShapes Go.WideShapes Go.ChangeAt Go.RowKit
theorem bound_fair (v:Int) (A:Option Addr) (n C:Nat) (D:Option Addr) (m E:Nat) (O:Nat→Opw) (Y:Nat→Int) (AX:Option Addr) (mx CX:Nat) (X:Nat→Nat×Nat) (t:Nat) (hn:n≤9223372036854775807) (hm:m≤9223372036854775807) (hmx:mx≤9223372036854775807) (ht:t<18446744073709551616)
   (hmm:((rightT v n O m Y&&fldB v m)&&(allB mx X&&((mx:Int)==v))&&tmB t)=true) (hbb:allBd mx X=true) (w:World) (VO:Ops w A n O) (VY:Ins w D m Y) (VX:Ivs w AX mx X) :
   Calls Tryz.prog 7 #[tapeV v A n C D m E,.slice AX mx CX,.float .f64 t] w fun e' w'=>(∃r,e'=.returned r∧BndR ⟨v,A,n,C,D,m,E,AX,mx,CX,t⟩ (okE n O mx) (rtE n O Y) X w' r)∧Below w.heap.size w w':=by
 have F:Fair v n O m Y mx t X:=fair_of ht hmm hbb
 let q:Qst:=⟨v,A,n,C,D,m,E,AX,mx,CX,t⟩
 have K:Ask q (okE n O mx) (rtE n O Y) X w:=Fair.ask (q:=q) F VO VY VX
 have hX:∀i,i<mx→W2 (X i):=fun i hi=>ivs_words VX i hi
 have h0:eqB t 0=true→okE n O mx X=true→gdB q (okE n O mx) (rtE n O Y) X X=true:=fun hz ho=>by
   unfold gdB
   rw [ho,Bool.true_and]
   refine allIn_iff.2 fun i hi=>?_
   obtain⟨r1,r2⟩:=F.facts VO ho i hi
   exact rch_zero (hs_iff.1 (F.hs i hi)) (hX i hi) r2 r1 F.tm hz
 refine bound_good (q:=q) K F.bnd h0 (fun W hW=>?_)
 have c:=pref_w v A n C D m E O Y AX mx CX t X hn hm hmx ht W (VO.keep hW) (VY.keep hW) (VX.keep hW)
 simp only [Bool.and_eq_true,beq_iff_eq] at hmm
 obtain⟨⟨⟨h1,h2⟩,h3,h4⟩,h5⟩:=hmm
 have e1:(anyU mx fun i=>!hsB (X i).1 (X i).2)=false:=anyU_false.2 fun i hi=>by rw [F.hs i hi];rfl
 have e2:(anyU mx fun i=>!bndB (X i))=false:=anyU_false.2 fun i hi=>by rw [F.bnd i hi];rfl
 have e3:((mx:Int) != v)=false:=by simp [h4]
 rw [h1,h2,h5,e1,e2,e3] at c
 exact c
theorem ptE_in {x:Nat×Nat} (S:Some2 x.1 x.2) (hx:W2 x) (hb:bndB x=true) {p:Nat} (hp:p=x.1∨p=x.2):In (ptQ p).1 (ptQ p).2 x.1 x.2:=by
 have hl:p<18446744073709551616:=by rcases hp with rfl | rfl;exact hx.1;exact hx.2
 unfold bndB infB at hb
 simp only [Bool.and_eq_true,Bool.not_eq_true',decide_eq_false_iff_not] at hb
 have n1:=S.nl
 have n2:=S.nh
 have hn:nanB p=false:=by rcases hp with rfl | rfl;exact n1;exact n2
 have hz:p≠9223372036854775808:=by rcases hp with rfl | rfl;exact S.zl;exact S.zh
 have hk:key x.1≤key p∧key p≤key x.2:=by
   have:=S.le
   rcases hp with rfl | rfl
   · exact⟨Int.le_refl _,this⟩
   · exact⟨this,Int.le_refl _⟩
 have hf:¬p%9223372036854775808=9218868437227405312:=by rcases hp with rfl | rfl;exact hb.1;exact hb.2
 have kf:key p<9218868437227405312∧-9218868437227405312<key p:=by
   unfold nanB at hn
   simp only [decide_eq_false_iff_not] at hn
   unfold key
   split <;> omega
 have P:Some2 p p:=⟨hn,hn,Int.le_refl _,kf.1,kf.2,hz,hz⟩
 have e:ptQ p=(p,p):=by
   unfold ptQ mkQ makeP pz
   rw [if_neg hz,if_pos (hs_iff.2 P)]
 rw [e]
 exact⟨P,S,hk.1,hk.2,hl,hl,hx.1,hx.2⟩
theorem picardShorter_all (v:Int) (A:Option Addr) (n C:Nat) (D:Option Addr) (m E:Nat) (O:Nat→Opw) (Y:Nat→Int) (AX:Option Addr) (mx CX:Nat) (X:Nat→Nat×Nat) (t:Nat) (AZ:Option Addr) (mz CZ:Nat) (Z:Nat→Int) (hn:n≤9223372036854775807) (hm:m≤9223372036854775807) (hmx:mx≤9223372036854775807) (ht:t<18446744073709551616) (hmz:mz≤9223372036854775807) (w:World) (VO:Ops w A n O) (VY:Ins w D m Y) (VX:Ivs w AX mx X) (VZ:Ins w AZ mz Z) :
   Calls Tryz.prog 5 #[tapeV v A n C D m E,.slice AX mx CX,.float .f64 t,.slice AZ mz CZ] w fun r w'=>r=.returned (.bool true)∧Below w.heap.size w w':=by
 have cM:=fun (W:World) (hW:Below w.heap.size w W)=>may_w v A n C D m E O Y AX mx CX t X hmx ht W (VO.keep hW) (VY.keep hW) (VX.keep hW)
 have cD:=fun (W:World) (hW:Below w.heap.size w W)=>bounded_w AX mx CX X hmx W (VX.keep hW)
 by_cases hn2:(n:Int)>200
 · exact psl_skip v A n C D m E _ _ t _ _ (Or.inl hn2) w cM cD
 cases hmm:((rightT v n O m Y&&fldB v m)&&(allB mx X&&((mx:Int)==v))&&tmB t)
 · rw [hmm] at cM
   exact psl_skip v A n C D m E _ _ t _ _ (Or.inr (Or.inl ⟨hn2,rfl⟩)) w cM cD
 cases hbb:allBd mx X
 · rw [hmm] at cM
   rw [hbb] at cD
   exact psl_skip v A n C D m E _ _ t _ _ (Or.inr (Or.inr ⟨hn2,rfl,rfl⟩)) w cM cD
 rw [hmm] at cM
 rw [hbb] at cD
 have F:Fair v n O m Y mx t X:=fair_of ht hmm hbb
 let q:Qst:=⟨v,A,n,C,D,m,E,AX,mx,CX,t⟩
 have K:Ask q (okE n O mx) (rtE n O Y) X w:=Fair.ask (q:=q) F VO VY VX
 have hX:∀i,i<mx→W2 (X i):=fun i hi=>ivs_words VX i hi
 obtain⟨s,hs,Ts,hks⟩:=half_tm F.tm
 let G:World→Nat→Prop:=fun W b=>∃B:Nat→Nat×Nat,Img W b mx B∧(∀i,i<mx→W2 (B i))∧gdB q (okE n O mx) (rtE n O Y) X B=true∧∀i,i<mx→bndB (B i)=true
 have cO:∀(W:World) (b C':Nat) (AW:Option Addr) (CW:Nat) (Zz:Nat→Nat×Nat) (u:Nat),Below w.heap.size w W→G W b→Ivs W AW mx Zz→(∀i,i<mx→In (Zz i).1 (Zz i).2 (X i).1 (X i).2)→Tm u→key u≤key t→Calls Tryz.prog 11 #[tapeV v A n C D m E,.slice AW mx CW,.slice (some ⟨b,0,none⟩) mx C',.float .f64 u] W fun r w'=>r=.returned (.bool true)∧Below W.heap.size W w':=fun W b C' AW CW Zz u hW hG VW hI Tu hu=>by
   obtain⟨B,I,hB,hg,hf⟩:=hG
   have c:=bounds_w q (okE n O mx) (rtE n O Y) Zz B AW (some ⟨b,0,none⟩) CW C' u F.k24 Tu.lt (fun ho i hi=>(F.facts VO ho i hi).1) W (K.keep hW).ev VW (I.ivs hB)
   rw [Fair.less (q:=q) F VO hB hg hf Tu hu hI] at c
   exact c
 refine psl_good v A n C D m E AX mx CX X AZ mz CZ Z t s F.k24 hs G (fun W W' b h hb=>by
   obtain⟨B,I,r⟩:=h
   exact⟨B,I.keep hb,r⟩) hn2 hmz w VX VZ (fun W hW=>?_) cM cD (fun i p hi hp=>ptE_in (hs_iff.1 (F.hs i hi)) (hX i hi) (F.bnd i hi) hp)
   (fun W b C' hW hG=>cO W b C' AX CX X s hW hG (VX.keep hW) (fun i hi=>In.refl (hX i hi).1 (hX i hi).2 (hs_iff.1 (F.hs i hi))) Ts hks)
   (fun W b C' AW CW Zz u hW hG VW hI hu=>?_)
 · refine (bound_fair v A n C D m E O Y AX mx CX X t hn hm hmx ht hmm hbb W (VO.keep hW) (VY.keep hW) (VX.keep hW)).mono ?_
   rintro _ w' ⟨⟨r,rfl,hr'⟩,hb⟩
   refine⟨?_,hb⟩
   rcases hr' with ⟨b,C',B,rfl,I,hB,hg,hf, -, -⟩ | ⟨rfl, -⟩
   · exact⟨_,_,_,_,rfl,Or.inl ⟨rfl,rfl,b,rfl,B,I,hB,hg,hf⟩⟩
   · exact⟨_,_,_,_,rfl,Or.inr ⟨rfl,rfl,rfl⟩⟩
 · rcases hu with rfl | rfl
   · exact cO W b C' AW CW Zz u hW hG VW hI F.tm (Int.le_refl _)
   · exact cO W b C' AW CW Zz 0 hW hG VW hI ⟨by omega,by decide,by decide,by decide⟩ (by rw [show key 0=0 by decide];exact F.tm.ge)
end Go.Proofs.YtnnfafilgiajoaaGreat
