/- Products of dimensions, exactly: undone by the negative power; a power's parts are its sum. -/
import Derived.Lib.Strings
import Derived.Lib.Slices
import Derived.Lib.Small
import Derived.Lib.Walk
import Derived.Lib.BitFns
import Derived.KernelRfl
import Derived.WalkKit
import Derived.Laws.Cover2
import Derived.Laws.FloatArith
import Derived.Laws.BitsAllLaws
import Derived.ProofKit
import Derived.OpenShut
import Derived.WalkSpells
import Derived.WalkLawsBesides
import Derived.Laws.Externs
import Derived.Laws.Bits64b
import Derived.Handy
import Derived.Deep.RegionWith
import Derived.Deep.QuietTactic
import Derived.BigQuiet
import Derived.Deep.RegionHeld3
import Derived.Deep.CutRange
import Derived.Deep.CutBlock
import Derived.Deep.LoopGhost
import Derived.WalkSmall
import Derived.Deep.Quiet
import Derived.StillTail
import Derived.Defers
import Derived.Recover
import Derived.Laws.Pointers
import Derived.Laws.StructEq
import Derived.ChangeSame
import Derived.JoinedOf
import Derived.JoinedAt
import Derived.RowKit3
import Derived.Test.YtdnpoacjamkhkaaJt01
import Derived.Test.YtdnpoacjamkhkaaJt02
import Derived.Test.YtdnpoacjamkhkaaJt03
import Derived.Test.YtdnpoacjamkhkaaJt04
import Derived.Test.YtdnpoacjamkhkaaJt05
import Derived.Test.YtdnpoacjamkhkaaJt06
import Derived.Test.YtdnpoacjamkhkaaJt07
import Derived.Test.YtdnpoacjamkhkaaJt08
import Derived.Test.YtdnpoacjamkhkaaJt09
import Derived.Test.YtdnpoacjamkhkaaJt10
import Derived.Test.YtdnpoacjamkhkaaJt11
import Derived.Test.YtdnpoacjamkhkaaJt12
import Derived.Test.YtdnpoacjamkhkaaJt13
import Derived.Test.YtdnpoacjamkhkaaJt14
import Derived.Test.YtdnpoacjamkhkaaJt15
import Derived.Test.YtdnpoacjamkhkaaJt16
import Derived.Test.YtdnpoacjamkhkaaJt17
import Derived.Test.YtdnpoacjamkhkaaJt18
import Derived.Test.YtdnpoacjamkhkaaJt19
import Derived.Test.YtdnpoacjamkhkaaJt20
import Derived.Test.YtdnpoacjamkhkaaJt21
import Derived.Test.YtdnpoacjamkhkaaJt22
import Derived.Test.YtdnpoacjamkhkaaJt23
import Derived.Test.YtdnpoacjamkhkaaJt24
import Derived.Test.YtdnpoacjamkhkaaJt25
import Derived.Test.YtdnpoacjamkhkaaJt26
import Derived.Test.YtdnpoacjamkhkaaJt27
import Derived.Test.YtdnpoacjamkhkaaJt28
import Derived.Test.YtdnpoacjamkhkaaJt29
import Derived.Test.YtdnpoacjamkhkaaJt30
import Derived.Test.YtdnpoacjamkhkaaJt31
import Derived.Test.YtdnpoacjamkhkaaJt32
import Derived.Test.YtdnpoacjamkhkaaJt33
import Derived.Test.YtdnpoacjamkhkaaJt34
import Derived.Test.YtdnpoacjamkhkaaJt35
import Derived.Test.YtdnpoacjamkhkaaJt36
import Derived.Test.YtdnpoacjamkhkaaJt37
import Derived.Test.YtdnpoacjamkhkaaJt38
import Derived.Test.YtdnpoacjamkhkaaJt39
import Derived.Test.YtdnpoacjamkhkaaJk03
namespace Go.Proofs.Ytdnpoacjamkhkaa
theorem qR_inj {aN aD bN bD:Int} (ha:1≤aD) (hb:1≤bD) (h:qR aN aD=qR bN bD):aN*bD=bN*aD:=by
 obtain⟨_,e1⟩:=qR_inv ha
 obtain⟨_,e2⟩:=qR_inv hb
 unfold qR at h
 have:(aN:Rat)*(bD:Rat)=(bN:Rat)*(aD:Rat):=by grind
 rw [←Rat.intCast_mul,←Rat.intCast_mul] at this
 exact Rat.intCast_inj.1 this
theorem ofV_err2 (g:Bool) (n d:Nat):(ofV g n d).2.2=0∨(ofV g n d).2.2=3:=by
 unfold ofV
 split
 · exact Or.inl rfl
 · split
   · exact Or.inl rfl
   · exact Or.inr rfl
theorem mulV11_err {aN aD bN bD:Int} (ha:rightR aN aD=true) (hb:rightR bN bD=true):(mulV11 aN aD bN bD).2.2=0∨(mulV11 aN aD bN bD).2.2=3:=by
 unfold mulV11
 rw [ha,hb,Bool.and_self,if_pos rfl]
 exact ofV_err2 _ _ _
theorem addV11_err {aN aD bN bD:Int} (ha:rightR aN aD=true) (hb:rightR bN bD=true):(addV11 aN aD bN bD).2.2=0∨(addV11 aN aD bN bD).2.2=3:=by
 unfold addV11
 rw [ha,hb,Bool.and_self,if_pos rfl]
 exact ofV_err2 _ _ _
theorem tri_ext {α β γ:Type} {t:α×β×γ} {c:γ} (h:t.2.2=c):t=(t.1,t.2.1,c):=by
 obtain⟨a,b,d⟩:=t
 dsimp only at h
 rw [h]
theorem tmE_ok {A B:Nat→Int×Int} {pN pD:Int} {i:Nat} (ha:rightR (A i).1 (A i).2=true) (hb:rightR (B i).1 (B i).2=true) (hp:rightR pN pD=true) (h:(tmE A B pN pD i).2.2=0) :
   rightR (tmE A B pN pD i).1 (tmE A B pN pD i).2.1=true∧(I64 (tmE A B pN pD i).1∧I64 (tmE A B pN pD i).2.1)∧qR (tmE A B pN pD i).1 (tmE A B pN pD i).2.1=qR (A i).1 (A i).2+qR (B i).1 (B i).2*qR pN pD:=by
 have p1:=rightR_D ha
 have p2:=rightR_D hb
 have p3:=rightR_D hp
 by_cases c:(mulV11 (B i).1 (B i).2 pN pD).2.2=0
 · obtain⟨r1,q1, -⟩:=mulV11_ok hb hp (tri_ext c)
   have e:tmE A B pN pD i=addV11 (A i).1 (A i).2 (mulV11 (B i).1 (B i).2 pN pD).1 (mulV11 (B i).1 (B i).2 pN pD).2.1:=by rw [tmE,if_pos c]
   rw [e] at h ⊢
   obtain⟨r2,q2,i2⟩:=addV11_ok ha r1 (tri_ext h)
   have p4:=rightR_D r1
   have p5:=rightR_D r2
   exact⟨r2,i2,by rw [qR_add p1 p4 p5 q2,qR_mul p2 p3 p4 q1]⟩
 · rw [tmE,if_neg c] at h
   exact absurd h c
theorem tmE_err {A B:Nat→Int×Int} {pN pD:Int} {i:Nat} (ha:rightR (A i).1 (A i).2=true) (hb:rightR (B i).1 (B i).2=true) (hp:rightR pN pD=true):(tmE A B pN pD i).2.2=0∨(tmE A B pN pD i).2.2=3:=by
 by_cases c:(mulV11 (B i).1 (B i).2 pN pD).2.2=0
 · obtain⟨r1,q1, -⟩:=mulV11_ok hb hp (tri_ext c)
   rw [tmE,if_pos c]
   exact addV11_err ha r1
 · rw [tmE,if_neg c]
   rcases mulV11_err hb hp with h | h
   · exact absurd h c
   · exact Or.inr h
theorem tmF_zero {A B:Nat→Int×Int} {pN pD:Int}:∀{n:Nat},tmF A B pN pD n=0→∀i,i<n→(tmE A B pN pD i).2.2=0
 | 0,_,i,hi=>by omega
 | n+1,h,i,hi=>by
   rw [tmF] at h
   by_cases c:tmF A B pN pD n=0
   · rw [if_pos c] at h
     by_cases d:i=n
     · subst d;exact h
     · exact tmF_zero c i (by omega)
   · rw [if_neg c] at h
     exact absurd h c
theorem tmF_err {A B:Nat→Int×Int} {pN pD:Int} (ha:drK A 7=true) (hb:drK B 7=true) (hp:rightR pN pD=true):∀n,n≤7→tmF A B pN pD n=0∨tmF A B pN pD n=3
 | 0,_=>Or.inl rfl
 | n+1,h=>by
   rw [tmF]
   split
   · exact tmE_err (drK_yes ha n (by omega)) (drK_yes hb n (by omega)) hp
   · exact tmF_err ha hb hp n (by omega)
theorem tmD_ok {A B:Nat→Int×Int} {pN pD:Int} (ha:drK A 7=true) (hb:drK B 7=true) (hp:rightR pN pD=true) (h:tmF A B pN pD 7=0) (i:Nat) (hi:i<7) :
   rightR (tmD A B pN pD 7 i).1 (tmD A B pN pD 7 i).2=true∧(I64 (tmD A B pN pD 7 i).1∧I64 (tmD A B pN pD 7 i).2)∧qR (tmD A B pN pD 7 i).1 (tmD A B pN pD 7 i).2=qR (A i).1 (A i).2+qR (B i).1 (B i).2*qR pN pD:=by
 have e:tmD A B pN pD 7 i=((tmE A B pN pD i).1,(tmE A B pN pD i).2.1):=by rw [tmD,if_pos hi]
 rw [e]
 exact tmE_ok (drK_yes ha i hi) (drK_yes hb i hi) hp (tmF_zero h i hi)
theorem drK_all {E:Nat→Int×Int}:∀n,(∀i,i<n→rightR (E i).1 (E i).2=true)→drK E n=true
 | 0,_=>rfl
 | n+1,h=>by rw [drK,drK_all n (fun i hi=>h i (by omega)),h n (by omega)];rfl
theorem pair_same {a b:Int×Int} (ha:rightR a.1 a.2=true) (hb:rightR b.1 b.2=true) (ia:I64 a.1∧I64 a.2) (ib:I64 b.1∧I64 b.2) (h:qR a.1 a.2=qR b.1 b.2):a=b:=by
 obtain⟨h1,h2⟩:=rat_same ha hb ia ib (qR_inj (rightR_D ha) (rightR_D hb) h)
 exact Prod.ext h1 h2
theorem tm_back {A B:Nat→Int×Int} {pN pD:Int} (hA:Dim64 A) (ip:I64 pN) (ha:drK A 7=true) (hb:drK B 7=true) (hp:rightR pN pD=true) (h:tmF A B pN pD 7=0) (h2:tmF (tmD A B pN pD 7) B (-pN) pD 7=0) :
   ∀i,i<7→tmD (tmD A B pN pD 7) B (-pN) pD 7 i=A i:=fun i hi=>by
 have ok:=tmD_ok ha hb hp h
 have hF:drK (tmD A B pN pD 7) 7=true:=drK_all 7 fun i hi=>(ok i hi).1
 have hn:=rightR_neg hp ip
 obtain⟨r1,i1,q1⟩:=ok i hi
 obtain⟨r2,i2,q2⟩:=tmD_ok hF hb hn h2 i hi
 refine pair_same r2 (drK_yes ha i hi) i2 (hA i hi) ?_
 rw [q2,q1,←qR_neg]
 grind
theorem tm_parts {A B:Nat→Int×Int} {pN pD qN qD sN sD:Int} (ha:drK A 7=true) (hb:drK B 7=true) (hp:rightR pN pD=true) (hq:rightR qN qD=true) (h:tmF A B pN pD 7=0) (h2:tmF (tmD A B pN pD 7) B qN qD 7=0)
   (hs:addV11 pN pD qN qD=(sN,sD,0)) (h3:tmF A B sN sD 7=0):∀i,i<7→tmD (tmD A B pN pD 7) B qN qD 7 i=tmD A B sN sD 7 i:=fun i hi=>by
 have ok:=tmD_ok ha hb hp h
 have hF:drK (tmD A B pN pD 7) 7=true:=drK_all 7 fun i hi=>(ok i hi).1
 obtain⟨rs,qs, -⟩:=addV11_ok hp hq hs
 obtain⟨r1,i1,q1⟩:=ok i hi
 obtain⟨r2,i2,q2⟩:=tmD_ok hF hb hq h2 i hi
 obtain⟨r3,i3,q3⟩:=tmD_ok ha hb rs h3 i hi
 refine pair_same r2 r3 i2 i3 ?_
 rw [q2,q1,q3,qR_add (rightR_D hp) (rightR_D hq) (rightR_D rs) qs]
 grind
end Go.Proofs.Ytdnpoacjamkhkaa
