/- PicardShorter: the law's walk. -/
import Derived.Lib.Strings
import Derived.Lib.Slices
import Derived.Lib.Small
import Derived.Lib.Walk
import Derived.Lib.BitFns
import Derived.KernelRfl
import Derived.WalkKit
import Derived.Laws.Cover2
import Derived.Laws.FloatArith
import Derived.Laws.BitsAllLaws
import Derived.ProofKit
import Derived.OpenShut
import Derived.WalkSpells
import Derived.WalkLawsBesides
import Derived.Laws.Externs
import Derived.Laws.Bits64b
import Derived.Handy
import Derived.Deep.RegionWith
import Derived.Deep.QuietTactic
import Derived.BigQuiet
import Derived.Deep.RegionHeld3
import Derived.Deep.CutRange
import Derived.Deep.CutBlock
import Derived.Deep.LoopGhost
import Derived.WalkSmall
import Derived.ChangeSame
import Derived.JoinedOf
import Derived.JoinedAt
import Derived.RowKit3
import Derived.Deep.Slices
import Derived.WideKeyArgs
import Derived.Deep.Quiet
import Derived.StillTail
import Derived.Deep.SlicePairs
import Derived.Deep.AppendLies
import Derived.Deep.RegionLaw
import Derived.Lib.SliceRun
import Derived.Test.YtnnfafilgiajoaaGreatZ01
import Derived.Test.YtnnfafilgiajoaaGreatZ02
import Derived.Test.YtnnfafilgiajoaaGreatZ03
import Derived.Test.YtnnfafilgiajoaaGreatZ04
import Derived.Test.YtnnfafilgiajoaaGreatZ05
import Derived.Test.YtnnfafilgiajoaaGreatZ06
import Derived.Test.YtnnfafilgiajoaaGreatZ07
import Derived.Test.YtnnfafilgiajoaaGreatZ08
import Derived.Test.YtnnfafilgiajoaaGreatZ09
import Derived.Test.YtnnfafilgiajoaaGreatZ10
import Derived.Test.YtnnfafilgiajoaaGreatZ11
import Derived.Test.YtnnfafilgiajoaaGreatZ12
import Derived.Test.YtnnfafilgiajoaaGreatZ13
import Derived.Test.YtnnfafilgiajoaaGreatZ14
import Derived.Test.YtnnfafilgiajoaaGreatZ15
import Derived.Test.YtnnfafilgiajoaaGreatZ16
import Derived.Test.YtnnfafilgiajoaaGreatZ17
import Derived.Test.YtnnfafilgiajoaaGreatZ18
import Derived.Test.YtnnfafilgiajoaaGreatZ19
import Derived.Test.YtnnfafilgiajoaaGreatZ20
import Derived.Test.YtnnfafilgiajoaaGreatZ21
import Derived.Test.YtnnfafilgiajoaaGreatZ22
import Derived.Test.YtnnfafilgiajoaaGreatZ23
import Derived.Test.YtnnfafilgiajoaaGreatZ24
import Derived.Test.YtnnfafilgiajoaaGreatZ25
import Derived.Test.YtnnfafilgiajoaaGreatZ26
import Derived.Test.YtnnfafilgiajoaaGreatZ27
import Derived.Test.YtnnfafilgiajoaaGreatZ28
import Derived.Test.YtnnfafilgiajoaaGreatZ29
import Derived.Test.YtnnfafilgiajoaaGreatZ30
import Derived.Test.YtnnfafilgiajoaaGreatZ31
import Derived.Test.YtnnfafilgiajoaaGreatZ32
import Derived.Test.YtnnfafilgiajoaaGreatZ33
import Derived.Test.YtnnfafilgiajoaaGreatZ34
import Derived.Test.YtnnfafilgiajoaaGreatZ35
import Derived.Test.YtnnfafilgiajoaaGreatZ36
import Derived.Test.YtnnfafilgiajoaaGreatZ37
import Derived.Test.YtnnfafilgiajoaaGreatZ38
import Derived.Test.YtnnfafilgiajoaaGreatZ39
import Derived.Test.YtnnfafilgiajoaaGreatZ40
import Derived.Test.YtnnfafilgiajoaaGreatZ41
import Derived.Test.YtnnfafilgiajoaaGreatZ42
import Derived.Test.YtnnfafilgiajoaaGreatZ43
import Derived.Test.YtnnfafilgiajoaaGreatZ44
import Derived.Test.YtnnfafilgiajoaaGreatZ45
import Derived.Test.YtnnfafilgiajoaaGreatZ46
import Derived.Test.YtnnfafilgiajoaaGreatZ47
import Derived.Test.YtnnfafilgiajoaaGreatZ48
import Derived.Test.YtnnfafilgiajoaaGreatZ49
import Derived.Test.YtnnfafilgiajoaaGreatX02
namespace Go.Proofs.YtnnfafilgiajoaaGreat
open Go.ChangeShapes Go.WideShapes Go.ChangeAt Go.RowKit
theorem half_tm {t:Nat} (T:Tm t):∃r,floatBits .quo .f64 t 4611686018427387904=some r∧Tm r∧key r≤key t:=by
 have h1:=T.lt
 have h2:=T.ge
 have h3:=T.fin
 by_cases c:t<9223372036854775808
 · have kt:key t=(t:Int):=by unfold key;rw [if_pos c]
   rw [kt] at h3
   obtain⟨r,e,hr, -⟩:=quo_pow t 4611686018427387904 1 (by omega) (by omega) (by omega) (by decide)
   have kr:key r=(r:Int):=by unfold key;rw [if_pos (by omega)]
   refine⟨r,e,⟨by omega, ?_,by omega,by omega⟩,by omega⟩
   unfold nanB
   exact decide_eq_false (by omega)
 · have:t=9223372036854775808:=by
     unfold key at h2
     split at h2 <;> omega
   subst this
   exact⟨9223372036854775808,by decide,T,Int.le_refl _⟩
set_option maxHeartbeats 2000000 in
theorem psl_skip (v:Int) (A:Option Addr) (n C:Nat) (D:Option Addr) (m E:Nat) (xs ys:Value) (t:Nat) (bM bD:Bool) (he:(n:Int)>200∨(¬(n:Int)>200∧bM=false)∨(¬(n:Int)>200∧bM=true∧bD=false)) (w:World)
   (cM:∀W,Below w.heap.size w W→Calls Tryz.prog 9 #[tapeV v A n C D m E,xs,.float .f64 t] W fun r w'=>r=.returned (.bool bM)∧Below W.heap.size W w')
   (cD:∀W,Below w.heap.size w W→Calls Tryz.prog 10 #[xs] W fun r w'=>r=.returned (.bool bD)∧Below W.heap.size W w') :
   Calls Tryz.prog 5 #[tapeV v A n C D m E,xs,.float .f64 t,ys] w fun r w'=>r=.returned (.bool true)∧Below w.heap.size w w':=by
 unfold tapeV at *
 have T:=hasT_new w v A n C D m E
 have HB:Below w.heap.size w (w.alloc (.cells #[.int .i64 v,.slice A n C,.slice D m E] 25)):=by go_grown
 rcases he with hn | ⟨hn,rfl⟩ | ⟨hn,rfl,rfl⟩
 all_goals
   go_enter Tryz.func5,Tryz.ntmps5
   go_upto_region 1 with fail
   generalize (w.alloc (.cells #[.int .i64 v,.slice A n C,.slice D m E] 25))=V1 at *
   obtain⟨t0,t1,t2,tl⟩:=id T
   go_wp2_with (first
     | (go_at_call 9;refine (cM _ HB).mono ?_;rintro _ V4 ⟨rfl,hb1⟩;replace T:=T.keep hb1;replace HB:=later HB hb1;clear hb1;clear t0 t1 t2 tl;obtain⟨t0,t1,t2,tl⟩:=id T)
     | (go_at_call 10;refine (cD _ HB).mono ?_;rintro _ V5 ⟨rfl,hb1⟩;replace T:=T.keep hb1;replace HB:=later HB hb1;clear hb1;clear t0 t1 t2 tl;obtain⟨t0,t1,t2,tl⟩:=id T))
   go_ret
   exact⟨rfl,HB⟩
set_option maxRecDepth 4000 in
set_option maxHeartbeats 400000 in
theorem psl_good (v:Int) (A:Option Addr) (n C:Nat) (D:Option Addr) (m E:Nat) (AX:Option Addr) (k CX:Nat) (X:Nat→Nat×Nat) (AY:Option Addr) (my CY:Nat) (Y:Nat→Int) (t s:Nat) (hk:k≤24) (hs:floatBits .quo .f64 t 4611686018427387904=some s) (G:World→Nat→Prop) (hG:∀W W' b,G W b→Below W.heap.size W W'→G W' b) (hn:¬(n:Int)>200) (hmy:my≤9223372036854775807) (w:World) (VX:Ivs w AX k X) (VY:Ins w AY my Y)
   (cB:∀W,Below w.heap.size w W→Calls Tryz.prog 7 #[tapeV v A n C D m E,.slice AX k CX,.float .f64 t] W fun r w'=>(∃Ab kb Cb e,r=.returned (.tuple #[.slice Ab kb Cb,.int .i64 e])∧Ans8 k G w' Ab kb e)∧Below W.heap.size W w')
   (cM:∀W,Below w.heap.size w W→Calls Tryz.prog 9 #[tapeV v A n C D m E,.slice AX k CX,.float .f64 t] W fun r w'=>r=.returned (.bool true)∧Below W.heap.size W w')
   (cD:∀W,Below w.heap.size w W→Calls Tryz.prog 10 #[.slice AX k CX] W fun r w'=>r=.returned (.bool true)∧Below W.heap.size W w')
   (hpt:∀i p,i<k→(p=(X i).1∨p=(X i).2)→In (ptQ p).1 (ptQ p).2 (X i).1 (X i).2)
   (cO:∀W b C',Below w.heap.size w W→G W b→Calls Tryz.prog 11 #[tapeV v A n C D m E,.slice AX k CX,.slice (some ⟨b,0,none⟩) k C',.float .f64 s] W fun r w'=>r=.returned (.bool true)∧Below W.heap.size W w')
   (cP:∀W b C' AZ CZ Z u,Below w.heap.size w W→G W b→Ivs W AZ k Z→(∀i,i<k→In (Z i).1 (Z i).2 (X i).1 (X i).2)→(u=t∨u=0)→Calls Tryz.prog 11 #[tapeV v A n C D m E,.slice AZ k CZ,.slice (some ⟨b,0,none⟩) k C',.float .f64 u] W fun r w'=>r=.returned (.bool true)∧Below W.heap.size W w') :
   Calls Tryz.prog 5 #[tapeV v A n C D m E,.slice AX k CX,.float .f64 t,.slice AY my CY] w fun r w'=>r=.returned (.bool true)∧Below w.heap.size w w':=by
 unfold tapeV at *
 have T:=hasT_new w v A n C D m E
 have HB:Below w.heap.size w (w.alloc (.cells #[.int .i64 v,.slice A n C,.slice D m E] 25)):=by go_grown
 have hq:∀(ty:TypeId) (w:World),(binOp .quo ty (.float .f64 t) (.float .f64 4611686018427387904)).run Tryz.prog w=.ok (.float .f64 s) w:=fun ty w=>run_float_arith w .quo ty .f64 _ _ _ hs
 replace hG:Hid (∀W W' b,G W b→Below W.heap.size W W'→G W' b):=hG
 replace hpt:Hid (∀i p,i<k→(p=(X i).1∨p=(X i).2)→In (ptQ p).1 (ptQ p).2 (X i).1 (X i).2):=hpt
 have hX:Hid (∀i,i<k→W2 (X i)):=fun i hi=>ivs_words VX i hi
 clear hs
 go_enter Tryz.func5,Tryz.ntmps5
 go_upto_region 1 with fail
 generalize (w.alloc (.cells #[.int .i64 v,.slice A n C,.slice D m E] 25))=V1 at *
 have hTl:=T.lt
 obtain⟨t0,t1,t2,tl⟩:=id T
 go_upto_region 4 with (first
   | (go_at_call 9;refine (cM _ HB).mono ?_;rintro _ V4 ⟨rfl,hb1⟩;replace T:=T.keep hb1;replace HB:=later HB hb1;clear hb1;clear t0 t1 t2 tl;obtain⟨t0,t1,t2,tl⟩:=id T)
   | (go_at_call 10;refine (cD _ HB).mono ?_;rintro _ V5 ⟨rfl,hb1⟩;replace T:=T.keep hb1;replace HB:=later HB hb1;clear hb1;clear t0 t1 t2 tl;obtain⟨t0,t1,t2,tl⟩:=id T)
   | (go_at_call 7;refine (cB _ HB).mono ?_;rintro _ V2 ⟨⟨Ab,kb,Cb,e,rfl,g⟩,hb1⟩;replace T:=T.keep hb1;replace HB:=later HB hb1;clear hb1;clear t0 t1 t2 tl))
 clear cM cD cB
 rcases g with ⟨rfl,rfl,b,rfl,g⟩ | ⟨rfl,rfl,rfl⟩
 · have E0:OwnI V2.heap.size V2 (.slice none 0 0) []:=⟨rfl,.inl ⟨rfl,rfl⟩⟩
   go_wp2_with fail
   go_loopg [11,45] kb (fun Gn s11 s45 wx=>Below V2.heap.size V2 wx∧∃(r:Nat) (zs:List (Nat×Nat)),r+Gn=kb∧s45=.int .i64 (r:Int)∧zs.length=r∧OwnI V2.heap.size wx s11 zs∧Hid (∀i p,zs[i]?=some p→W2 p∧In p.1 p.2 (X i).1 (X i).2))
   case atStart=>exact⟨Below.refl _ _,0,[],by omega,rfl,rfl,E0,fun i p h=>by simp at h⟩
   case round =>
     clear E0
     obtain⟨HV,r,zs,hr,rfl,hzl,hown,hz⟩:=hrel
     replace HB:=later HB HV
     by_cases cr:r=kb
     · subst cr
       obtain⟨AZ,CZ,rfl,U⟩:=ownI_ivs hown (fun p hp=>by
         obtain⟨i,hi,he⟩:=List.getElem_of_mem hp
         exact (hz.out i p (by rw [←he];exact List.getElem?_eq_getElem hi)).1)
       rw [hzl] at U ⊢
       have hI:Hid (∀i,i<r→In ((fun i=>zs.getD i (0,0)) i).1 ((fun i=>zs.getD i (0,0)) i).2 (X i).1 (X i).2):=fun i hi=>by
         have hl:i<zs.length:=by omega
         have e1:zs.getD i (0,0)=zs[i]:=by simp [hl]
         show In (zs.getD i (0,0)).1 (zs.getD i (0,0)).2 _ _
         rw [e1]
         exact (hz.out i _ (List.getElem?_eq_getElem hl)).2
       replace T:=T.keep HV
       replace g:=hG.out _ _ _ g HV
       clear hown hz
       generalize (fun i=>zs.getD i (0,0))=Z at *
       have cO1:=fun (W:World) (h1:Below w.heap.size w W) (h2:G W b)=>cO W b Cb h1 h2
       have cP1:=fun (W:World) (h1:Below w.heap.size w W) (h2:G W b) (h3:Ivs W AZ r Z)=>cP W b Cb AZ CZ Z t h1 h2 h3 hI.out (Or.inl rfl)
       have cP0:=fun (W:World) (h1:Below w.heap.size w W) (h2:G W b) (h3:Ivs W AZ r Z)=>cP W b Cb AZ CZ Z 0 h1 h2 h3 hI.out (Or.inr rfl)
       clear cO cP
       obtain⟨t0,t1,t2,tl⟩:=id T
       go_wp2_with (first
         | (go_at_call_of 11 (Value.float FloatKind.f64 s);refine (cO1 _ HB g).mono ?_;rintro _ V6 ⟨rfl,hb1⟩;replace g:=hG.out _ _ _ g hb1;replace U:=U.keep hb1;replace T:=T.keep hb1;replace HB:=later HB hb1;clear hb1;clear t0 t1 t2 tl;obtain⟨t0,t1,t2,tl⟩:=id T)
         | (go_at_call_of 11 (Value.float FloatKind.f64 t);refine (cP1 _ HB g U).mono ?_;rintro _ V7 ⟨rfl,hb1⟩;replace g:=hG.out _ _ _ g hb1;replace U:=U.keep hb1;replace T:=T.keep hb1;replace HB:=later HB hb1;clear hb1;clear t0 t1 t2 tl;obtain⟨t0,t1,t2,tl⟩:=id T)
         | (go_at_call_of 11 (Value.float FloatKind.f64 0);refine (cP0 _ HB g U).mono ?_;rintro _ V8 ⟨rfl,hb1⟩;replace HB:=later HB hb1;clear hb1))
       go_ret
       exact⟨rfl,HB⟩
     · have hlt:(r:Int)<(kb:Int):=by omega
       obtain⟨xb,xo,hA,hxb,x0,x1,l0,l1⟩:=(VX.keep HB) r (by omega)
       have i1:=hpt.out r (X r).1 (by omega) (Or.inl rfl)
       have i2:=hpt.out r (X r).2 (by omega) (Or.inr rfl)
       have hlen:Hid (zs.length≤2000000):=by show _≤_;omega
       have hstep:∀p:Nat×Nat,W2 p→In p.1 p.2 (X r).1 (X r).2→Hid (∀i q,(zs++[(p.1,p.2)])[i]?=some q→W2 q∧In q.1 q.2 (X i).1 (X i).2):=fun p hp hi i q h=>by
         rcases Nat.lt_or_ge i zs.length with c | c
         · rw [List.getElem?_append_left c] at h
           exact hz.out i q h
         · rw [List.getElem?_append_right c] at h
           have hi0:i-zs.length=0:=by
             rcases Nat.eq_zero_or_pos (i-zs.length) with e | e
             · exact e
             · rw [List.getElem?_eq_none (by simp;omega)] at h
               cases h
           rw [hi0] at h
           have e:q=p:=by
             have:=Option.some.inj h
             exact this.symm
           rw [e,show i=r by omega]
           exact⟨hp,hi⟩
       replace hstep:Hid _:=hstep
       have e1:=hstep.out _ ⟨i1.a1,i1.a2⟩ i1
       have e2:=hstep.out _ ⟨i2.a1,i2.a2⟩ i2
       clear hstep i1 i2
       have c1:∀w,Calls Tryz.prog 16 #[.float .f64 (X r).1,.float .f64 (X r).1] w fun e w'=>e=.returned (.agg #[.float .f64 (ptQ (X r).1).1,.float .f64 (ptQ (X r).1).2])∧Below w.heap.size w w':=fun w=>rmake_w _ _ l0 l0 w
       have c2:∀w,Calls Tryz.prog 16 #[.float .f64 (X r).2,.float .f64 (X r).2] w fun e w'=>e=.returned (.agg #[.float .f64 (ptQ (X r).2).1,.float .f64 (ptQ (X r).2).2])∧Below w.heap.size w w':=fun w=>rmake_w _ _ l1 l1 w
       generalize ptQ (X r).1=p1 at *
       generalize ptQ (X r).2=p2 at *
       replace e1:Hid _:=e1
       replace e2:Hid _:=e2
       replace hzl:Hid (zs.length=r):=hzl
       have hS:=HV.size
       clear cO cP
       by_cases ci:(r:Int)<(my:Int)
       · obtain⟨yb,yo,hY,hyb,y0⟩:=(VY.keep HB) r (by omega)
         subst hA hY
         go_upto_region 10 with fail
         have DD:Has2 (wr.alloc (.cells #[.float .f64 (X r).1,.float .f64 (X r).2] 40)) wr.heap.size (.float .f64 (X r).1) (.float .f64 (X r).2):=has2_new _ _ _ _
         have hb1:Below wr.heap.size wr (wr.alloc (.cells #[.float .f64 (X r).1,.float .f64 (X r).2] 40)):=by go_grown
         replace hown:=hown.keep hb1
         replace HV:=later HV hb1
         have y0':=keepsC hb1 y0 hyb
         clear y0 x0 x1
         generalize wr.alloc (.cells #[.float .f64 (X r).1,.float .f64 (X r).2] 40)=V9 at *
         obtain⟨d0,d1,d2,d3,d4⟩:=id DD
         have hS9:=HV.size
         go_wp2_with (first
           | (go_at_call_of 16 (Value.float FloatKind.f64 (X r).1);refine (c1 _).mono ?_;rintro _ W1 ⟨rfl,hb1⟩;replace hown:=hown.keep hb1;replace HV:=later HV hb1;clear hb1 c1 c2;have hS1:=HV.size;have ee:=e1;obtain⟨pp,rfl⟩:∃q,q=p1:=⟨_,rfl⟩)
           | (go_at_call_of 16 (Value.float FloatKind.f64 (X r).2);refine (c2 _).mono ?_;rintro _ W1 ⟨rfl,hb1⟩;replace hown:=hown.keep hb1;replace HV:=later HV hb1;clear hb1 c1 c2;have hS1:=HV.size;have ee:=e2;obtain⟨pp,rfl⟩:∃q,q=p2:=⟨_,rfl⟩)
           | (at_builtin;refine wpList_pushI (by rfl) _ _ (by rfl) _ zs pp.1 pp.2 (by rfl) (by rfl) hown hlen.out hS1 HV ?_;intro v' w' hown' hB' hS'))
         all_goals
           go_roundg (kb-r-1)
           case measure=>omega
           case rel=>exact⟨hB',r+1,_,by omega,by go_num,by rw [List.length_append,hzl.out];rfl,hown',ee.out⟩
       · subst hA
         go_upto_region 10 with fail
         have DD:Has2 (wr.alloc (.cells #[.float .f64 (X r).1,.float .f64 (X r).2] 40)) wr.heap.size (.float .f64 (X r).1) (.float .f64 (X r).2):=has2_new _ _ _ _
         have hb1:Below wr.heap.size wr (wr.alloc (.cells #[.float .f64 (X r).1,.float .f64 (X r).2] 40)):=by go_grown
         replace hown:=hown.keep hb1
         replace HV:=later HV hb1
         clear x0 x1
         generalize wr.alloc (.cells #[.float .f64 (X r).1,.float .f64 (X r).2] 40)=V9 at *
         obtain⟨d0,d1,d2,d3,d4⟩:=id DD
         have hS9:=HV.size
         go_wp2_with (first
           | (go_at_call_of 16 (Value.float FloatKind.f64 (X r).1);refine (c1 _).mono ?_;rintro _ W1 ⟨rfl,hb1⟩;replace hown:=hown.keep hb1;replace HV:=later HV hb1;clear hb1;have hS1:=HV.size)
           | (at_builtin;refine wpList_pushI (by rfl) _ _ (by rfl) _ zs p1.1 p1.2 (by rfl) (by rfl) hown hlen.out hS1 HV ?_;intro v' w' hown' hB' hS'))
         go_roundg (kb-r-1)
         case measure=>omega
         case rel=>exact⟨hB',r+1,_,by omega,by go_num,by rw [List.length_append,hzl.out];rfl,hown',e1.out⟩
 · go_wp2_with fail
   go_ret
   exact⟨rfl,HB⟩
end Go.Proofs.YtnnfafilgiajoaaGreat
