/- picard: the three tries, as closures. picard: boxes that are let grow. -/
import Derived.Test.YtnnfafilgiajoaaGreatZ44
namespace Go.Proofs.YtnnfafilgiajoaaGreat
open Go.ChangeShapes Go.WideShapes Go.ChangeAt Go.RowKit
abbrev OkF:=(Nat→Nat×Nat)→Bool
abbrev RtF:=(Nat→Nat×Nat)→Nat→Nat×Nat
def gdB (q:Qst) (ok:OkF) (rt:RtF) (X B:Nat→Nat×Nat):Bool:=ok B&&allIn q.k (rchB q rt X B) B
def wdB (X:Nat→Nat×Nat):Nat→Nat×Nat:=fun i=>wideQ (X i)
def Bst (q:Qst) (ok:OkF) (rt:RtF) (X:Nat→Nat×Nat) (hw:Bool) (w:World) (v:Value):Prop :=
 (hw=false∧v=.agg #[.slice none 0 0,.slice none 0 0]) ∨
 ∃(b C g:Nat) (B:Nat→Nat×Nat),v=.agg #[.slice (some ⟨b,0,none⟩) q.k C,.slice (some ⟨g,0,none⟩) q.k q.k]∧Img w b q.k B∧(∀i,i<q.k→W2 (B i))∧Img w g q.k (rchB q rt X B)∧gdB q ok rt X B=true∧(hw=true→allIn q.k B (wdB X)=true)
theorem Bst.keep {q:Qst} {ok:OkF} {rt:RtF} {X:Nat→Nat×Nat} {hw:Bool} {w w2:World} {v:Value} (h:Bst q ok rt X hw w v) (hb:Below w.heap.size w w2):Bst q ok rt X hw w2 v:=by
 rcases h with h | ⟨b,C,g,B,e,I,i2,J,r⟩
 · exact Or.inl h
 · exact Or.inr ⟨b,C,g,B,e,I.keep hb,i2,J.keep hb,r⟩
theorem Bst.far2 {q:Qst} {ok:OkF} {rt:RtF} {X:Nat→Nat×Nat} {hw:Bool} {w:World} {v:Value} {c n C:Nat} {A:Option Addr} {y:Value} (h:Bst q ok rt X hw w v) (hk:0<q.k) (R:Has2 w c (.slice A n C) y) (u u':Value):Bst q ok rt X hw ((w.setCell ⟨c,0,none⟩ u).setCell ⟨c,1,none⟩ u') v:=by
 rcases h with h | ⟨b,C,g,B,e,I,i2,J,r⟩
 · exact Or.inl h
 · exact Or.inr ⟨b,C,g,B,e,I.far2 (I.ne hk R) _ _,i2,J.far2 (J.ne hk R) _ _,r⟩
structure Ask (q:Qst) (ok:OkF) (rt:RtF) (X:Nat→Nat×Nat) (w:World):Prop where
 k24:q.k≤24
 k0:0<q.k
 tm:Tm q.t
 hrt:∀B,ok B=true→∀i,i<q.k→W2 (rt B i)
 ev:EvC q ok rt w
 begin:Ivs w q.AX q.k X
theorem Ask.keep {q:Qst} {ok:OkF} {rt:RtF} {X:Nat→Nat×Nat} {w w2:World} (h:Ask q ok rt X w) (hb:Below w.heap.size w w2):Ask q ok rt X w2:=⟨h.k24,h.k0,h.tm,h.hrt,h.ev.keep hb,h.begin.keep hb⟩
theorem Ask.rch {q:Qst} {ok:OkF} {rt:RtF} {X:Nat→Nat×Nat} {w:World} (h:Ask q ok rt X w) {B:Nat→Nat×Nat} (hB:gdB q ok rt X B=true):∀i,i<q.k→W2 (rchB q rt X B i):=fun i hi=>by
 unfold gdB at hB
 simp only [Bool.and_eq_true] at hB
 exact rchQ_W2 (ivs_words h.begin i hi) (h.hrt B hB.1 i hi) h.tm.lt
theorem tried_bad {q:Qst} {ok:OkF} {rt:RtF} {X B:Nat→Nat×Nat} {w:World} (K:Ask q ok rt X w) (A:Option Addr) (C:Nat) (U:Ivs w A q.k B) (ho:ok B=false) :
   Calls Tryz.prog 72 #[q.val,.slice A q.k C] w fun e w'=>e=.returned (.tuple #[.agg #[.slice none 0 0,.slice none 0 0],.slice none 0 0])∧Below w.heap.size w w' :=
 tried_c0 q A C w fun W hW=>(K.ev W hW A C B (U.keep hW)).mono fun e w' h=>⟨(by
   rcases h.1 with ⟨h, -⟩ | ⟨-,h⟩
   · rw [ho] at h
     cases h
   · exact h),h.2⟩
theorem tried_mid {q:Qst} {ok:OkF} {rt:RtF} {X B:Nat→Nat×Nat} {w:World} (K:Ask q ok rt X w) (A:Option Addr) (C:Nat) (U:Ivs w A q.k B) (ho:ok B=true) (hg:gdB q ok rt X B=false) :
   Calls Tryz.prog 72 #[q.val,.slice A q.k C] w fun e w'=>(∃g,e=.returned (.tuple #[.agg #[.slice none 0 0,.slice none 0 0],.slice (some ⟨g,0,none⟩) q.k q.k])∧Img w' g q.k (rt B))∧Below w.heap.size w w':=by
 have ha:allIn q.k (rchB q rt X B) B=false:=by unfold gdB at hg;rw [ho,Bool.true_and] at hg;exact hg
 refine tried_c1 q A C K.k0 (rt B) (rchB q rt X B)
   (fun i hi=>K.hrt B ho i hi) (fun i hi=>rchQ_W2 (ivs_words K.begin i hi) (K.hrt B ho i hi) K.tm.lt) w (fun W hW=>(K.ev W hW A C B (U.keep hW)).mono fun e w' h=>⟨(by
     rcases h.1 with ⟨-,h⟩ | ⟨h, -⟩
     · exact h
     · rw [ho] at h
       cases h),h.2⟩)
   (fun W hW g I=>reach_w q (some ⟨g,0,none⟩) q.k q.t X (rt B) K.k24 K.tm.lt W (K.begin.keep hW) I)
   (fun W hW h I=>?_)
 have c:=allIn_w (some ⟨h,0,none⟩) A q.k q.k C (rchB q rt X B) B (by have:=K.k24;omega) W I (U.keep hW)
 rw [ha] at c
 exact c
theorem tried_yes {q:Qst} {ok:OkF} {rt:RtF} {X B:Nat→Nat×Nat} {w:World} (K:Ask q ok rt X w) (A:Option Addr) (C:Nat) (U:Ivs w A q.k B) (hg:gdB q ok rt X B=true) :
   Calls Tryz.prog 72 #[q.val,.slice A q.k C] w fun e w'=>(∃h A' n' C',e=.returned (.tuple #[.agg #[.slice A q.k C,.slice (some ⟨h,0,none⟩) q.k q.k],.slice A' n' C'])∧Img w' h q.k (rchB q rt X B))∧Below w.heap.size w w':=by
 have hg2:=hg
 unfold gdB at hg2
 simp only [Bool.and_eq_true] at hg2
 obtain⟨ho,ha⟩:=hg2
 refine (tried_c2 q A C K.k0 (rt B) (rchB q rt X B)
   (fun i hi=>K.hrt B ho i hi) (fun i hi=>rchQ_W2 (ivs_words K.begin i hi) (K.hrt B ho i hi) K.tm.lt) w (fun W hW=>(K.ev W hW A C B (U.keep hW)).mono fun e w' h=>⟨(by
     rcases h.1 with ⟨-,h⟩ | ⟨h, -⟩
     · exact h
     · rw [ho] at h
       cases h),h.2⟩)
   (fun W hW g I=>reach_w q (some ⟨g,0,none⟩) q.k q.t X (rt B) K.k24 K.tm.lt W (K.begin.keep hW) I)
   (fun W hW h I=>?_)).mono ?_
 · have c:=allIn_w (some ⟨h,0,none⟩) A q.k q.k C (rchB q rt X B) B (by have:=K.k24;omega) W I (U.keep hW)
   rw [ha] at c
   exact c
 · rintro e w' ⟨⟨g,h,he, -,hh⟩,hb⟩
   exact⟨⟨h,_,_,_,he,hh⟩,hb⟩
theorem tried_no {q:Qst} {ok:OkF} {rt:RtF} {X B:Nat→Nat×Nat} {w:World} (K:Ask q ok rt X w) (A:Option Addr) (C:Nat) (U:Ivs w A q.k B) (hg:gdB q ok rt X B=false) :
   Calls Tryz.prog 72 #[q.val,.slice A q.k C] w fun e w'=>(∃A' n' C',e=.returned (.tuple #[.agg #[.slice none 0 0,.slice none 0 0],.slice A' n' C']))∧Below w.heap.size w w':=by
 cases ho:ok B
 · refine (tried_bad K A C U ho).mono ?_
   rintro e w' ⟨h,hb⟩
   exact⟨⟨_,_,_,h⟩,hb⟩
 · refine (tried_mid K A C U ho hg).mono ?_
   rintro e w' ⟨⟨g,h, -⟩,hb⟩
   exact⟨⟨_,_,_,h⟩,hb⟩
theorem Bst.shape {q:Qst} {ok:OkF} {rt:RtF} {X:Nat→Nat×Nat} {hw:Bool} {w:World} {v:Value} (h:Bst q ok rt X hw w v):∃(A:Option Addr) (n C:Nat) (A':Option Addr) (n' C':Nat),v=.agg #[.slice A n C,.slice A' n' C']:=by
 rcases h with ⟨-,h⟩ | ⟨b,C,g,B,e, -⟩
 · exact⟨_,_,_,_,_,_,h⟩
 · exact⟨_,_,_,_,_,_,e⟩
theorem sm_step {q:Qst} {ok:OkF} {rt:RtF} {X F:Nat→Nat×Nat} {hw:Bool} {w:World} {A A':Option Addr} {n C n' C':Nat} (hk:q.k≤24) (hB:Bst q ok rt X hw w (.agg #[.slice A n C,.slice A' n' C'])) (b D h:Nat) (I:Img w b q.k F) (hF:∀i,i<q.k→W2 (F i)) (J:Img w h q.k (rchB q rt X F)) (hg:gdB q ok rt X F=true) :
   Calls Tryz.prog 74 #[.agg #[.slice (some ⟨b,0,none⟩) q.k D,.slice (some ⟨h,0,none⟩) q.k q.k],.agg #[.slice A n C,.slice A' n' C']] w fun e w'=>(∃(A1:Option Addr) (n1 C1:Nat) (A2:Option Addr) (n2 C2:Nat),e=.returned (.agg #[.slice A1 n1 C1,.slice A2 n2 C2])∧Bst q ok rt X hw w' (.agg #[.slice A1 n1 C1,.slice A2 n2 C2]))∧Below w.heap.size w w':=by
 rcases id hB with ⟨e,ev⟩ | ⟨b',C'',g,B,ev,I',hB2,J',gB,hwd⟩
 · cases ev
   refine (sm_first ⟨b,0,none⟩ q.k D (some ⟨h,0,none⟩) q.k q.k w).mono ?_
   rintro _ w' ⟨rfl,hb⟩
   exact⟨⟨_,_,_,_,_,_,rfl,Or.inr ⟨b,D,h,F,rfl,I.keep hb,hF,J.keep hb,hg,fun c=>by rw [e] at c;cases c⟩⟩,hb⟩
 · cases ev
   refine (sm_both ⟨b,0,none⟩ ⟨b',0,none⟩ q.k D C (some ⟨h,0,none⟩) (some ⟨g,0,none⟩) q.k q.k q.k q.k F B (by omega) w (I.ivs hF) (I'.ivs hB2)).mono ?_
   rintro _ w' ⟨rfl,hb⟩
   cases ha:allIn q.k F B
   · exact⟨⟨_,_,_,_,_,_,rfl,hB.keep hb⟩,hb⟩
   · exact⟨⟨_,_,_,_,_,_,rfl,Or.inr ⟨b,D,h,F,rfl,I.keep hb,hF,J.keep hb,hg,fun c=>allIn_trans ha (hwd c)⟩⟩,hb⟩
theorem inside_refl (p:Nat×Nat):insideB p.1 p.2 p.1 p.2=true:=inside_iff.2 fun S=>⟨S,Int.le_refl _,Int.le_refl _⟩
theorem allIn_refl (n:Nat) (X:Nat→Nat×Nat):allIn n X X=true:=allIn_iff.2 fun i _=>inside_refl (X i)
theorem enterB (w:World) (A:Option Addr) (n C:Nat) (A':Option Addr) (n' C':Nat):Has2 ((w.alloc (.cells #[.slice A n C,.slice A' n' C'] 71)).alloc (.cells #[.slice none 0 0,.slice none 0 0] 71)) w.heap.size (.slice A n C) (.slice A' n' C') ∧
   Has2 ((w.alloc (.cells #[.slice A n C,.slice A' n' C'] 71)).alloc (.cells #[.slice none 0 0,.slice none 0 0] 71)) (w.heap.size+1) (.slice none 0 0) (.slice none 0 0) ∧
   Below w.heap.size w ((w.alloc (.cells #[.slice A n C,.slice A' n' C'] 71)).alloc (.cells #[.slice none 0 0,.slice none 0 0] 71)) :=
 ⟨⟨by go_simp,by go_simp,by go_simp,by go_simp,by go_size⟩,⟨by go_simp,by go_simp,by go_simp,by go_simp,by go_size⟩,by go_grown⟩
set_option maxHeartbeats 4000000 in
theorem nar_w {q:Qst} {ok:OkF} {rt:RtF} {X:Nat→Nat×Nat} {hw:Bool} {w:World} (K:Ask q ok rt X w) (qb:Nat) (Q:HasQ w qb q) (v:Value) (hB:Bst q ok rt X hw w v) :
   Calls Tryz.prog 78 #[v,.pointer (some ⟨qb,0,none⟩)] w fun e w'=>(∃v',e=.returned v'∧Bst q ok rt X hw w' v')∧Below w.heap.size w w':=by
 rcases hB with ⟨e,rfl⟩ | ⟨b,C,g,B,rfl,I,hB2,J,gB,hwd⟩
 · obtain⟨D,R,HB⟩:=enterB w none 0 0 none 0 0
   go_enter Tryz.func78,Tryz.ntmps78
   go_upto_region 1 with fail
   generalize (w.alloc (.cells #[.slice none 0 0,.slice none 0 0] 71)).alloc (.cells #[.slice none 0 0,.slice none 0 0] 71)=V1 at *
   obtain⟨x0,x1,x2,x3,x4⟩:=id D
   go_wp2_with (go_at_call 79;refine (same0_w 0 0 _).mono ?_;rintro _ V2 ⟨rfl,hb1⟩;replace D:=D.keep hb1;replace R:=R.keep hb1;replace HB:=later HB hb1;clear hb1;clear x0 x1 x2 x3 x4;obtain⟨x0,x1,x2,x3,x4⟩:=id D;obtain⟨r0,r1,r2,r3,r4⟩:=id R)
   refine bodyPost_ret (v:=.agg #[.slice none 0 0,.slice none 0 0]) (by simp [results,Tryz.results78,go_sem, *]) rfl ⟨⟨_,rfl,Or.inl ⟨e,rfl⟩⟩, ?_⟩
   repeat' (first | (with_reducible exact HB) | (with_reducible refine below_alloc ?_ _) | (with_reducible refine Below.setCell ?_ ?_ _) | go_size | omega)
 · obtain⟨D,R,HB⟩:=enterB w (some ⟨b,0,none⟩) q.k C (some ⟨g,0,none⟩) q.k q.k
   have hR2:=K.rch gB
   have hback:∀W,Below w.heap.size w W→Bst q ok rt X hw W (.agg #[.slice (some ⟨b,0,none⟩) q.k C,.slice (some ⟨g,0,none⟩) q.k q.k]):=fun W hW=>Or.inr ⟨b,C,g,B,rfl,I.keep hW,hB2,J.keep hW,gB,hwd⟩
   replace hback:Hid _:=hback
   have hk0:=K.k0
   have hk24:=K.k24
   have cS:=fun (W:World) (hW:Below w.heap.size w W)=>sameI_w (some ⟨b,0,none⟩) (some ⟨g,0,none⟩) q.k C q.k B (rchB q rt X B) (by omega) W ((I.ivs hB2).keep hW) ((J.ivs hR2).keep hW)
   clear hwd hB2 gB I
   replace hR2:Hid (∀i,i<q.k→W2 (rchB q rt X B i)):=hR2
   generalize rchB q rt X B=F at *
   generalize sameE q.k B F=s at *
   cases s
   · have hcase:gdB q ok rt X F=true∨gdB q ok rt X F=false:=by cases gdB q ok rt X F <;> simp
     rcases hcase with hc | hc
     · have cT:=fun (W:World) (hW:Below w.heap.size w W)=>tried_yes (K.keep hW) (some ⟨g,0,none⟩) q.k ((J.ivs hR2.out).keep hW) hc
       unfold Qst.val at cT
       have cM:=fun (W:World) (hW:Below w.heap.size w W) (h:Nat) (hh:Img W h q.k (rchB q rt X F))=>sm_step hk24 (hback.out W hW) g q.k h (J.keep hW) hR2.out hh hc
       clear hc hback
       replace Q:=Q.keep HB
       go_enter Tryz.func78,Tryz.ntmps78
       go_upto_region 1 with fail
       generalize (w.alloc (.cells #[.slice (some ⟨b,0,none⟩) q.k C,.slice (some ⟨g,0,none⟩) q.k q.k] 71)).alloc (.cells #[.slice none 0 0,.slice none 0 0] 71)=V1 at *
       obtain⟨x0,x1,x2,x3,x4⟩:=id D
       go_upto_region 4 with (first
         | (go_at_call 79;refine (cS _ HB).mono ?_;rintro _ V2 ⟨rfl,hb1⟩;replace D:=D.keep hb1;replace R:=R.keep hb1;replace Q:=Q.keep hb1;replace HB:=later HB hb1;clear hb1;clear x0 x1 x2 x3 x4;obtain⟨x0,x1,x2,x3,x4⟩:=id D;obtain⟨r0,r1,r2,r3,r4⟩:=id R;obtain⟨q0,q1,q2,q3,q4,ql⟩:=id Q)
         | (go_at_call 72;refine (cT _ HB).mono ?_;rintro _ V3 ⟨⟨h,A',n',C',rfl,hh⟩,hb1⟩;replace D:=D.keep hb1;replace R:=R.keep hb1;replace HB:=later HB hb1;clear hb1;clear x0 x1 x2 x3 x4 r0 r1 r2 r3 r4 q0 q1 q2 q3 q4 ql))
       have N:Has2 (V3.alloc (.cells #[.slice (some ⟨g,0,none⟩) q.k q.k,.slice (some ⟨h,0,none⟩) q.k q.k] 71)) V3.heap.size (.slice (some ⟨g,0,none⟩) q.k q.k) (.slice (some ⟨h,0,none⟩) q.k q.k):=has2_new _ _ _ _
       have hb1:Below V3.heap.size V3 (V3.alloc (.cells #[.slice (some ⟨g,0,none⟩) q.k q.k,.slice (some ⟨h,0,none⟩) q.k q.k] 71)):=by go_grown
       replace hh:=hh.keep hb1
       replace D:=D.keep hb1;replace R:=R.keep hb1;replace HB:=later HB hb1;clear hb1
       generalize V3.alloc (.cells #[.slice (some ⟨g,0,none⟩) q.k q.k,.slice (some ⟨h,0,none⟩) q.k q.k] 71)=V4 at *
       obtain⟨x0,x1,x2,x3,x4⟩:=id D
       obtain⟨y0,y1,y2,y3,y4⟩:=id N
       go_wp2_with (go_at_call 74;refine (cM _ HB h hh).mono ?_;rintro _ V5 ⟨⟨A1,n1,C1,A2,n2,C2,rfl,hb⟩,hb1⟩;replace R:=R.keep hb1;replace HB:=later HB hb1;clear hb1;clear x0 x1 x2 x3 x4 y0 y1 y2 y3 y4;obtain⟨r0,r1,r2,r3,r4⟩:=id R)
       refine bodyPost_ret (v:=.agg #[.slice A1 n1 C1,.slice A2 n2 C2]) (by simp [results,Tryz.results78,go_sem, *]) rfl ⟨⟨_,rfl,hb.far2 hk0 R _ _⟩, ?_⟩
       repeat' (first | (with_reducible exact HB) | (with_reducible refine below_alloc ?_ _) | (with_reducible refine Below.setCell ?_ ?_ _) | go_size | omega)
     · have cT:=fun (W:World) (hW:Below w.heap.size w W)=>tried_no (K.keep hW) (some ⟨g,0,none⟩) q.k ((J.ivs hR2.out).keep hW) hc
       unfold Qst.val at cT
       clear hc
       replace Q:=Q.keep HB
       go_enter Tryz.func78,Tryz.ntmps78
       go_upto_region 1 with fail
       generalize (w.alloc (.cells #[.slice (some ⟨b,0,none⟩) q.k C,.slice (some ⟨g,0,none⟩) q.k q.k] 71)).alloc (.cells #[.slice none 0 0,.slice none 0 0] 71)=V1 at *
       obtain⟨x0,x1,x2,x3,x4⟩:=id D
       go_upto_region 4 with (first
         | (go_at_call 79;refine (cS _ HB).mono ?_;rintro _ V2 ⟨rfl,hb1⟩;replace D:=D.keep hb1;replace R:=R.keep hb1;replace Q:=Q.keep hb1;replace HB:=later HB hb1;clear hb1;clear x0 x1 x2 x3 x4;obtain⟨x0,x1,x2,x3,x4⟩:=id D;obtain⟨r0,r1,r2,r3,r4⟩:=id R;obtain⟨q0,q1,q2,q3,q4,ql⟩:=id Q)
         | (go_at_call 72;refine (cT _ HB).mono ?_;rintro _ V3 ⟨⟨A',n',C',rfl⟩,hb1⟩;replace D:=D.keep hb1;replace R:=R.keep hb1;replace HB:=later HB hb1;clear hb1;clear x0 x1 x2 x3 x4 r0 r1 r2 r3 r4 q0 q1 q2 q3 q4 ql))
       have N:Has2 (V3.alloc (.cells #[.slice none 0 0,.slice none 0 0] 71)) V3.heap.size (.slice none 0 0) (.slice none 0 0):=has2_new _ _ _ _
       have hb1:Below V3.heap.size V3 (V3.alloc (.cells #[.slice none 0 0,.slice none 0 0] 71)):=by go_grown
       replace D:=D.keep hb1;replace R:=R.keep hb1;replace HB:=later HB hb1;clear hb1
       generalize V3.alloc (.cells #[.slice none 0 0,.slice none 0 0] 71)=V4 at *
       obtain⟨x0,x1,x2,x3,x4⟩:=id D
       obtain⟨y0,y1,y2,y3,y4⟩:=id N
       go_wp2_with (go_at_call 74;refine (sm_nil (some ⟨b,0,none⟩) q.k C (some ⟨g,0,none⟩) q.k q.k _).mono ?_;rintro _ V5 ⟨rfl,hb1⟩;replace R:=R.keep hb1;replace HB:=later HB hb1;clear hb1;clear x0 x1 x2 x3 x4 y0 y1 y2 y3 y4;obtain⟨r0,r1,r2,r3,r4⟩:=id R)
       refine bodyPost_ret (v:=.agg #[.slice (some ⟨b,0,none⟩) q.k C,.slice (some ⟨g,0,none⟩) q.k q.k]) (by simp [results,Tryz.results78,go_sem, *]) rfl ⟨⟨_,rfl,hback.out _ ?_⟩, ?_⟩
       all_goals
         repeat' (first | (with_reducible exact HB) | (with_reducible refine below_alloc ?_ _) | (with_reducible refine Below.setCell ?_ ?_ _) | go_size | omega)
   · skip
     replace Q:=Q.keep HB
     go_enter Tryz.func78,Tryz.ntmps78
     go_upto_region 1 with fail
     generalize (w.alloc (.cells #[.slice (some ⟨b,0,none⟩) q.k C,.slice (some ⟨g,0,none⟩) q.k q.k] 71)).alloc (.cells #[.slice none 0 0,.slice none 0 0] 71)=V1 at *
     obtain⟨x0,x1,x2,x3,x4⟩:=id D
     go_wp2_with (go_at_call 79;refine (cS _ HB).mono ?_;rintro _ V2 ⟨rfl,hb1⟩;replace D:=D.keep hb1;replace R:=R.keep hb1;replace Q:=Q.keep hb1;replace HB:=later HB hb1;clear hb1;clear x0 x1 x2 x3 x4;obtain⟨x0,x1,x2,x3,x4⟩:=id D;obtain⟨r0,r1,r2,r3,r4⟩:=id R;obtain⟨q0,q1,q2,q3,q4,ql⟩:=id Q)
     refine bodyPost_ret (v:=.agg #[.slice (some ⟨b,0,none⟩) q.k C,.slice (some ⟨g,0,none⟩) q.k q.k]) (by simp [results,Tryz.results78,go_sem, *]) rfl ⟨⟨_,rfl,hback.out _ ?_⟩, ?_⟩
     all_goals
       repeat' (first | (with_reducible exact HB) | (with_reducible refine below_alloc ?_ _) | (with_reducible refine Below.setCell ?_ ?_ _) | go_size | omega)
theorem mul_any {a b:Nat} (ha:a<18446744073709551616) (hb:b<18446744073709551616) (fa:finB a=true) (fb:finB b=true):∃r,floatBits .mul .f64 a b=some r∧r<18446744073709551616:=by
 obtain⟨e,he⟩:=read_fin ha fa
 obtain⟨d,hd⟩:=read_fin hb fb
 refine⟨_,show ((Ieee.double.read a).product (Ieee.double.read b)).map Ieee.double.write=_ by rw [he,hd];rfl, ?_⟩
 exact Ieee.double.write_lt _
theorem Tm.fin' {t:Nat} (T:Tm t):finB t=true:=by
 have h1:=T.lt
 have h2:=T.ge
 have h3:=T.fin
 unfold finB
 unfold key at h2 h3
 refine decide_eq_true ?_
 split at h2 <;> omega
set_option maxHeartbeats 8000000 in
theorem gro_w {q:Qst} {ok:OkF} {rt:RtF} {X:Nat→Nat×Nat} {hw:Bool} {w:World} (K:Ask q ok rt X w) (qb:Nat) (Q:HasQ w qb q) (v:Value) (hB:Bst q ok rt X hw w v) :
   Calls Tryz.prog 75 #[v,.pointer (some ⟨qb,0,none⟩)] w fun e w'=>(∃v',e=.returned v'∧Bst q ok rt X hw w' v')∧Below w.heap.size w w':=by
 obtain⟨A,n,C,A',n',C',rfl⟩:=hB.shape
 obtain⟨D,R,HB⟩:=enterB w A n C A' n' C'
 have hk0:=K.k0
 have hk24:=K.k24
 have hX2:Hid (∀i,i<q.k→W2 (X i)):=fun i hi=>ivs_words K.begin i hi
 have ql0:=Q.lt
 obtain⟨r,hr,hr2⟩:=mul_any (a:=4607463893776728064) (b:=q.t) (by omega) K.tm.lt (by decide) K.tm.fin'
 have hm:∀(t:TypeId) (w:World),(binOp .mul t (.float .f64 4607463893776728064) (.float .f64 q.t)).run Tryz.prog w=.ok (.float .f64 r) w:=fun t w=>run_float_arith w .mul t .f64 _ _ _ hr
 clear hr
 have qe:=eql_nil
 have qn:=neq_nil
 have cC:∀W,Below w.heap.size w W→Calls Tryz.prog 45 #[.slice q.AX q.k q.CX] W fun e w'=>(∃g C',e=.returned (.slice (some ⟨g,0,none⟩) q.k C')∧Img w' g q.k X)∧Below W.heap.size W w':=fun W hW=>by
   obtain⟨xb,xo,hAX, -⟩:=K.begin 0 hk0
   have V:=K.begin.keep hW
   rw [hAX] at V ⊢
   exact clone0_w xb xo q.k q.CX X (by omega) hk0 W V
 have cR:=fun (W:World) (hW:Below w.heap.size w W) (g:Nat) (Y:Nat→Nat×Nat) (I:Ivs W (some ⟨g,0,none⟩) q.k Y)=>reach_w q (some ⟨g,0,none⟩) q.k r X Y hk24 hr2 W (K.begin.keep hW) I
 unfold Qst.val at cR
 replace Q:=Q.keep HB
 go_enter Tryz.func75,Tryz.ntmps75
 go_upto_region 1 with fail
 generalize (w.alloc (.cells #[.slice A n C,.slice A' n' C'] 71)).alloc (.cells #[.slice none 0 0,.slice none 0 0] 71)=V1 at *
 obtain⟨q0,q1,q2,q3,q4,ql⟩:=id Q
 go_wp2_with (go_at_call 45;refine (cC _ HB).mono ?_;rintro _ V2 ⟨⟨g0,C0,rfl,I0⟩,hb1⟩;replace D:=D.keep hb1;replace R:=R.keep hb1;replace Q:=Q.keep hb1;replace HB:=later HB hb1;clear hb1;clear q0 q1 q2 q3 q4 ql)
 clear cC
 go_loopg [4,10] 48 (fun G s4 s10 wx=>Below w.heap.size w wx∧HasQ wx qb q∧Has2 wx w.heap.size (.slice A n C) (.slice A' n' C')∧Has2 wx (w.heap.size+1) (.slice none 0 0) (.slice none 0 0)∧∃i:Nat,i+G=48∧s10=.int .i64 (i:Int)∧∃(g0 C0:Nat) (B0:Nat→Nat×Nat),s4=.slice (some ⟨g0,0,none⟩) q.k C0∧Img wx g0 q.k B0∧Hid (∀i,i<q.k→W2 (B0 i)))
 case atStart=>exact⟨HB,Q,D,R,0,by omega,rfl,g0,C0,X,rfl,I0,hX2⟩
 case round =>
   clear HB Q D R I0
   obtain⟨HB,Q,D,R,i,hi,rfl,g0,C0,B0,rfl,I0,hB0⟩:=hrel
   by_cases ci:i=48
   · subst ci
     obtain⟨x0,x1,x2,x3,x4⟩:=id D
     obtain⟨r0,r1,r2,r3,r4⟩:=id R
     go_wp2_with fail
     refine bodyPost_ret (v:=.agg #[.slice A n C,.slice A' n' C']) (by simp [results,Tryz.results75,go_sem, *]) rfl ⟨⟨_,rfl,hB.keep ?_⟩, ?_⟩
     all_goals
       repeat' (first | (with_reducible exact HB) | (with_reducible refine below_alloc ?_ _) | (with_reducible refine Below.setCell ?_ ?_ _) | go_size | omega)
   · have hlt:(i:Int)<48:=by omega
     obtain⟨q0,q1,q2,q3,q4,ql⟩:=id Q
     have hcase:ok B0=false∨(ok B0=true∧gdB q ok rt X B0=false)∨gdB q ok rt X B0=true:=by
       cases h1:ok B0
       · exact Or.inl rfl
       · cases h2:gdB q ok rt X B0
         · exact Or.inr (Or.inl ⟨rfl,rfl⟩)
         · exact Or.inr (Or.inr rfl)
     rcases hcase with ho | ⟨ho,hc⟩ | hc
     · have cT:=tried_bad (K.keep HB) (some ⟨g0,0,none⟩) C0 (I0.ivs hB0.out) ho
       unfold Qst.val at cT
       clear cR hm
       go_upto_region 5 with (go_at_call 72;refine cT.mono ?_;rintro _ V3 ⟨rfl,hb1⟩;replace D:=D.keep hb1;replace R:=R.keep hb1;replace HB:=later HB hb1;clear hb1;clear q0 q1 q2 q3 q4 ql)
       have N:Has2 (V3.alloc (.cells #[.slice none 0 0,.slice none 0 0] 71)) V3.heap.size (.slice none 0 0) (.slice none 0 0):=has2_new _ _ _ _
       have hb1:Below V3.heap.size V3 (V3.alloc (.cells #[.slice none 0 0,.slice none 0 0] 71)):=by go_grown
       replace D:=D.keep hb1;replace R:=R.keep hb1;replace HB:=later HB hb1;clear hb1
       generalize V3.alloc (.cells #[.slice none 0 0,.slice none 0 0] 71)=V4 at *
       obtain⟨y0,y1,y2,y3,y4⟩:=id N
       obtain⟨x0,x1,x2,x3,x4⟩:=id D
       obtain⟨r0,r1,r2,r3,r4⟩:=id R
       go_wp2_with fail
       refine bodyPost_ret (v:=.agg #[.slice A n C,.slice A' n' C']) (by simp [results,Tryz.results75,go_sem, *]) rfl ⟨⟨_,rfl,hB.keep ?_⟩, ?_⟩
       all_goals
         repeat' (first | (with_reducible exact HB) | (with_reducible refine below_alloc ?_ _) | (with_reducible refine Below.setCell ?_ ?_ _) | go_size | omega)
     · have cT:=tried_mid (K.keep HB) (some ⟨g0,0,none⟩) C0 (I0.ivs hB0.out) ho hc
       unfold Qst.val at cT
       have hw2:Hid (∀i,i<q.k→W2 (rt B0 i)):=K.hrt B0 ho
       generalize rt B0=Y0 at *
       go_upto_region 5 with (go_at_call 72;refine cT.mono ?_;rintro _ V3 ⟨⟨g,rfl,hg⟩,hb1⟩;replace I0:=I0.keep hb1;replace D:=D.keep hb1;replace R:=R.keep hb1;replace Q:=Q.keep hb1;replace HB:=later HB hb1;clear hb1;clear q0 q1 q2 q3 q4 ql)
       have N:Has2 (V3.alloc (.cells #[.slice none 0 0,.slice none 0 0] 71)) V3.heap.size (.slice none 0 0) (.slice none 0 0):=has2_new _ _ _ _
       have hb1:Below V3.heap.size V3 (V3.alloc (.cells #[.slice none 0 0,.slice none 0 0] 71)):=by go_grown
       replace I0:=I0.keep hb1
       replace hg:=hg.keep hb1
       replace D:=D.keep hb1;replace R:=R.keep hb1;replace Q:=Q.keep hb1;replace HB:=later HB hb1;clear hb1
       generalize V3.alloc (.cells #[.slice none 0 0,.slice none 0 0] 71)=V4 at *
       obtain⟨y0,y1,y2,y3,y4⟩:=id N
       obtain⟨q0,q1,q2,q3,q4,ql⟩:=id Q
       go_upto_region 9 with (first
         | (go_at_call 77;refine (cR _ HB g Y0 (hg.ivs hw2.out)).mono ?_;rintro _ V5 ⟨⟨g5,rfl,h5⟩,hb1⟩;replace I0:=I0.keep hb1;replace D:=D.keep hb1;replace R:=R.keep hb1;replace Q:=Q.keep hb1;replace HB:=later HB hb1;clear hb1;clear q0 q1 q2 q3 q4 ql)
         | (go_at_call 76;refine (hullI_w (some ⟨g0,0,none⟩) (some ⟨g5,0,none⟩) q.k C0 q.k B0 _ hk24 _ (I0.ivs hB0.out) (h5.ivs fun i hi=>rchQ_W2 (hX2.out i hi) (hw2.out i hi) hr2)).mono ?_;rintro _ V6 ⟨⟨g6,rfl,h6⟩,hb1⟩;replace D:=D.keep hb1;replace R:=R.keep hb1;replace Q:=Q.keep hb1;replace HB:=later HB hb1;clear hb1))
       go_wp2_with fail
       go_roundg (48-i-1)
       case measure=>omega
       case rel=>exact⟨HB,Q,D,R,i+1,by omega,by go_num,g6,q.k,_,rfl,h6,fun i hi=>hullQ_W2 (hB0.out i hi) (rchQ_W2 (hX2.out i hi) (hw2.out i hi) hr2)⟩
     · have cT:=tried_yes (K.keep HB) (some ⟨g0,0,none⟩) C0 (I0.ivs hB0.out) hc
       unfold Qst.val at cT
       have cM:=fun (W:World) (hW:Below w.heap.size w W) (h:Nat) (I:Img W g0 q.k B0) (hh:Img W h q.k (rchB q rt X B0))=>sm_step hk24 (hB.keep hW) g0 C0 h I hB0.out hh hc
       clear cR hm hc
       generalize rchB q rt X B0=P at *
       go_upto_region 5 with (go_at_call 72;refine cT.mono ?_;rintro _ V3 ⟨⟨h,A3,n3,C3,rfl,hh⟩,hb1⟩;replace I0:=I0.keep hb1;replace D:=D.keep hb1;replace R:=R.keep hb1;replace HB:=later HB hb1;clear hb1;clear q0 q1 q2 q3 q4 ql)
       have N:Has2 (V3.alloc (.cells #[.slice (some ⟨g0,0,none⟩) q.k C0,.slice (some ⟨h,0,none⟩) q.k q.k] 71)) V3.heap.size (.slice (some ⟨g0,0,none⟩) q.k C0) (.slice (some ⟨h,0,none⟩) q.k q.k):=has2_new _ _ _ _
       have hb1:Below V3.heap.size V3 (V3.alloc (.cells #[.slice (some ⟨g0,0,none⟩) q.k C0,.slice (some ⟨h,0,none⟩) q.k q.k] 71)):=by go_grown
       replace I0:=I0.keep hb1
       replace hh:=hh.keep hb1
       replace D:=D.keep hb1;replace R:=R.keep hb1;replace HB:=later HB hb1;clear hb1
       generalize V3.alloc (.cells #[.slice (some ⟨g0,0,none⟩) q.k C0,.slice (some ⟨h,0,none⟩) q.k q.k] 71)=V4 at *
       obtain⟨y0,y1,y2,y3,y4⟩:=id N
       obtain⟨x0,x1,x2,x3,x4⟩:=id D
       go_wp2_with (go_at_call 74;refine (cM _ HB h I0 hh).mono ?_;rintro _ V5 ⟨⟨A1,n1,C1,A2,n2,C2,rfl,hb⟩,hb1⟩;replace R:=R.keep hb1;replace HB:=later HB hb1;clear hb1;clear x0 x1 x2 x3 x4 y0 y1 y2 y3 y4;obtain⟨r0,r1,r2,r3,r4⟩:=id R)
       refine bodyPost_ret (v:=.agg #[.slice A1 n1 C1,.slice A2 n2 C2]) (by simp [results,Tryz.results75,go_sem, *]) rfl ⟨⟨_,rfl,hb.far2 hk0 R _ _⟩, ?_⟩
       repeat' (first | (with_reducible exact HB) | (with_reducible refine below_alloc ?_ _) | (with_reducible refine Below.setCell ?_ ?_ _) | go_size | omega)
end Go.Proofs.YtnnfafilgiajoaaGreat
