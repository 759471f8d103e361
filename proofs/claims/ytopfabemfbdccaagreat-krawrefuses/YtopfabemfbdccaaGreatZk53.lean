/- KrawRefuses: for every tape, box and parameters Solve refuses as the document says, tells Grad's error, or one of three answers; a box that it tells lies in the one that was asked of -/
import Derived.Test.YtopfabemfbdccaaGreatZk17
import Derived.Test.YtopfabemfbdccaaGreatZk22
import Derived.Test.YtopfabemfbdccaaGreatZk52
namespace Go.Proofs.YtopfabemfbdccaaGreat.krawRefuses
open Go.ChangeShapes Go.WideShapes Go.ChangeAt Go.RowKit Go.Deep
theorem own:ownKnob Tryz.prog.godebug=none:=by kernel_rfl
set_option maxRecDepth 100000 in
theorem lifted (os:Os) (started:os.Started) (H:Type) (enc:TypeId×Value->H) :
  ReturnsInHanded {} Tryz.checked os 4 .any (Rows.krawRefusesSpec.pre6 enc Tryz.prog Tryz.f4 Rows.krawRefusesRow.domain false) (Rows.krawRefusesSpec.post enc Tryz.prog Tryz.f4 false true false false):=by
 refine returnsInHanded_of_change (C:=Tryz.checked) own started (by kernel_rfl) Tryz.func4
  (ChangeSpec.witness6 (enc:=enc) (C:=Tryz.checked) false ⟨#[],#[.agg #[.int .i64 0,.slice none 0 0,.slice none 0 0],.slice none 0 0,.slice none 0 0],[]⟩ 8 (by kernel_rfl) (by kernel_rfl) (by kernel_rfl) (by kernel_rfl)) ?_
 intro W base args ds gs before hval0 hW hcnd _
 have hval:∀(j:Nat) t v,Tryz.f4.params[j]?=some t->args[j]?=some v->Value.okWide Tryz.prog W .any base t v:=hval0
 have hW':=hW
 obtain⟨p,q,hA0,hV,rfl,hfz,hnd⟩:=hW
 have hA:DataW.TrodAll enc Tryz.prog W 0 (fun _=>true) true Tryz.f4.params.toList args.toList ds p:=hA0
 rw [Tryz.params4] at hA hval
 obtain⟨v0,vs0,d0,ds0,p0,q0,hargs,rfl,rfl,h0,r0⟩:=trodAll_cons hA
 obtain⟨v1,vs1,d1,ds1,p1,q1,rfl,rfl,rfl,h1,r1⟩:=trodAll_cons r0
 obtain⟨v2,vs2,d2,ds2,p2,q2,rfl,rfl,rfl,h2,r2⟩:=trodAll_cons r1
 obtain⟨rfl,rfl,rfl⟩:=trodAll_nil r2
 obtain rfl:args=#[v0,v1,v2]:=by cases args;simp_all
 obtain⟨rfl,rfl⟩:=trodVars_none hV
 have k0:=h0
 obtain⟨z1,y1,x1,rfl⟩:=okWide_slice Tryz.underlying46 (hval 1 46 v1 rfl rfl)
 have k1:=h1
 obtain⟨f1,g1⟩:=h1
 obtain⟨z2,y2,x2,rfl⟩:=okWide_slice Tryz.underlying46 (hval 2 46 v2 rfl rfl)
 have k2:=h2
 obtain⟨f2,g2⟩:=h2
 obtain⟨u0,A0,n0,C0,D0,m0,E0,X0,Y0,e0,hn0,hm0,VX0,VY0, -⟩:=open_tape (hval 0 45 v0 rfl rfl) h0
 obtain⟨A1,m1,C1,Z1,e1,b1,V1⟩:=open_ivs g1
 obtain⟨A2,m2,C2,Z2,e2,b2,V2⟩:=open_ivs g2
 clear hA0 hval0 hval hA
 rw [e0] at hW' k0 ⊢
 rw [e1] at hW' k1 ⊢
 rw [e2] at hW' k2 ⊢
 simp only [List.append_nil] at hW'
 have hlt:∀x,x∈p0\/x∈p1\/x∈p2->x.block<W.heap.size:=fun x hx=>hW'.lt x (by simp [hx])
 refine (krawRefuses_all u0 A0 n0 C0 D0 m0 E0 X0 Y0 A1 m1 C1 Z1 A2 m2 C2 Z2 hn0 hm0 b1 b2 W VX0 VY0 V1 V2).mono fun e W' ⟨he,bel⟩=>?_
 subst he
 have s0:=WideElems.Trod_stays (sp':=fun b=>decide (b<W.heap.size)) Tryz.laidOut (by kernel_rfl) (of_decide_eq_true (by kernel_rfl)) k0 (fun x hx=>bel.same (hlt x (.inl hx))) (fun x hx=>by simpa using hlt x (.inl hx))
 have s1:=WideElems.Trod_stays (sp':=fun b=>decide (b<W.heap.size)) Tryz.laidOut (by kernel_rfl) (of_decide_eq_true (by kernel_rfl)) k1 (fun x hx=>bel.same (hlt x (.inr (.inl hx)))) (fun x hx=>by simpa using hlt x (.inr (.inl hx)))
 have s2:=WideElems.Trod_stays (sp':=fun b=>decide (b<W.heap.size)) Tryz.laidOut (by kernel_rfl) (of_decide_eq_true (by kernel_rfl)) k2 (fun x hx=>bel.same (hlt x (.inr (.inr (hx))))) (fun x hx=>by simpa using hlt x (.inr (.inr (hx))))
 exact⟨_,rfl,_,_,_,[],_,[],hW',trodAll_mk1 (shut_bool Tryz.underlying4 _),(trodAll_cons_mk s0 (trodAll_cons_mk s1 (trodAll_cons_mk s2 trodAll_mk0))),rfl,bel.frame _,fun h=>by cases h⟩
end Go.Proofs.YtopfabemfbdccaaGreat.krawRefuses
