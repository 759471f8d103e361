/- LinSingular's parts: rows that are copied; the square; what a regular matrix's determinant is. The places of an inverse are quotients of determinants. -/
import Derived.Test.YtlabmpngbcnhpaaGreatZi27
import Derived.Test.YtlabmpngbcnhpaaGreatZi39
import Derived.Test.YtlabmpngbcnhpaaGreatZi34
import Derived.Deep.AppendLies
import Derived.Test.YtlabmpngbcnhpaaGreatZi41
namespace Go.Proofs.YtlabmpngbcnhpaaGreat
open Go.ChangeShapes Go.WideShapes Go.ChangeAt Go.RowKit
theorem vq_zero_of {k:Int} (h:V k=0):vq k=0:=by
 unfold vq
 rw [h]
 grind
theorem det_reg {n:Nat} {X:Nat→Nat→Nat} (n1:1≤n) (n3:n≤3) (hX:RegQ n X):detZ n (fun r c=>V (key (X r c)))≠0:=by
 have G:=hX.g
 clear hX
 intro z
 have n123:n=1∨n=2∨n=3:=by omega
 rcases n123 with rfl | rfl | rfl
 · have e:detZ 1 (fun r c=>V (key (X r c)))=V (key (X 0 0)):=by simp [detZ,detS]
   rw [e] at z
   exact reg_1 G (vq_zero_of z)
 · have e:detZ 2 (fun r c=>V (key (X r c)))=V (key (X 0 0))*V (key (X 1 1))-V (key (X 0 1))*V (key (X 1 0)):=by
     simp [detZ,detS,skipN]
     omega
   rw [e] at z
   refine reg_2 G ?_
   unfold det2Q vq
   dsimp only
   generalize V (key (X 0 0))=a at *
   generalize V (key (X 0 1))=b at *
   generalize V (key (X 1 0))=c at *
   generalize V (key (X 1 1))=d at *
   have q:((a:Rat)*d-b*c)=0:=by
     rw [←Rat.intCast_mul,←Rat.intCast_mul,←Rat.intCast_sub,z]
     rfl
   have:(a:Rat)*iuQ*(d*iuQ)-b*iuQ*(c*iuQ)=(a*d-b*c)*(iuQ*iuQ):=by grind
   rw [this,q]
   grind
 · have e:detZ 3 (fun r c=>V (key (X r c)))=V (key (X 0 0))*(V (key (X 1 1))*V (key (X 2 2))-V (key (X 1 2))*V (key (X 2 1)))-V (key (X 0 1))*(V (key (X 1 0))*V (key (X 2 2))-V (key (X 1 2))*V (key (X 2 0)))+V (key (X 0 2))*(V (key (X 1 0))*V (key (X 2 1))-V (key (X 1 1))*V (key (X 2 0))):=by
     simp [detZ,detS,skipN]
     grind
   rw [e] at z
   refine reg_3 G ?_
   clear G
   clear e
   unfold det3Q vq
   dsimp only
   generalize V (key (X 0 0))=a at *
   generalize V (key (X 0 1))=b at *
   generalize V (key (X 0 2))=c at *
   generalize V (key (X 1 0))=d at *
   generalize V (key (X 1 1))=e at *
   generalize V (key (X 1 2))=f at *
   generalize V (key (X 2 0))=g at *
   generalize V (key (X 2 1))=h at *
   generalize V (key (X 2 2))=i at *
   have q:((a:Rat)*(e*i-f*h)-b*(d*i-f*g)+c*(d*h-e*g))=0:=by
     have:(((a*(e*i-f*h)-b*(d*i-f*g)+c*(d*h-e*g):Int)):Rat)=0:=by rw [z];rfl
     rw [←this]
     simp only [Rat.intCast_mul,Rat.intCast_sub,Rat.intCast_add]
   have:(a:Rat)*iuQ*(e*iuQ*(i*iuQ)-f*iuQ*(h*iuQ))-b*iuQ*(d*iuQ*(i*iuQ)-f*iuQ*(g*iuQ))+c*iuQ*(d*iuQ*(h*iuQ)-e*iuQ*(g*iuQ))=((a:Rat)*(e*i-f*h)-b*(d*i-f*g)+c*(d*h-e*g))*(iuQ*iuQ*iuQ):=by grind
   rw [this,q]
   grind
def cofI (n:Nat) (v:Nat→Nat→Int) (i j:Nat):Int:=if (i+j)%2=1 then -(detZ (n-1) (fun r c=>v (skipN j r) (skipN i c))) else detZ (n-1) (fun r c=>v (skipN j r) (skipN i c))
theorem quo_1 {z D C:Rat} (h:z*(D*iuQ)=C):z*D=C*((unitN:Int):Rat):=by
 have io:=iuQ_one
 generalize ((unitN:Int):Rat)=u at *
 generalize iuQ=p at *
 have e:z*D=z*(D*p)*u:=by
   have:z*(D*p)*u=z*D*(u*p):=by grind
   rw [this,io];grind
 rw [e,h]
theorem quo_2 {z D C:Rat} (h:z*(D*(iuQ*iuQ))=C*iuQ):z*D=C*((unitN:Int):Rat):=by
 refine quo_1 ?_
 have io:=iuQ_one
 generalize ((unitN:Int):Rat)=u at *
 generalize iuQ=p at *
 have e:z*(D*p)=z*(D*(p*p))*u:=by
   have:z*(D*(p*p))*u=z*(D*p)*(u*p):=by grind
   rw [this,io];grind
 rw [e,h]
 have:C*p*u=C*(u*p):=by grind
 rw [this,io];grind
theorem quo_3 {z D C:Rat} (h:z*(D*(iuQ*iuQ*iuQ))=C*(iuQ*iuQ)):z*D=C*((unitN:Int):Rat):=by
 refine quo_2 ?_
 have io:=iuQ_one
 generalize ((unitN:Int):Rat)=u at *
 generalize iuQ=p at *
 have e:z*(D*(p*p))=z*(D*(p*p*p))*u:=by
   have:z*(D*(p*p*p))*u=z*(D*(p*p))*(u*p):=by grind
   rw [this,io];grind
 rw [e,h]
 have:C*(p*p)*u=C*p*(u*p):=by grind
 rw [this,io];grind
theorem quot_rel {n:Nat} {X:Nat→Nat→Nat} {Z:Nat→Nat→Rat} (h:InvOf n X Z) (n1:1≤n) (n3:n≤3) {i j:Nat} (hi:i<n) (hj:j<n):Z i j*((detZ n (fun r c=>V (key (X r c))):Int):Rat)=((cofI n (fun r c=>V (key (X r c))) i j:Int):Rat)*((unitN:Int):Rat):=by
 have g:=h.g
 have n123:n=1∨n=2∨n=3:=by omega
 rcases n123 with rfl | rfl | rfl
 · obtain rfl:i=0:=by omega
   obtain rfl:j=0:=by omega
   have e:=cof_1 g
   refine quo_1 ?_
   simp [detZ,detS,cofI]
   simpa [vq] using e
 · have two:∀r,r<2→r=0∨r=1:=by omega
   obtain⟨e0,e1⟩:=cof_2 g j hj
   clear g h
   unfold det2Q vq oneQ at e0 e1
   dsimp only at e0 e1
   refine quo_2 ?_
   rcases two i hi with rfl | rfl <;> rcases two j hj with rfl | rfl <;> simp [detZ,detS,cofI,skipN] at e0 e1 ⊢ <;> clear n1 n3 hi hj two <;>
   (generalize ((V (key (X 0 0)):Int):Rat)=a at *;generalize ((V (key (X 0 1)):Int):Rat)=b at *;generalize ((V (key (X 1 0)):Int):Rat)=c at *;generalize ((V (key (X 1 1)):Int):Rat)=d at *;generalize iuQ=p at *;grind)
 · have tri:∀r,r<3→r=0∨r=1∨r=2:=by omega
   obtain⟨e0,e1,e2⟩:=cof_3 g j hj
   clear g h
   unfold det3Q vq oneQ at e0 e1 e2
   dsimp only at e0 e1 e2
   refine quo_3 ?_
   rcases tri i hi with rfl | rfl | rfl <;> rcases tri j hj with rfl | rfl | rfl <;> simp [detZ,detS,cofI,skipN] at e0 e1 e2 ⊢ <;> clear n1 n3 hi hj tri <;>
   (generalize ((V (key (X 0 0)):Int):Rat)=a at *;generalize ((V (key (X 0 1)):Int):Rat)=b at *;generalize ((V (key (X 0 2)):Int):Rat)=c at *;generalize ((V (key (X 1 0)):Int):Rat)=d at *;generalize ((V (key (X 1 1)):Int):Rat)=f at *;generalize ((V (key (X 1 2)):Int):Rat)=g at *;generalize ((V (key (X 2 0)):Int):Rat)=h at *;generalize ((V (key (X 2 1)):Int):Rat)=k at *;generalize ((V (key (X 2 2)):Int):Rat)=l at *;generalize iuQ=p at *;first | (clear e1 e2;grind) | (clear e0 e2;grind) | (clear e0 e1;grind))
end Go.Proofs.YtlabmpngbcnhpaaGreat
