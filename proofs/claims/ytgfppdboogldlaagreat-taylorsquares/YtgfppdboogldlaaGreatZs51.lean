/- Coefs of the two tapes. -/
import Derived.Test.YtgfppdboogldlaaGreatZs50
namespace Go.Proofs.YtgfppdboogldlaaGreat
open Go.ChangeShapes Go.WideShapes Go.ChangeAt Go.RowKit
theorem sqX_zero (x:Nat×Nat):sqX x 0=x:=rfl
theorem exX_zero (x:Nat×Nat):exX x 0=x:=rfl
def sqVV (x:Nat×Nat) (j k:Nat):Nat×Nat:=if j=0 then sqX x k else sqS x k
theorem sqVV_0 (x:Nat×Nat) (k:Nat):sqVV x 0 k=sqX x k:=by unfold sqVV;rw [if_pos rfl]
theorem sqVV_1 (x:Nat×Nat) (k:Nat):sqVV x 1 k=sqS x k:=by unfold sqVV;rw [if_neg (by omega)]
def wq (k:Nat):Nat×Nat:=wholeQ ((k:Int)+1)
theorem cks (k:Nat):∀w,Calls Tryz.prog 98 #[.float .f64 (floatOfInt .f64 ((k:Int)+1))] w fun e w'=>e=.returned (.agg #[.float .f64 (wq k).1,.float .f64 (wq k).2])∧Below w.heap.size w w':=by
 intro W
 have c:=cPoint (foi_lt ((k:Int)+1)) W
 have e:wq k=ptQ (floatOfInt .f64 ((k:Int)+1)):=by unfold wq wholeQ;rfl
 rw [e]
 exact c
theorem wq_is (k:Nat):wholeQ ((k:Int)+1)=wq k:=by unfold wq;rfl
theorem wq_W2 (k:Nat):W2 (wq k):=by rw [←wq_is];exact wholeQ_W2 _
def exVV (x:Nat×Nat) (_ k:Nat):Nat×Nat:=exX x k
theorem exVV_0 (x:Nat×Nat) (j k:Nat):exVV x j k=exX x k:=by unfold exVV;rfl
theorem exX_succ (x:Nat×Nat) (k:Nat):exX x (k+1)=divQ (exX x k) (wq k):=by rw [←wq_is];rfl
theorem sq_right:rightT 1 2 Zsq 1 (fun _=>((1:Nat):Int))=true:=by decide +kernel
theorem ex_right:rightT 1 1 Zid 1 (fun _=>((0:Nat):Int))=true:=by decide +kernel
theorem zsq_k (j:Nat) (hj:j<2):(Zsq j).k=2∨(Zsq j).k=5:=by
 have:j=0∨j=1:=by omega
 rcases this with rfl | rfl
 · exact Or.inl rfl
 · exact Or.inr rfl
theorem zsq_op (x:Nat×Nat) (k j:Nat) (hj:j<2):SqOp Zsq (sqX x) (sqVV x) k j:=by
 have:j=0∨j=1:=by omega
 rcases this with rfl | rfl
 · exact Or.inl ⟨rfl,rfl,sqVV_0 x k⟩
 · refine Or.inr ⟨rfl,0,0,by omega,by omega,rfl,rfl, ?_⟩
   rw [sqVV_1]
   unfold sqS
   exact sumT_congr fun i _=>by rw [sqVV_0,sqVV_0]
theorem sqVV_W2 {x:Nat×Nat} (hx:W2 x) (j k:Nat):W2 (sqVV x j k):=sqV_W2 hx j k
theorem sqVV_end {x:Nat×Nat} {v:Rat} (h:HI x v (bN 1 4)) {k:Nat} (hk:k<13) (j:Nat):endB (sqVV x j k)=false:=sq_end h hk j
theorem sq_div {x:Nat×Nat} (hx:W2 x) (k:Nat):∀w,Calls Tryz.prog 142 #[.agg #[.float .f64 (sqVV x 1 k).1,.float .f64 (sqVV x 1 k).2],.agg #[.float .f64 (wq k).1,.float .f64 (wq k).2]] w fun e w'=>e=.returned (.agg #[.float .f64 (sqX x (k+1)).1,.float .f64 (sqX x (k+1)).2])∧Below w.heap.size w w':=by
 intro W
 have c:=cDiv (sqVV_W2 hx 1 k) (wq_W2 k) W
 rw [sqX_succ,←sqVV_1,wq_is]
 exact c
theorem ex_div {x:Nat×Nat} (hx:W2 x) (k:Nat):∀w,Calls Tryz.prog 142 #[.agg #[.float .f64 (exVV x 0 k).1,.float .f64 (exVV x 0 k).2],.agg #[.float .f64 (wq k).1,.float .f64 (wq k).2]] w fun e w'=>e=.returned (.agg #[.float .f64 (exX x (k+1)).1,.float .f64 (exX x (k+1)).2])∧Below w.heap.size w w':=by
 intro W
 have c:=cDiv (exX_W2 hx k) (wq_W2 k) W
 rw [exX_succ,exVV_0]
 exact c
theorem zid_op (x:Nat×Nat) (k j:Nat):SqOp Zid (exX x) (exVV x) k j:=Or.inl ⟨rfl,rfl,exVV_0 x j k⟩
theorem exVV_W2 {x:Nat×Nat} (hx:W2 x) (j k:Nat):W2 (exVV x j k):=by rw [exVV_0];exact exX_W2 hx k
theorem exVV_end {x:Nat×Nat} {v:Rat} (h:HI x v (bN 1 4)) {k:Nat} (hk:k<13) (j:Nat):endB (exVV x j k)=false:=by rw [exVV_0];exact ex_end h hk
theorem coefs_sq {W:World} {q:Nat} {x:Nat×Nat} {r:Rat} (L:Lay W q x) (h:HI x r (bN 1 4)) (order:Nat) (ho:order≤12) :
   Calls Tryz.prog 9 #[tapeV 1 (some ⟨q+1,0,none⟩) 2 2 (some ⟨q+1+1,0,none⟩) 1 1,.slice (some ⟨q,0,none⟩) 1 1,.int .i64 (order:Int)] W fun e w'=>(∃A C RA RC,e=.returned (.tuple #[.slice A (order+1) C,.int .i64 0])∧Rws w' A (order+1) RA (fun _=>1) RC (fun r _=>sqX x r))∧Below W.heap.size W w':=by
 have I:Ivs W (some ⟨q,0,none⟩) 1 (fun _=>sqX x 0):=by rw [sqX_zero];exact L.I
 have h0:hsB (sqX x 0).1 (sqX x 0).2=true:=by rw [sqX_zero];exact hs_iff.2 h.h.S
 have h1:endB (sqX x 0)=false:=by have:=sqVV_end h (k:=0) (by omega) 0;rw [sqVV_0] at this;exact this
 have lo:q+1+1<W.heap.size:=by have:=L.lt;omega
 exact tcoefs_w 2 (by omega) (q+1) 0 2 (q+1+1) 0 1 q 0 1 1 order (by omega) (by omega) Zsq (sqX x) wq (sqVV x) W I zsq_k (fun k _ j hj=>zsq_op x k j hj) (fun i k=>sqVV_W2 h.w i k) (fun k=>sqX_W2 h.w k) (fun k hk j _=>sqVV_end h (by omega) j) (fun k _=>cks k) (fun k _=>sq_div h.w k) sq_right h0 h1 L.O1 L.D1 lo L.c1
theorem coefs_ex {W:World} {q:Nat} {x:Nat×Nat} {r:Rat} (L:Lay W q x) (h:HI x r (bN 1 4)) (order:Nat) (ho:order≤12) :
   Calls Tryz.prog 9 #[tapeV 1 (some ⟨q+1+1+1+1,0,none⟩) 1 1 (some ⟨q+1+1+1+1+1,0,none⟩) 1 1,.slice (some ⟨q,0,none⟩) 1 1,.int .i64 (order:Int)] W fun e w'=>(∃A C RA RC,e=.returned (.tuple #[.slice A (order+1) C,.int .i64 0])∧Rws w' A (order+1) RA (fun _=>1) RC (fun r _=>exX x r))∧Below W.heap.size W w':=by
 have I:Ivs W (some ⟨q,0,none⟩) 1 (fun _=>exX x 0):=by rw [exX_zero];exact L.I
 have h0:hsB (exX x 0).1 (exX x 0).2=true:=by rw [exX_zero];exact hs_iff.2 h.h.S
 have h1:endB (exX x 0)=false:=ex_end h (k:=0) (by omega)
 have lo:q+1+1+1+1+1<W.heap.size:=by have:=L.lt;omega
 exact tcoefs_w 1 (by omega) (q+1+1+1+1) 0 1 (q+1+1+1+1+1) 0 1 q 0 1 0 order (by omega) (by omega) Zid (exX x) wq (exVV x) W I (fun j _=>Or.inl rfl) (fun k _ j _=>zid_op x k j) (fun i k=>exVV_W2 h.w i k) (fun k=>exX_W2 h.w k) (fun k hk j _=>exVV_end h (by omega) j) (fun k _=>cks k) (fun k _=>ex_div h.w k) ex_right h0 h1 L.O2 L.D2 lo L.c2
end Go.Proofs.YtgfppdboogldlaaGreat
