/- The walks of the reference's Hull, Meet, Neg, ends, Add and Sub: they answer as the program's; IvalSums' walk. -/
import Derived.Test.YtopfabemfbdccaaGreatZk17
import Derived.Test.YtopfabemfbdccaaGreatZk19
namespace Go.Proofs.YtopfabemfbdccaaGreat
open Go.ChangeShapes Go.WideShapes Go.ChangeAt Go.RowKit
theorem enter2 (w:World) (a b c d:Value) (T:TypeId):Has2 (((w.alloc (.cells #[a,b] T)).alloc (.cells #[c,d] T)).alloc (.cells #[.float .f64 0,.float .f64 0] T)) w.heap.size a b/\Has2 (((w.alloc (.cells #[a,b] T)).alloc (.cells #[c,d] T)).alloc (.cells #[.float .f64 0,.float .f64 0] T)) (w.heap.size+1) c d /\
  Has2 (((w.alloc (.cells #[a,b] T)).alloc (.cells #[c,d] T)).alloc (.cells #[.float .f64 0,.float .f64 0] T)) (w.heap.size+1+1) (.float .f64 0) (.float .f64 0)/\Below w.heap.size w (((w.alloc (.cells #[a,b] T)).alloc (.cells #[c,d] T)).alloc (.cells #[.float .f64 0,.float .f64 0] T)) :=
 ⟨⟨by go_simp,by go_simp,by go_simp,by go_simp,by go_size⟩,⟨by go_simp,by go_simp,by go_simp,by go_simp,by go_size⟩,⟨by go_simp,by go_simp,by go_simp,by go_simp,by go_size⟩,by go_grown⟩
theorem enter1 (w:World) (a b:Value) (T:TypeId):Has2 ((w.alloc (.cells #[a,b] T)).alloc (.cells #[.float .f64 0,.float .f64 0] T)) w.heap.size a b /\
  Has2 ((w.alloc (.cells #[a,b] T)).alloc (.cells #[.float .f64 0,.float .f64 0] T)) (w.heap.size+1) (.float .f64 0) (.float .f64 0)/\Below w.heap.size w ((w.alloc (.cells #[a,b] T)).alloc (.cells #[.float .f64 0,.float .f64 0] T)) :=
 ⟨⟨by go_simp,by go_simp,by go_simp,by go_simp,by go_size⟩,⟨by go_simp,by go_simp,by go_simp,by go_simp,by go_size⟩,by go_grown⟩
theorem pz_zminus {b:Nat} (hb:b<18446744073709551616):pz (zminus b)=pz (negB b):=by
 unfold zminus
 cases hz:isZ b
 ·simp only [Bool.false_eq_true,if_false]
 ·simp only [if_true]
  have h0:b%9223372036854775808=0:=by unfold isZ at hz;simpa using hz
  unfold pz negB
  split <;> split <;> split <;> omega
theorem zminus_lt {b:Nat} (hb:b<18446744073709551616):zminus b<18446744073709551616:=by
 unfold zminus
 have:=negB_lt hb
 split <;> omega
def addP (xl xh yl yh:Nat):Nat×Nat:=if hsB xl xh&&hsB yl yh then ((addR xl yl (-1)).getD 0,(addR xh yh 1).getD 0) else (infI 1,infI (-1))
theorem addP_lt {xl xh yl yh:Nat} (h1:xl<18446744073709551616) (h2:xh<18446744073709551616) (h3:yl<18446744073709551616) (h4:yh<18446744073709551616):(addP xl xh yl yh).1<18446744073709551616/\(addP xl xh yl yh).2<18446744073709551616:=by
 unfold addP
 have e1:=infI_lt 1
 have e2:=infI_lt (-1)
 cases hx:hsB xl xh <;> cases hy:hsB yl yh
 ·rw [if_neg (by simp)];exact⟨e1,e2⟩
 ·rw [if_neg (by simp)];exact⟨e1,e2⟩
 ·rw [if_neg (by simp)];exact⟨e1,e2⟩
 ·rw [if_pos (by simp)]
  obtain⟨l,u,e1,e2, -,e3,e4⟩:=add_some h1 h2 h3 h4 (hs_iff.1 hx) (hs_iff.1 hy)
  rw [e1,e2]
  exact⟨e3,e4⟩
theorem negP_lt {lo hi:Nat} (hl:lo<18446744073709551616) (hh:hi<18446744073709551616):(negP (lo,hi)).1<18446744073709551616/\(negP (lo,hi)).2<18446744073709551616:=by
 have e1:=infI_lt 1
 have e2:=infI_lt (-1)
 unfold negP mirrorP emptyP
 cases hsB lo hi
 ·rw [if_neg (by simp)];exact⟨e1,e2⟩
 ·rw [if_pos rfl];exact makeP_lt (negB_lt hh) (negB_lt hl)
theorem Add_w (xl xh yl yh:Nat) (h1:xl<18446744073709551616) (h2:xh<18446744073709551616) (h3:yl<18446744073709551616) (h4:yh<18446744073709551616) (w:World) :
  Calls Tryz.prog 61 #[.agg #[.float .f64 xl,.float .f64 xh],.agg #[.float .f64 yl,.float .f64 yh]] w fun e w'=>e=.returned (.agg #[.float .f64 (addP xl xh yl yh).1,.float .f64 (addP xl xh yl yh).2])/\Below w.heap.size w w':=by
 unfold addP
 cases hs:hsB xl xh&&hsB yl yh
 ·exact add_none xl xh yl yh h1 h2 h3 h4 hs w
 ·obtain⟨hx,hy⟩:=Bool.and_eq_true_iff.1 hs
  obtain⟨l,u,e1,e2, -,e3,e4⟩:=add_some h1 h2 h3 h4 (hs_iff.1 hx) (hs_iff.1 hy)
  refine (add_i xl xh yl yh h1 h2 h3 h4 _ _ (fun w=>add_w xl yl (-1) h1 h3 w) (fun w=>add_w xh yh 1 h2 h4 w) hs w).mono ?_
  rintro _ _ ⟨⟨r1,r2,rfl,t1,t2⟩,hb⟩
  rw [e1] at t1
  rw [e2] at t2
  rw [e1,e2]
  obtain rfl:r1=l:=t1.2
  obtain rfl:r2=u:=t2.2
  exact⟨rfl,hb⟩
theorem Sub_w (xl xh yl yh:Nat) (h1:xl<18446744073709551616) (h2:xh<18446744073709551616) (h3:yl<18446744073709551616) (h4:yh<18446744073709551616) (w:World) :
  Calls Tryz.prog 56 #[.agg #[.float .f64 xl,.float .f64 xh],.agg #[.float .f64 yl,.float .f64 yh]] w fun e w'=>e=.returned (.agg #[.float .f64 (addP xl xh (negP (yl,yh)).1 (negP (yl,yh)).2).1,.float .f64 (addP xl xh (negP (yl,yh)).1 (negP (yl,yh)).2).2])/\Below w.heap.size w w':=by
 have n:=negP_lt h3 h4
 have a:=addP_lt h1 h2 n.1 n.2
 have h:=sub_i xl xh yl yh (negP (yl,yh)).1 (negP (yl,yh)).2 (some (addP xl xh (negP (yl,yh)).1 (negP (yl,yh)).2).1) (some (addP xl xh (negP (yl,yh)).1 (negP (yl,yh)).2).2) (fun w=>neg_w yl yh h3 h4 w)
  (fun w=>(Add_w xl xh _ _ h1 h2 n.1 n.2 w).mono fun _ _ ⟨e,b⟩=>⟨⟨_,_,e,⟨a.1,rfl⟩,⟨a.2,rfl⟩⟩,b⟩) w
 refine h.mono ?_
 rintro _ _ ⟨⟨r1,r2,rfl,t1,t2⟩,hb⟩
 have e1:r1=(addP xl xh (negP (yl,yh)).1 (negP (yl,yh)).2).1:=t1.2
 have e2:r2=(addP xl xh (negP (yl,yh)).1 (negP (yl,yh)).2).2:=t2.2
 rw [e1,e2]
 exact⟨rfl,hb⟩
end Go.Proofs.YtopfabemfbdccaaGreat
