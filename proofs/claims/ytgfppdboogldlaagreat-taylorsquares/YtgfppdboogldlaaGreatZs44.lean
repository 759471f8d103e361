/- The reference's determinant: its parts. -/
import Derived.Test.YtgfppdboogldlaaGreatZs32
import Derived.Test.YtgfppdboogldlaaGreatZs16
import Derived.Test.YtgfppdboogldlaaGreatZs43
import Derived.Test.YtgfppdboogldlaaGreatZs42
import Derived.Test.YtgfppdboogldlaaGreatZs17
namespace Go.Proofs.YtgfppdboogldlaaGreat
open Go.ChangeShapes Go.WideShapes Go.ChangeAt Go.RowKit
set_option maxHeartbeats 1000000 in
theorem minus_z {S T:Int} {K:Nat} {w:World} {x:Value} {z:Int} (h:NumZ S T K w x z) :
   Calls Tryz.prog 26 #[x] w fun r w'=>(∃v,r=.returned v∧NumZ S T K w' v (-z))∧Below w.heap.size w w':=by
 obtain⟨g,v,m,e,rfl,a2,hm,hS,hT,hz⟩:=h
 obtain⟨ao,l,ca,rfl,hl⟩:=a2.shape
 have X:Has3 (w.alloc (.cells #[.bool g,.slice ao l ca,.int .i64 e] 40)) w.heap.size (.bool g) (.slice ao l ca) (.int .i64 e):=⟨by go_simp,by go_simp,by go_simp,by go_simp,by go_simp,by go_simp,by go_size⟩
 have fin:∀w',BigIs w' (.slice ao l ca) m→NumZ S T K w' (.agg #[.bool (!g&&decide (0<l)),.slice ao l ca,.int .i64 e]) (-z):=fun w' hw=>by
   refine⟨_,_,m,e,rfl,hw,hm,hS,hT, ?_⟩
   rw [←hz]
   by_cases c:m=0
   · have:l=0:=hl.2 c
     subst c this
     simp [sgnd]
   · have:l≠0:=fun q=>c (hl.1 q)
     rw [decide_eq_true (show 0<l by omega)]
     cases g <;> simp [sgnd]
 have HB:Below w.heap.size w (w.alloc (.cells #[.bool g,.slice ao l ca,.int .i64 e] 40)):=by go_grown
 clear hl hm hS hT hz
 obtain⟨x0,x1,x2,x3,x4,x5,xl⟩:=id X
 cases g
 all_goals
   go_enter Tryz.func26,Tryz.ntmps26
   go_wp2_with fail
 · refine bodyPost_ret (v:=.agg #[.bool (decide (0<l)),.slice ao l ca,.int .i64 e]) (by simp [results,Tryz.results26,go_sem, *]) rfl ⟨⟨_,rfl,fin _ (a2.keep (by go_grown))⟩,by go_grown⟩
 · refine bodyPost_ret (v:=.agg #[.bool false,.slice ao l ca,.int .i64 e]) (by simp [results,Tryz.results26,go_sem, *]) rfl ⟨⟨_,rfl,fin _ (a2.keep (by go_grown))⟩,by go_grown⟩
theorem grewQ (w:World) (o:Obj):Below w.heap.size w (w.alloc o):=by go_grown
theorem h3_newQ (w:World) (x y z:Value) (T:TypeId):Has3 (w.alloc (.cells #[x,y,z] T)) w.heap.size x y z:=⟨by go_simp,by go_simp,by go_simp,by go_simp,by go_simp,by go_simp,by go_size⟩
abbrev set3 (w:World) (b:Nat) (x y z:Value):World:=((w.setCell ⟨b,0,none⟩ x).setCell ⟨b,1,none⟩ y).setCell ⟨b,2,none⟩ z
theorem NumZ.put3 {S T:Int} {K:Nat} {w:World} {x:Value} {z:Int} (h:NumZ S T K w x z) {b:Nat} (hb:Boxed w b) (u0 u1 u2:Value):NumZ S T K (set3 w b u0 u1 u2) x z:=by
 obtain⟨g,v,m,e,h1,h2,h3⟩:=h
 exact⟨g,v,m,e,h1,((h2.put hb 0 _).put (hb.set _ 0 _) 1 _).put ((hb.set _ 0 _).set _ 1 _) 2 _,h3⟩
theorem Boxed.set3 {w:World} {b:Nat} (h:Boxed w b) (c:Nat) (x y z:Value):Boxed (set3 w c x y z) b:=((h.set c 0 x).set c 1 y).set c 2 z
theorem Has3.set3 {w:World} {b:Nat} {x y z:Value} (h:Has3 w b x y z) (x' y' z':Value):Has3 (set3 w b x' y' z') b x' y' z':=Has3.put h x' y' z'
theorem Has3.far4 {w:World} {b c:Nat} {x y z:Value} (h:Has3 w b x y z) (hne:c≠b) (x' y' z':Value):Has3 (Go.Proofs.YtgfppdboogldlaaGreat.set3 w c x' y' z') b x y z:=Has3.far h hne x' y' z'
theorem below_set3 {B:Nat} {w0 w:World} (h:Below B w0 w) {b:Nat} (hb:B≤b) (x y z:Value):Below B w0 (set3 w b x y z):=((h.setCell (p:=⟨b,0,none⟩) hb _).setCell (p:=⟨b,1,none⟩) hb _).setCell (p:=⟨b,2,none⟩) hb _
end Go.Proofs.YtgfppdboogldlaaGreat
