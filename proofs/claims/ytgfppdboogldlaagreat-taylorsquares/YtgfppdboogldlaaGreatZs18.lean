/- taylor: what it counts with: plain intervals, by an interface's methods. Functions beyond roots, as total functions of words: whole numbers cut off a float. -/
import Derived.Test.YtgfppdboogldlaaGreatZs16
import Derived.Test.YtgfppdboogldlaaGreatZs17
import Derived.Test.YtgfppdboogldlaaGreatZs11
import Derived.Laws.FloatArith
namespace Go.Proofs.YtgfppdboogldlaaGreat
open Go.ChangeShapes Go.WideShapes Go.ChangeAt Go.RowKit
@[go_sem] theorem inv_steady (w:World):(method 289 58 (.agg #[]) "orrery/taylor.steady").run Tryz.prog w=.ok (138,.agg #[]) w:=by kernel_rfl
@[go_sem] theorem inv_add (w:World):(method 289 58 (.agg #[]) "orrery/taylor.add").run Tryz.prog w=.ok (132,.agg #[]) w:=by kernel_rfl
@[go_sem] theorem inv_mul (w:World):(method 289 58 (.agg #[]) "orrery/taylor.mul").run Tryz.prog w=.ok (136,.agg #[]) w:=by kernel_rfl
@[go_sem] theorem inv_div (w:World):(method 289 58 (.agg #[]) "orrery/taylor.div").run Tryz.prog w=.ok (133,.agg #[]) w:=by kernel_rfl
@[go_sem] theorem inv_isBounded (w:World):(method 289 58 (.agg #[]) "orrery/taylor.isBounded").run Tryz.prog w=.ok (135,.agg #[]) w:=by kernel_rfl
def WithPl (w:World) (b:Nat):Prop:=w.cell? ⟨b,0,none⟩=some (.iface 58 (.agg #[]))∧b<w.heap.size
theorem WithPl.keep {w W:World} {b:Nat} (h:WithPl w b) (k:Below w.heap.size w W):WithPl W b:=⟨keepsC k h.1 h.2,Nat.lt_of_lt_of_le h.2 k.size⟩
theorem WithPl.far {w:World} {b c o:Nat} (h:WithPl w b) (hne:c≠b) (v:Value):WithPl (w.setCell ⟨c,o,none⟩ v) b:=⟨(World.cell?_setCell_far w ⟨c,o,none⟩ ⟨b,0,none⟩ v hne).trans h.1,by rw [World.size_setCell];exact h.2⟩
theorem padd_w (p q r:Nat×Nat) (c:∀w,Calls Tryz.prog 141 #[.agg #[.float .f64 p.1,.float .f64 p.2],.agg #[.float .f64 q.1,.float .f64 q.2]] w fun e w'=>e=.returned (.agg #[.float .f64 r.1,.float .f64 r.2])∧Below w.heap.size w w') (w:World) :
   Calls Tryz.prog 132 #[.agg #[],.agg #[.float .f64 p.1,.float .f64 p.2],.agg #[.float .f64 q.1,.float .f64 q.2]] w fun e w'=>e=.returned (.agg #[.float .f64 r.1,.float .f64 r.2])∧Below w.heap.size w w':=by
 go_enter Tryz.func132,Tryz.ntmps132
 go_wp2_with (go_at_call 141;(with_reducible refine (c _).mono ?_);rintro _ w1 ⟨rfl,hb1⟩
              have k1:Has2 w1 (w.heap.size+3) (.float .f64 0) (.float .f64 0):=Has2.keep ⟨by go_simp,by go_simp,by go_simp,by go_simp,by go_size⟩ hb1
              obtain⟨a0,a1,a2,a3,a4⟩:=k1)
 refine bodyPost_ret (v:=.agg #[.float .f64 r.1,.float .f64 r.2]) (by simp [results,Tryz.results132,go_sem, *]) rfl ⟨rfl, ?_⟩
 have t:Below w.heap.size w w1:=later (by go_grown) hb1
 repeat' (first | (with_reducible exact t) | (with_reducible refine Below.setCell ?_ ?_ _) | go_size)
theorem pmul_w (p q r:Nat×Nat) (c:∀w,Calls Tryz.prog 149 #[.agg #[.float .f64 p.1,.float .f64 p.2],.agg #[.float .f64 q.1,.float .f64 q.2]] w fun e w'=>e=.returned (.agg #[.float .f64 r.1,.float .f64 r.2])∧Below w.heap.size w w') (w:World) :
   Calls Tryz.prog 136 #[.agg #[],.agg #[.float .f64 p.1,.float .f64 p.2],.agg #[.float .f64 q.1,.float .f64 q.2]] w fun e w'=>e=.returned (.agg #[.float .f64 r.1,.float .f64 r.2])∧Below w.heap.size w w':=by
 go_enter Tryz.func136,Tryz.ntmps136
 go_wp2_with (go_at_call 149;(with_reducible refine (c _).mono ?_);rintro _ w1 ⟨rfl,hb1⟩
              have k1:Has2 w1 (w.heap.size+3) (.float .f64 0) (.float .f64 0):=Has2.keep ⟨by go_simp,by go_simp,by go_simp,by go_simp,by go_size⟩ hb1
              obtain⟨a0,a1,a2,a3,a4⟩:=k1)
 refine bodyPost_ret (v:=.agg #[.float .f64 r.1,.float .f64 r.2]) (by simp [results,Tryz.results136,go_sem, *]) rfl ⟨rfl, ?_⟩
 have t:Below w.heap.size w w1:=later (by go_grown) hb1
 repeat' (first | (with_reducible exact t) | (with_reducible refine Below.setCell ?_ ?_ _) | go_size)
theorem pdiv_w (p q r:Nat×Nat) (c:∀w,Calls Tryz.prog 142 #[.agg #[.float .f64 p.1,.float .f64 p.2],.agg #[.float .f64 q.1,.float .f64 q.2]] w fun e w'=>e=.returned (.agg #[.float .f64 r.1,.float .f64 r.2])∧Below w.heap.size w w') (w:World) :
   Calls Tryz.prog 133 #[.agg #[],.agg #[.float .f64 p.1,.float .f64 p.2],.agg #[.float .f64 q.1,.float .f64 q.2]] w fun e w'=>e=.returned (.agg #[.float .f64 r.1,.float .f64 r.2])∧Below w.heap.size w w':=by
 go_enter Tryz.func133,Tryz.ntmps133
 go_wp2_with (go_at_call 142;(with_reducible refine (c _).mono ?_);rintro _ w1 ⟨rfl,hb1⟩
              have k1:Has2 w1 (w.heap.size+3) (.float .f64 0) (.float .f64 0):=Has2.keep ⟨by go_simp,by go_simp,by go_simp,by go_simp,by go_size⟩ hb1
              obtain⟨a0,a1,a2,a3,a4⟩:=k1)
 refine bodyPost_ret (v:=.agg #[.float .f64 r.1,.float .f64 r.2]) (by simp [results,Tryz.results133,go_sem, *]) rfl ⟨rfl, ?_⟩
 have t:Below w.heap.size w w1:=later (by go_grown) hb1
 repeat' (first | (with_reducible exact t) | (with_reducible refine Below.setCell ?_ ?_ _) | go_size)
theorem psteady_w (p:Nat×Nat) (w:World) :
   Calls Tryz.prog 138 #[.agg #[],.agg #[.float .f64 p.1,.float .f64 p.2]] w fun e w'=>e=.returned (.agg #[.float .f64 p.1,.float .f64 p.2])∧Below w.heap.size w w':=by
 go_enter Tryz.func138,Tryz.ntmps138
 go_wp2_with fail
 refine bodyPost_ret (v:=.agg #[.float .f64 p.1,.float .f64 p.2]) (by simp [results,Tryz.results138,go_sem, *]) rfl ⟨rfl, ?_⟩
 go_grown
theorem twhole_w (k:Int) (P:Nat×Nat) (cp:∀w,Calls Tryz.prog 98 #[.float .f64 (floatOfInt .f64 k)] w fun e w'=>e=.returned (.agg #[.float .f64 P.1,.float .f64 P.2])∧Below w.heap.size w w') (b:Nat) (w:World) (U:WithPl w b) :
   Calls Tryz.prog 79 #[.pointer (some ⟨b,0,none⟩),.int .i64 k] w fun e w'=>e=.returned (.agg #[.float .f64 P.1,.float .f64 P.2])∧Below w.heap.size w w':=by
 have cs:=fun W=>psteady_w P W
 obtain⟨u0,ul⟩:=U
 have HB:Below w.heap.size w (w.alloc (.cells #[.float .f64 0,.float .f64 0] 43)):=by go_grown
 have R:Has2 (w.alloc (.cells #[.float .f64 0,.float .f64 0] 43)) w.heap.size (.float .f64 0) (.float .f64 0):=⟨by go_simp,by go_simp,by go_simp,by go_simp,by go_size⟩
 replace u0:=keepsC HB u0 ul
 replace ul:=Nat.lt_of_lt_of_le ul HB.size
 go_enter Tryz.func79,Tryz.ntmps79
 go_upto_region 1 with fail
 generalize (w.alloc (.cells #[.float .f64 0,.float .f64 0] 43))=V1 at *
 have ku:=fun n:Behind V1=>n.cell u0 ul
 refine tail_behind 10 (by kernel_rfl) (by kernel_rfl) ?_
 simp only [List.take_succ_cons,List.take_zero,List.drop_succ_cons,List.drop_zero]
 repeat (go_big_quiet_step (first | (go_at_call 98;with_reducible refine Behind.call (cp _)) | (go_at_call 138;with_reducible refine Behind.call (cs _))))
 refine wpQuiet_nil ?_
 rintro _ ⟨m',rfl⟩
 obtain⟨W,hb1⟩:=m'
 dsimp only
 replace R:=R.keep hb1
 replace HB:=later HB hb1
 obtain⟨a0,a1,a2,a3,a4⟩:=id R
 go_wp2_with fail
 refine bodyPost_ret (v:=.agg #[.float .f64 P.1,.float .f64 P.2]) (by simp [results,Tryz.results79,go_sem, *]) rfl ⟨rfl, ?_⟩
 repeat' (first | (with_reducible exact HB) | (with_reducible refine Below.setCell ?_ ?_ _) | go_size)
theorem foi_lt (n:Int):floatOfInt .f64 n<18446744073709551616:=by
 have e:floatOfInt .f64 n=Ieee.double.nearest (decide (n<0)) n.natAbs 0:=rfl
 rw [e]
 exact Ieee.double.nearest_lt _ _ _
end Go.Proofs.YtgfppdboogldlaaGreat
