/- Tapes: one operation of a tape, and what tape's small functions answer of it. -/
import Derived.Test.YtnnfafilgiajoaaGreatZ08
import Derived.Test.YtnnfafilgiajoaaGreatZ15
import Derived.Deep.LoopGhost
namespace Go.Proofs.YtnnfafilgiajoaaGreat
open Go.ChangeShapes Go.WideShapes Go.ChangeAt Go.RowKit
structure Opw where
 k:Int
 a:Int
 b:Int
 n:Int
 lo:Nat
 hi:Nat
def Opw.val (o:Opw):Value:=.agg #[.int .i64 o.k,.int .i64 o.a,.int .i64 o.b,.int .i64 o.n,.float .f64 o.lo,.float .f64 o.hi]
def arI (k:Int):Int:=if k=1∨k=2 then 0 else if 3≤k∧k≤6 then 2 else 1
theorem ar_cases (k:Int):(k=1∧arI k=0)∨(k=2∧arI k=0)∨(k=3∧arI k=2)∨(k=4∧arI k=2)∨(k=5∧arI k=2)∨(k=6∧arI k=2)∨(k≠1∧k≠2∧k≠3∧k≠4∧k≠5∧k≠6∧arI k=1):=by
 unfold arI
 by_cases h1:k=1∨k=2
 · rw [if_pos h1];omega
 · rw [if_neg h1]
   by_cases h2:3≤k∧k≤6
   · rw [if_pos h2];omega
   · rw [if_neg h2];omega
theorem arity_w (k:Int) (w:World):Calls Tryz.prog 81 #[.int .i64 k] w fun e w'=>e=.returned (.int .i64 (arI k))∧w=w':=by
 rcases ar_cases k with ⟨rfl,e⟩ | ⟨rfl,e⟩ | ⟨rfl,e⟩ | ⟨rfl,e⟩ | ⟨rfl,e⟩ | ⟨rfl,e⟩ | ⟨h1,h2,h3,h4,h5,h6,e⟩
 all_goals
   rw [e]
   go_enter Tryz.func81,Tryz.ntmps81
   go_wp2_with fail
   go_ret
   exact⟨rfl,rfl⟩
def oneOf (n m:Int):Bool:=decide (0≤n∧n<m)
theorem oneOf_w (n m:Int) (w:World):Calls Tryz.prog 105 #[.int .i64 n,.int .i64 m] w fun e w'=>e=.returned (.bool (oneOf n m))∧w=w':=by
 by_cases h1:0≤n
 · by_cases h2:n<m
   · have e:oneOf n m=true:=decide_eq_true ⟨h1,h2⟩
     rw [e]
     go_enter Tryz.func105,Tryz.ntmps105
     go_wp2_with fail
     go_ret
     exact⟨rfl,rfl⟩
   · have e:oneOf n m=false:=decide_eq_false (by omega)
     rw [e]
     go_enter Tryz.func105,Tryz.ntmps105
     go_wp2_with fail
     go_ret
     exact⟨rfl,rfl⟩
 · have e:oneOf n m=false:=decide_eq_false (by omega)
   rw [e]
   go_enter Tryz.func105,Tryz.ntmps105
   go_wp2_with fail
   go_ret
   exact⟨rfl,rfl⟩
theorem ar_le (k:Int):0≤arI k∧arI k≤2:=by
 rcases ar_cases k with h | h | h | h | h | h | h <;> omega
set_option maxHeartbeats 400000 in
theorem operands_w (o:Opw) (w:World):Calls Tryz.prog 138 #[o.val] w fun e w'=>(∃B,w.heap.size≤B∧B<w'.heap.size∧e=.returned (.slice (some ⟨B,0,none⟩) (arI o.k).toNat 2)∧w'.cell? ⟨B,0,none⟩=some (.int .i64 o.a)∧w'.cell? ⟨B,1,none⟩=some (.int .i64 o.b))∧Below w.heap.size w w':=by
 have hr:=ar_le o.k
 have ha:=fun w=>arity_w o.k w
 have h3:arI o.k=0∨arI o.k=1∨arI o.k=2:=by omega
 unfold Opw.val
 rcases h3 with h | h | h
 all_goals
   rw [h] at ha ⊢
   clear h hr
   go_enter Tryz.func138,Tryz.ntmps138
   go_wp2_with fail
   go_region_held3 (fun w'=>w'.cell? ⟨w.heap.size,0,none⟩=some (.int .i64 o.k)∧w'.cell? ⟨w.heap.size,1,none⟩=some (.int .i64 o.a)∧w'.cell? ⟨w.heap.size,2,none⟩=some (.int .i64 o.b)) (first | go_keep | exact⟨by assumption,by assumption,by assumption⟩)
     (first
       | (go_at_call 81;refine (ha _).mono ?_;rintro _ _ ⟨rfl,rfl⟩))
   all_goals
     go_wp2
     go_ret
     exact⟨⟨w.heap.size+1,by omega,by go_size,rfl,by go_simp,by go_simp⟩,by go_grown⟩
theorem holds_eq {lo hi:Nat}:(rightB lo hi&&!(eqB lo (infI 1)&&eqB hi (infI (-1))))=hsB lo hi:=by
 unfold rightB
 cases h:hsB lo hi
 · cases eqB lo (infI 1) <;> cases eqB hi (infI (-1)) <;> rfl
 · have:eqB lo (infI 1)=false:=by
     unfold hsB at h
     simp only [Bool.and_eq_true,decide_eq_true_eq] at h
     unfold eqB
     rw [nan_inf,key_up]
     have:¬key lo=9218868437227405312:=by omega
     simp [this]
   rw [this]
   rfl
set_option maxHeartbeats 400000 in
theorem mayHold_core (lo hi:Nat) (r b1 b2:Bool) (cr:∀w,Calls Tryz.prog 68 #[.agg #[.float .f64 lo,.float .f64 hi]] w fun e w'=>e=.returned (.bool r)∧Below w.heap.size w w')
   (o1:(FloatKind.f64.format.order lo (infI 1)==some .eq)=b1) (o2:(FloatKind.f64.format.order hi (infI (-1))==some .eq)=b2) (w:World) :
   Calls Tryz.prog 50 #[.agg #[.float .f64 lo,.float .f64 hi]] w fun e w'=>e=.returned (.bool (r&&!(b1&&b2)))∧Below w.heap.size w w':=by
 cases r
 case' true=>cases b1
 case' true.true=>cases b2
 all_goals
   go_enter Tryz.func50,Tryz.ntmps50
   go_wp2_with fail
   have e0:(w.alloc (Obj.cells #[.float .f64 lo,.float .f64 hi] 40)).cell? ⟨w.heap.size,0,none⟩=some (.float .f64 lo):=by go_simp
   have e1:(w.alloc (Obj.cells #[.float .f64 lo,.float .f64 hi] 40)).cell? ⟨w.heap.size,1,none⟩=some (.float .f64 hi):=by go_simp
   have es:w.heap.size<(w.alloc (Obj.cells #[.float .f64 lo,.float .f64 hi] 40)).heap.size:=by go_size
   have eb:Below w.heap.size w (w.alloc (Obj.cells #[.float .f64 lo,.float .f64 hi] 40)):=by go_grown
   generalize w.alloc (Obj.cells #[.float .f64 lo,.float .f64 hi] 40)=wc at *
   have k0:=fun n:Behind wc=>n.cell e0 es
   have k1:=fun n:Behind wc=>n.cell e1 es
   refine region_behind (by kernel_rfl) (by kernel_rfl) ?_
   repeat (go_big_quiet_step (first | (go_at_call 68;with_reducible refine Behind.call (cr _)) | (go_at_call 69;with_reducible refine Behind.call (empty_w _))))
   refine wpQuiet_nil ?_
   rintro _ ⟨n,rfl⟩
   obtain⟨W,hb⟩:=n
   go_wp2_with fail
   go_ret
   exact⟨rfl,later eb hb⟩
theorem mayHold_w (lo hi:Nat) (hl:lo<18446744073709551616) (hh:hi<18446744073709551616) (w:World) :
   Calls Tryz.prog 50 #[.agg #[.float .f64 lo,.float .f64 hi]] w fun e w'=>e=.returned (.bool (hsB lo hi))∧Below w.heap.size w w':=by
 rw [←holds_eq]
 exact mayHold_core lo hi _ _ _ (fun w=>right_w lo hi hl hh w) (o_eq hl (infI_lt 1)) (o_eq hh (infI_lt (-1))) w
end Go.Proofs.YtnnfafilgiajoaaGreat
