/- lohner: what is no number, has no end, holds nothing; slices.ContainsFunc of floats and of intervals; what the reference calls bounded and finite. Rows of floats that may be written, whatever they hold; Go's own operators always answer a float. Functions beyond roots, as total functions of words: whole numbers cut off a float. The series: each closure's step, and the loop over them. The loop over a series' terms, once for each closure that it is handed. -/
import Derived.Test.YtopfabemfbdccaaGreatZk23
import Derived.Test.YtopfabemfbdccaaGreatZk06
import Derived.Test.YtopfabemfbdccaaGreatZk22
import Derived.Laws.CopyOwn
import Derived.Test.YtopfabemfbdccaaGreatZk13
import Derived.Laws.FloatArith
import Derived.Test.YtopfabemfbdccaaGreatZk17
namespace Go.Proofs.YtopfabemfbdccaaGreat
open Go.ChangeShapes Go.WideShapes Go.ChangeAt Go.RowKit
def bdB (p:Nat×Nat):Bool:=rightB p.1 p.2&&(!infB p.1&&!infB p.2)
theorem nofin_eq (x:Nat):(!finB x)=(nanB x || infB x):=by
 unfold finB nanB infB
 generalize x%9223372036854775808=y
 rcases Nat.lt_trichotomy y 9218868437227405312 with h | h | h
 ·rw [decide_eq_true h,decide_eq_false (by omega),decide_eq_false (by omega)];rfl
 ·rw [decide_eq_false (by omega),decide_eq_false (by omega),decide_eq_true h];rfl
 ·rw [decide_eq_false (by omega),decide_eq_true h];rfl
theorem lholds_eq {lo hi:Nat}:(rightB lo hi&&!(eqB lo (infI 1)&&eqB hi (infI (-1))))=hsB lo hi:=by
 unfold rightB
 cases h:(eqB lo (infI 1)&&eqB hi (infI (-1)))
 ·simp
 ·simp only [Bool.true_or,Bool.not_true,Bool.and_false]
  simp only [Bool.and_eq_true] at h
  have k:key lo=9218868437227405312:=by
   have q:=h.1
   unfold eqB at q
   simp only [Bool.and_eq_true,decide_eq_true_eq] at q
   rw [q.2,key_up]
  symm
  unfold hsB
  simp [k]
def someU (n:Nat) (p:Nat->Bool):Bool:=!((List.range n).all fun i=>!p i)
theorem someU_false {n:Nat} {p:Nat->Bool}:someU n p=false↔∀i,i<n->p i=false:=by
 unfold someU
 rw [Bool.not_eq_false',all_upto]
 exact⟨fun h i hi=>by have:=h i hi;simpa using this,fun h i hi=>by rw [h i hi];rfl⟩
theorem someU_true {n i:Nat} {p:Nat->Bool} (hi:i<n) (h:p i=true):someU n p=true:=by
 unfold someU
 rw [all_not (i:=i) hi (by rw [h];rfl)]
 rfl
theorem rbd_none (v:Nat×Nat) (c1:∀w,Calls Tryz.prog 30 #[.agg #[.float .f64 v.1,.float .f64 v.2]] w fun e w'=>e=.returned (.bool true)/\Below w.heap.size w w') (w:World):Calls Tryz.prog 130 #[.agg #[.float .f64 v.1,.float .f64 v.2]] w fun e w'=>e=.returned (.bool false)/\Below w.heap.size w w':=by
 have X:Has2 (w.alloc (.cells #[.float .f64 v.1,.float .f64 v.2] 24)) w.heap.size (.float .f64 v.1) (.float .f64 v.2):=has2_new _ _ _ _
 have HB:Below w.heap.size w (w.alloc (.cells #[.float .f64 v.1,.float .f64 v.2] 24)):=by go_grown
 go_enter Tryz.func130,Tryz.ntmps130
 go_upto_region 1 with fail
 generalize (w.alloc (.cells #[.float .f64 v.1,.float .f64 v.2] 24))=V1 at *
 have kX0:=fun n:Behind V1=>n.cell X.1 X.2.2.2.2;have kX1:=fun n:Behind V1=>n.cell X.2.1 X.2.2.2.2
 refine region_behind (by kernel_rfl) (by kernel_rfl) ?_
 repeat (go_big_quiet_step (first | (go_at_call 30;with_reducible refine Behind.call (c1 _))))
 refine wpQuiet_nil ?_
 rintro _ ⟨m',rfl⟩
 obtain⟨W,hb1⟩:=m'
 dsimp only
 replace HB:=later HB hb1
 go_wp2_with fail
 go_ret
 exact⟨rfl,HB⟩
set_option maxHeartbeats 1000000 in
theorem rbd_some (v:Nat×Nat) (b1 b2:Bool) (c1:∀w,Calls Tryz.prog 30 #[.agg #[.float .f64 v.1,.float .f64 v.2]] w fun e w'=>e=.returned (.bool false)/\Below w.heap.size w w') (o1:(FloatKind.f64.format.order v.1 (infI (-1)) != some .eq)=b1) (o2:(FloatKind.f64.format.order v.2 (infI 1) != some .eq)=b2) (w:World):Calls Tryz.prog 130 #[.agg #[.float .f64 v.1,.float .f64 v.2]] w fun e w'=>e=.returned (.bool (b1&&b2))/\Below w.heap.size w w':=by
 have X:Has2 (w.alloc (.cells #[.float .f64 v.1,.float .f64 v.2] 24)) w.heap.size (.float .f64 v.1) (.float .f64 v.2):=has2_new _ _ _ _
 have HB:Below w.heap.size w (w.alloc (.cells #[.float .f64 v.1,.float .f64 v.2] 24)):=by go_grown
 go_enter Tryz.func130,Tryz.ntmps130
 go_upto_region 1 with fail
 generalize (w.alloc (.cells #[.float .f64 v.1,.float .f64 v.2] 24))=V1 at *
 have kX0:=fun n:Behind V1=>n.cell X.1 X.2.2.2.2;have kX1:=fun n:Behind V1=>n.cell X.2.1 X.2.2.2.2
 cases b1 <;> cases b2
 all_goals
  refine region_behind (by kernel_rfl) (by kernel_rfl) ?_
  repeat (go_big_quiet_step (first | (go_at_call 30;with_reducible refine Behind.call (c1 _)) | (go_at_call 94;refine Behind.same (rinf_w _ _))))
  refine wpQuiet_nil ?_
  rintro _ ⟨m',rfl⟩
  obtain⟨W,hb1⟩:=m'
  dsimp only
  replace HB:=later HB hb1
  go_wp2_with fail
  go_ret
  exact⟨rfl,HB⟩
theorem binf_lo {x:Nat} (hx:x<18446744073709551616) (n:nanB x=false) (lt:key x<9218868437227405312):eqB x (infI (-1))=infB x:=by
 unfold eqB infB
 rw [n,nan_inf,key_down]
 simp only [Bool.not_false,Bool.true_and]
 refine decide_eq_decide.2 ?_
 unfold key at lt ⊢
 by_cases c:x<9223372036854775808
 ·rw [if_pos c] at lt ⊢;omega
 ·rw [if_neg c] at lt ⊢;omega
theorem binf_hi {x:Nat} (hx:x<18446744073709551616) (n:nanB x=false) (gt:-9218868437227405312<key x):eqB x (infI 1)=infB x:=by
 unfold eqB infB
 rw [n,nan_inf,key_up]
 simp only [Bool.not_false,Bool.true_and]
 refine decide_eq_decide.2 ?_
 unfold key at gt ⊢
 by_cases c:x<9223372036854775808
 ·rw [if_pos c] at gt ⊢;omega
 ·rw [if_neg c] at gt ⊢;omega
theorem bd_hs {p:Nat×Nat} (h:bdB p=true):hsB p.1 p.2=true:=by
 unfold bdB at h
 simp only [Bool.and_eq_true,Bool.not_eq_true'] at h
 obtain⟨hr,h1,h2⟩:=h
 rw [<-lholds_eq,hr]
 cases q:(eqB p.1 (infI 1)&&eqB p.2 (infI (-1)))
 ·rfl
 ·exfalso
  simp only [Bool.and_eq_true] at q
  have q1:=q.1
  unfold eqB at q1
  simp only [Bool.and_eq_true,decide_eq_true_eq] at q1
  rw [key_up] at q1
  unfold infB at h1
  simp only [decide_eq_false_iff_not] at h1
  have k:=q1.2
  unfold key at k
  split at k <;> omega
theorem bd_is (p:Nat×Nat) (h:hsB p.1 p.2=false):bdB p=false:=by
 cases q:bdB p
 ·rfl
 ·rw [bd_hs q] at h;cases h
theorem rbd_w {v:Nat×Nat} (h1:v.1<18446744073709551616) (h2:v.2<18446744073709551616) (w:World):Calls Tryz.prog 130 #[.agg #[.float .f64 v.1,.float .f64 v.2]] w fun e w'=>e=.returned (.bool (bdB v))/\Below w.heap.size w w':=by
 have c1:=fun w=>none_w v.1 v.2 h1 h2 w
 cases hs:hsB v.1 v.2
 ·rw [hs] at c1
  rw [bd_is v hs]
  exact rbd_none v c1 w
 ·have S:=hs_iff.1 hs
  rw [hs] at c1
  have o1:=congrArg (fun q=>!q) (o_eq h1 (infI_lt (-1)))
  have o2:=congrArg (fun q=>!q) (o_eq h2 (infI_lt 1))
  simp only [binf_lo h1 S.nl S.lt,binf_hi h2 S.nh S.gt] at o1 o2
  have e:bdB v=(!infB v.1&&!infB v.2):=by
   unfold bdB rightB
   rw [hs,Bool.or_true,Bool.true_and]
  rw [e]
  exact rbd_some v _ _ c1 o1 o2 w
theorem fin_make {x:Nat} (hx:x<18446744073709551616):bdB (makeP x x)=finB x:=by
 cases hf:finB x
 ·have q:=nofin_eq x
  rw [hf] at q
  have z:pz x=x:=by
   unfold pz
   unfold finB at hf
   simp only [decide_eq_false_iff_not] at hf
   split
   ·omega
   ·rfl
  unfold makeP
  rw [z]
  have hn:hsB x x=false:=by
   unfold hsB
   cases hnan:nanB x
   ·rw [hnan] at q
    simp only [Bool.not_false,Bool.false_or] at q
    unfold infB at q
    have q:=of_decide_eq_true q.symm
    have k:key x=9218868437227405312\/key x=-9218868437227405312:=by unfold key;split <;> omega
    rcases k with k | k <;> simp [k]
   ·rfl
  rw [hn]
  exact bd_is _ empty_some
 ·have S:hsB (pz x) (pz x)=true:=by
   have k:-9218868437227405312<key (pz x)/\key (pz x)<9218868437227405312:=by
    unfold finB at hf
    have hf:=of_decide_eq_true hf
    unfold pz
    split
    ·exact⟨by decide,by decide⟩
    ·unfold key;split <;> omega
   have hn:nanB (pz x)=false:=by
    unfold finB at hf
    have hf:=of_decide_eq_true hf
    unfold pz nanB
    split
    ·decide
    ·exact decide_eq_false (by omega)
   have hz:mz (pz x)=false:=by
    unfold mz
    exact decide_eq_false (pz_ne x)
   unfold hsB
   rw [hn,hz,decide_eq_true (Int.le_refl _),decide_eq_true k.2,decide_eq_true k.1]
   rfl
  unfold makeP
  rw [S]
  simp only [if_true]
  have i:infB (pz x)=false:=by
   unfold finB at hf
   have hf:=of_decide_eq_true hf
   unfold pz infB
   split
   ·decide
   ·exact decide_eq_false (by omega)
  unfold bdB rightB
  rw [S,i,Bool.or_true]
  rfl
theorem bits_lt {op:BinOp} {a b r:Nat} (h:floatBits op .f64 a b=some r):r<18446744073709551616:=by
 have q:=floatBits_wf h
 unfold Lit.wf at q
 simpa using q
def Flo (w:World) (g m:Nat):Prop:=∃(cs:Array Value) (t:TypeId),w.heap[g]?=some (.cells cs t (0,0))/\cs.size=m/\∀i,i<m->∃x,cs[i]?=some (.float .f64 x)/\x<18446744073709551616
theorem Flo.lt {w:World} {g m:Nat} (h:Flo w g m):g<w.heap.size:=by
 obtain⟨cs,t,hg, -⟩:=h
 exact (Array.getElem?_eq_some_iff.1 hg).1
theorem Flo.at {w:World} {g m:Nat} (h:Flo w g m) (i:Nat) (hi:i<m):∃x,w.cell? ⟨g,i,none⟩=some (.float .f64 x)/\w.frozen? ⟨g,i,none⟩=false/\x<18446744073709551616:=by
 obtain⟨cs,t,hg,hm,hx⟩:=h
 obtain⟨x,e,hl⟩:=hx i hi
 exact⟨x,by simp [World.cell?,hg,e],by simp [World.frozen?,hg],hl⟩
theorem Flo.block {w w2:World} {g m:Nat} (h:Flo w g m) (e:w2.heap[g]?=w.heap[g]?):Flo w2 g m:=by
 obtain⟨cs,t,hg,r⟩:=h
 exact⟨cs,t,e.trans hg,r⟩
theorem Flo.keep {w w2:World} {g m:Nat} (h:Flo w g m) (hb:Below w.heap.size w w2):Flo w2 g m:=h.block (hb.block g h.lt)
theorem Flo.set {w:World} {g m:Nat} (h:Flo w g m) (c k y:Nat) (hy:y<18446744073709551616):Flo (w.setCell ⟨c,k,none⟩ (.float .f64 y)) g m:=by
 by_cases e:c=g
 ·subst e
  obtain⟨cs,t,hg,hm,hx⟩:=h
  refine⟨cs.setIfInBounds k (.float .f64 y),t, ?_,by simp [hm],fun i hi=>?_⟩
  ·simp [World.setCell,Array.getElem?_modify,hg]
  ·by_cases q:i=k
   ·subst q
    exact⟨y,by rw [Array.getElem?_setIfInBounds];simp [hm,hi],hy⟩
   ·obtain⟨x,ex,hl⟩:=hx i hi
    exact⟨x,by rw [Array.getElem?_setIfInBounds,if_neg (fun h=>q h.symm)];exact ex,hl⟩
 ·exact h.block (Below.heap_setCell _ _ _ _ (fun h=>e h.symm))
structure Wrt (B g:Nat) (w w':World):Prop where
 below:Below B w w'
 flo:∀c m,Flo w c m->Flo w' c m
 rest:∀c,c≠g->c<w.heap.size->w'.heap[c]?=w.heap[c]?
theorem Wrt.refl (B g:Nat) (w:World):Wrt B g w w:=⟨Below.refl _ _,fun _ _ h=>h,fun _ _ _=>rfl⟩
theorem Wrt.drew {B g:Nat} {a w:World} (h:Wrt B g a w):Wrt B g a w.drew:=⟨h.below.drew,fun c m f=>(h.flo c m f).block rfl,h.rest⟩
theorem Wrt.set {B g:Nat} {a w:World} (h:Wrt B g a w) (hB:B<=g) (k y:Nat) (hy:y<18446744073709551616):Wrt B g a (w.setCell ⟨g,k,none⟩ (.float .f64 y)) :=
 ⟨h.below.setCell hB _,fun c m f=>(h.flo c m f).set _ _ _ hy,fun c n l=>(Below.heap_setCell _ _ _ _ n).trans (h.rest c n l)⟩
def opV (op:BinOp) (a b:Nat) (w:World):Nat:=match floatBits op .f64 a b with | some r=>r | none=>nanOf a b w
def opW (op:BinOp) (a b:Nat) (w:World):World:=match floatBits op .f64 a b with | some _=>w | none=>w.drew
theorem opV_lt (op:BinOp) (a b:Nat) (w:World):opV op a b w<18446744073709551616:=by
 unfold opV
 split
 ·rename_i r h
  exact bits_lt h
 ·exact (nanOf_nan _ _ _).2
theorem opW_cell (op:BinOp) (a b:Nat) (w:World) (A:Addr):(opW op a b w).cell? A=w.cell? A:=by unfold opW;split <;> rfl
theorem opW_frozen (op:BinOp) (a b:Nat) (w:World) (A:Addr):(opW op a b w).frozen? A=w.frozen? A:=by unfold opW;split <;> rfl
theorem Wrt.op {B g:Nat} {x w:World} (h:Wrt B g x w) (op:BinOp) (a b:Nat):Wrt B g x (opW op a b w):=by
 unfold opW
 split
 ·exact h
 ·exact h.drew
theorem run_op (op:BinOp) (hop:op=.add\/op=.sub\/op=.mul\/op=.quo) (t:TypeId) (a b:Nat) (w:World) :
  (binOp op t (.float .f64 a) (.float .f64 b)).run Tryz.prog w=.ok (.float .f64 (opV op a b w)) (opW op a b w):=by
 unfold opV opW
 cases h:floatBits op .f64 a b with
 | some r=>exact run_float_arith (P:=Tryz.prog) w op t .f64 a b r h
 | none =>
  rcases hop with rfl | rfl | rfl | rfl
  all_goals
   unfold floatBits at h
   simp only at h
   simp [binOp,Op.floatArith,h,nanOf,Question.forced]
theorem Out.block {w w2:World} {g n:Nat} {f:Nat->Value} (h:Out w g n f) (e:w2.heap[g]?=w.heap[g]?) (hs:w.heap.size<=w2.heap.size):Out w2 g n f :=
 ⟨Nat.lt_of_lt_of_le h.1 hs,fun i hi=>⟨(World.cell?_of_block e).trans (h.2 i hi).1,(World.frozen?_of_block e).trans (h.2 i hi).2⟩⟩
theorem Flo.fls {w:World} {g m:Nat} (h:Flo w g m) (o n:Nat) (ho:o+n<=m):∃X:Nat->Nat,∀i,i<n->w.cell? ⟨g,o+i,none⟩=some (.float .f64 (X i))/\X i<18446744073709551616:=by
 have q:∀i,∃x,i<n->w.cell? ⟨g,o+i,none⟩=some (.float .f64 x)/\x<18446744073709551616:=fun i=>by
  by_cases hi:i<n
  ·obtain⟨x,a, -,b⟩:=h.at (o+i) (by omega)
   exact⟨x,fun _=>⟨a,b⟩⟩
  ·exact⟨0,fun h=>absurd h hi⟩
 exact⟨fun i=>Classical.choose (q i),fun i hi=>Classical.choose_spec (q i) hi⟩
theorem cutz_le (neg:Bool) (n drop:Nat):Ieee.Toward.cut .zero neg n drop<=n:=by
 unfold Ieee.Toward.cut
 simp
 exact Nat.div_le_self _ _
theorem tint_some {s:Bool} {m:Nat} (h:m<=9007199254740992):∃n:Int,Ieee.signed s m 0=n/\-9007199254740992<=n/\n<=9007199254740992:=by
 unfold Ieee.signed
 cases s
 ·exact⟨_,rfl,by simp <;> omega,by simp <;> omega⟩
 ·exact⟨_,rfl,by simp <;> omega,by simp <;> omega⟩
theorem trunc_some (x:Nat) (h:x%9223372036854775808<=4845873199050653696):∃n,floatToIntVal .f64 x .i64=some n/\-9007199254740992<=n/\n<=9007199254740992:=by
 have key:∀(s:Bool) (m:Nat) (p:Int),(m <<< p.toNat)<=9007199254740992->∃n,(Ieee.Datum.number s m p).toInt .zero=some n/\-9007199254740992<=n/\n<=9007199254740992:=by
  intro s m p hm
  obtain⟨n,e,a,b⟩:=tint_some (s:=s) (m:=Ieee.Toward.cut .zero s (m <<< p.toNat) (-p).toNat) (Nat.le_trans (cutz_le _ _ _) hm)
  exact⟨n,by unfold Ieee.Datum.toInt Ieee.Datum.integral;simp [e],a,b⟩
 have main:∃n,(FloatKind.f64.decode x).toInt .zero=some n/\-9007199254740992<=n/\n<=9007199254740992:=by
  have e:FloatKind.f64.decode x=Ieee.double.read x:=rfl
  rw [e]
  unfold Ieee.Format.read
  have sw:Ieee.double.signWeight=9223372036854775808:=by decide
  have bn:Ieee.double.binade=4503599627370496:=by decide
  have ir:Ieee.double.infRung=9218868437227405312:=by decide
  have lp:Ieee.double.leastPlace=-1074:=by decide
  simp only [sw,bn,ir,lp]
  generalize x%9223372036854775808=r at *
  by_cases c:r<4503599627370496
  ·rw [if_pos c]
   refine key _ _ _ ?_
   show r <<< 0<=_
   simp
   omega
  ·rw [if_neg c,if_pos (by omega)]
   refine key _ _ _ ?_
   by_cases d:r/4503599627370496<=1075
   ·have z:((-1074:Int)+((r/4503599627370496-1:Nat):Int)).toNat=0:=by omega
    rw [z]
    simp
    omega
   ·have q:r=4845873199050653696:=by omega
    subst q
    decide
 obtain⟨n,hn,a,b⟩:=main
 refine⟨n, ?_,a,b⟩
 unfold floatToIntVal
 rw [hn]
 have m1:IntKind.i64.min=-9223372036854775808:=by decide
 have m2:IntKind.i64.max=9223372036854775807:=by decide
 simp only [m1,m2]
 rw [if_pos (by omega)]
theorem cut_even_le (neg:Bool) (n d:Nat) (h:n/2^d<9007199254740992):Ieee.Toward.cut .even neg n d<=9007199254740992:=by
 unfold Ieee.Toward.cut
 simp only [Nat.one_shiftLeft]
 have lo:n/2^(min d (n.log2+2))<9007199254740992:=by
  rcases Nat.le_total d (n.log2+2) with c | c
  ·rw [Nat.min_eq_left c];exact h
  ·rw [Nat.min_eq_right c]
   have:n<2^(n.log2+2):=Nat.lt_of_lt_of_le (@Nat.lt_log2_self n) (Nat.pow_le_pow_right (by omega) (by omega))
   rw [Nat.div_eq_of_lt this]
   omega
 generalize n/2^(min d (n.log2+2))=q at *
 have:∀b:Bool,b.toNat<=1:=fun b=>by cases b <;> simp
 have:=this (decide (2^min d (n.log2+2)<2*(n%2^min d (n.log2+2))) || 2^min d (n.log2+2)==2*(n%2^min d (n.log2+2))&&q%2==1)
 omega
theorem near_bound (neg:Bool) (mag:Nat) (place:Int) (h:place+(mag.log2:Int)<=51):∃r,Ieee.double.nearest neg mag place=(if neg then 9223372036854775808+r else r)/\r<=4841369599423283200:=by
 have hb:Ieee.double.binade=4503599627370496:=by decide
 have hi:Ieee.double.infRung=9218868437227405312:=by decide
 have hp:Ieee.double.leastPlace=-1074:=by decide
 have hf:Ieee.double.fractionBits=52:=rfl
 have hs:Ieee.double.signWeight=9223372036854775808:=by decide
 unfold Ieee.Format.nearest
 by_cases h0:mag=0
 ·rw [if_pos h0]
  exact⟨0,by unfold Ieee.Format.word;rw [hs],by omega⟩
 ·rw [if_neg h0]
  simp only [hb,hi,hp,hf]
  generalize hl:max (place+(mag.log2:Int)-(52:Nat)) (-1074)=last
  have k:Ieee.Toward.cut .even neg (mag <<< (place-last).toNat) (last-place).toNat<=9007199254740992:=by
   refine cut_even_le _ _ _ ?_
   rw [Nat.shiftLeft_eq]
   have lt:=@Nat.lt_log2_self mag
   rcases Int.le_total last place with c | c
   ·have z:(last-place).toNat=0:=by omega
    rw [z,Nat.pow_zero,Nat.div_one]
    have e:mag.log2+1+(place-last).toNat<=53:=by omega
    calc mag*2^(place-last).toNat<2^(mag.log2+1)*2^(place-last).toNat:=Nat.mul_lt_mul_of_pos_right lt (Nat.two_pow_pos _)
     _=2^(mag.log2+1+(place-last).toNat):=(Nat.pow_add _ _ _).symm
     _<=2^53:=Nat.pow_le_pow_right (by omega) e
     _=9007199254740992:=by decide
   ·have z:(place-last).toNat=0:=by omega
    rw [z,Nat.pow_zero,Nat.mul_one]
    have e:mag.log2+1<=53+(last-place).toNat:=by omega
    refine (Nat.div_lt_iff_lt_mul (Nat.two_pow_pos _)).2 ?_
    calc mag<2^(mag.log2+1):=lt
     _<=2^(53+(last-place).toNat):=Nat.pow_le_pow_right (by omega) e
     _=2^53*2^(last-place).toNat:=Nat.pow_add _ _ _
     _=9007199254740992*2^(last-place).toNat:=by rw [show (2:Nat)^53=9007199254740992 by decide]
  generalize Ieee.Toward.cut .even neg (mag <<< (place-last).toNat) (last-place).toNat=kept at *
  refine⟨min ((last - -1074).toNat*4503599627370496+kept) 9218868437227405312,by unfold Ieee.Format.word;rw [hs], ?_⟩
  refine Nat.le_trans (Nat.min_le_left _ _) ?_
  have l1:(last - -1074).toNat<=1073:=by omega
  have l2:=Nat.mul_le_mul_right 4503599627370496 l1
  exact Nat.le_trans (Nat.add_le_add l2 k) (by decide)
theorem add_small (x y:Nat) (hx:x%9223372036854775808<4832362400168542208) (hy:y%9223372036854775808<4832362400168542208):∃r,Ieee.double.add x y=some r/\r<18446744073709551616/\r%9223372036854775808<=4841369599423283200:=by
 have hb:Ieee.double.binade=4503599627370496:=by decide
 have hi:Ieee.double.infRung=9218868437227405312:=by decide
 have hp:Ieee.double.leastPlace=-1074:=by decide
 have hs:Ieee.double.signWeight=9223372036854775808:=by decide
 have rd:∀z:Nat,z%9223372036854775808<4832362400168542208->∃s m i,Ieee.double.read z=.number s m i/\(-1074:Int)<=i/\i<=49/\m<2^(50-i).toNat:=by
  intro z hz
  unfold Ieee.Format.read
  simp only [hs,hb,hi,hp]
  generalize z%9223372036854775808=r at *
  by_cases c:r<4503599627370496
  ·rw [if_pos c]
   refine⟨_,_,_,rfl,by omega,by omega, ?_⟩
   have e52:(4503599627370496:Nat)=2^52:=by decide
   rw [e52] at c
   exact Nat.lt_of_lt_of_le c (Nat.pow_le_pow_right (by omega) (by omega))
  ·rw [if_neg c,if_pos (by omega)]
   refine⟨_,_,_,rfl,by omega,by omega, ?_⟩
   have e:53<=(50-((-1074:Int)+((r/4503599627370496-1:Nat):Int))).toNat:=by omega
   exact Nat.lt_of_lt_of_le (show 4503599627370496+r%4503599627370496<2^53 by have:r%4503599627370496<4503599627370496:=Nat.mod_lt _ (by omega);rw [show (2:Nat)^53=9007199254740992 by decide];omega) (Nat.pow_le_pow_right (by omega) e)
 obtain⟨s,m,i,e1,i1,i2,hm⟩:=rd x hx
 obtain⟨t,n,j,e2,j1,j2,hn⟩:=rd y hy
 unfold Ieee.Format.add
 rw [e1,e2]
 unfold Ieee.Datum.sum
 simp only [Option.map_some]
 unfold Ieee.Format.write
 simp only
 have ab:∀(b:Bool) (q u:Nat),(Ieee.signed b q u).natAbs=q*2^u:=by
  intro b q u
  unfold Ieee.signed
  rw [Nat.shiftLeft_eq]
  cases b
  ·exact Int.natAbs_natCast _
  ·rw [if_pos rfl,Int.natAbs_neg]
   exact Int.natAbs_natCast _
 have tb:(Ieee.signed s m (i-min i j).toNat+Ieee.signed t n (j-min i j).toNat).natAbs<2^(51-min i j).toNat:=by
  refine Nat.lt_of_le_of_lt (Int.natAbs_add_le _ _) ?_
  rw [ab,ab]
  have g1:m*2^(i-min i j).toNat<2^(50-min i j).toNat:=by
   have:=Nat.mul_lt_mul_of_pos_right hm (Nat.two_pow_pos (i-min i j).toNat)
   rw [<-Nat.pow_add] at this
   rwa [show (50-i).toNat+(i-min i j).toNat=(50-min i j).toNat by omega] at this
  have g2:n*2^(j-min i j).toNat<2^(50-min i j).toNat:=by
   have:=Nat.mul_lt_mul_of_pos_right hn (Nat.two_pow_pos (j-min i j).toNat)
   rw [<-Nat.pow_add] at this
   rwa [show (50-j).toNat+(j-min i j).toNat=(50-min i j).toNat by omega] at this
  have e:2^(51-min i j).toNat=2^(50-min i j).toNat+2^(50-min i j).toNat:=by
   rw [show (51-min i j).toNat=(50-min i j).toNat+1 by omega,Nat.pow_succ];omega
  omega
 generalize Ieee.signed s m (i-min i j).toNat+Ieee.signed t n (j-min i j).toNat=total at *
 have lg:min i j+(total.natAbs.log2:Int)<=51:=by
  by_cases z:total.natAbs=0
  ·rw [z]
   have:(0:Nat).log2=0:=by decide
   rw [this]
   omega
  ·have:=(Nat.log2_lt z).2 tb
   omega
 obtain⟨r,hr,hle⟩:=near_bound (if total=0 then s&&t else decide (total<0)) total.natAbs (min i j) lg
 refine⟨_,rfl, ?_⟩
 rw [hr]
 generalize (if total=0 then s&&t else decide (total<0))=bb
 clear hr lg tb ab rd
 cases bb
 ·rw [if_neg (by simp)]
  exact⟨by omega,by omega⟩
 ·rw [if_pos rfl]
  exact⟨by omega,by omega⟩
def truncI (x:Nat):Int:=(floatToIntVal .f64 x .i64).getD 0
def flI (x:Nat):Int:=if ltB x (floatOfInt .f64 (truncI x)) then truncI x-1 else truncI x
theorem foi_lt (n:Int):floatOfInt .f64 n<18446744073709551616:=by
 have e:floatOfInt .f64 n=Ieee.double.nearest (decide (n<0)) n.natAbs 0:=rfl
 rw [e]
 exact Ieee.double.nearest_lt _ _ _
theorem flI_in (x:Nat) (hb:x%9223372036854775808<4845873199050653696):-9007199254740993<=flI x/\flI x<=9007199254740992:=by
 obtain⟨n,hn,a,b⟩:=trunc_some x (by omega)
 have ht:truncI x=n:=by unfold truncI;rw [hn];rfl
 unfold flI
 rw [ht]
 split <;> omega
theorem floor_w (x:Nat) (hx:x<18446744073709551616) (hb:x%9223372036854775808<4845873199050653696) (w:World):Calls Tryz.prog 149 #[.float .f64 x] w fun e w'=>e=.returned (.int .i64 (flI x))/\w=w':=by
 obtain⟨n,hn,a,b⟩:=trunc_some x (by omega)
 have ht:truncI x=n:=by unfold truncI;rw [hn];rfl
 unfold flI
 rw [ht]
 clear ht
 have hc:∀w,(convert 22 3 (.float .f64 x)).run Tryz.prog w=.ok (.int .i64 n) w:=fun w=>run_convert_float_int w 22 3 .f64 .i64 x n (by rw [Tryz.underlying22];rfl) Tryz.underlying3 hn
 clear hn
 have hg:=o_gt (foi_lt n) hx
 generalize ltB x (floatOfInt .f64 n)=b at *
 cases b
 all_goals
  go_enter Tryz.func149,Tryz.ntmps149
  go_wp2_with (simp only [hc])
  go_ret
  exact⟨rfl,rfl⟩
theorem ceil_w (x:Nat) (hx:x<18446744073709551616) (hb:x%9223372036854775808<4845873199050653696) (w:World):Calls Tryz.prog 164 #[.float .f64 x] w fun e w'=>e=.returned (.int .i64 (-flI (negB x)))/\w=w':=by
 have hb':negB x%9223372036854775808<4845873199050653696:=by unfold negB;split <;> omega
 have c:=fun w=>floor_w (negB x) (negB_lt hx) hb' w
 have hr:=flI_in (negB x) hb'
 have hneg:Op.negFloat .f64 x=negB x:=negFloat_eq x hx
 generalize flI (negB x)=f at *
 generalize negB x=r at *
 go_enter Tryz.func164,Tryz.ntmps164
 go_wp2_with (go_at_call 149;refine (c _).mono ?_;rintro _ w1 ⟨rfl,rfl⟩)
 go_ret
 exact⟨rfl,rfl⟩
theorem wholeI_w (k:Int) (w:World):Calls Tryz.prog 155 #[.int .i64 k] w fun e w'=>e=.returned (.agg #[.float .f64 (makeP (floatOfInt .f64 k) (floatOfInt .f64 k)).1,.float .f64 (makeP (floatOfInt .f64 k) (floatOfInt .f64 k)).2])/\Below w.heap.size w w':=by
 have hm:=fun w=>point_w (floatOfInt .f64 k) (foi_lt k) w
 generalize makeP (floatOfInt .f64 k) (floatOfInt .f64 k)=p at *
 go_enter Tryz.func155,Tryz.ntmps155
 go_wp2_with (go_at_call 55;refine (hm _).mono ?_;rintro _ w1 ⟨rfl,hb1⟩
              have k1:Has2 w1 w.heap.size (.float .f64 0) (.float .f64 0):=Has2.keep ⟨by go_simp,by go_simp,by go_simp,by go_simp,by go_size⟩ hb1
              obtain⟨a0,a1,a2,a3,a4⟩:=k1)
 refine bodyPost_ret (v:=.agg #[.float .f64 p.1,.float .f64 p.2]) (by simp [results,Tryz.results155,go_sem, *]) rfl ⟨rfl, ?_⟩
 have t:Below w.heap.size w w1:=later (by go_grown) hb1
 repeat' (first | (with_reducible exact t) | (with_reducible refine Below.setCell ?_ ?_ _) | go_size)
theorem Pi_w (w:World):Calls Tryz.prog 5 #[] w fun e w'=>e=.returned (.agg #[.float .f64 (makeP 4614256656552045848 4614256656552045849).1,.float .f64 (makeP 4614256656552045848 4614256656552045849).2])/\Below w.heap.size w w':=by
 have hm:=fun w=>make_w 4614256656552045848 4614256656552045849 (by omega) (by omega) w
 generalize makeP 4614256656552045848 4614256656552045849=p at *
 go_enter Tryz.func5,Tryz.ntmps5
 go_wp2_with (go_at_call 32;refine (hm _).mono ?_;rintro _ w1 ⟨rfl,hb1⟩
              have k1:Has2 w1 w.heap.size (.float .f64 0) (.float .f64 0):=Has2.keep ⟨by go_simp,by go_simp,by go_simp,by go_simp,by go_size⟩ hb1
              obtain⟨a0,a1,a2,a3,a4⟩:=k1)
 refine bodyPost_ret (v:=.agg #[.float .f64 p.1,.float .f64 p.2]) (by simp [results,Tryz.results5,go_sem, *]) rfl ⟨rfl, ?_⟩
 have t:Below w.heap.size w w1:=later (by go_grown) hb1
 repeat' (first | (with_reducible exact t) | (with_reducible refine Below.setCell ?_ ?_ _) | go_size)
theorem Ln2_w (w:World):Calls Tryz.prog 7 #[] w fun e w'=>e=.returned (.agg #[.float .f64 (makeP 4604418534313441775 4604418534313441776).1,.float .f64 (makeP 4604418534313441775 4604418534313441776).2])/\Below w.heap.size w w':=by
 have hm:=fun w=>make_w 4604418534313441775 4604418534313441776 (by omega) (by omega) w
 generalize makeP 4604418534313441775 4604418534313441776=p at *
 go_enter Tryz.func7,Tryz.ntmps7
 go_wp2_with (go_at_call 32;refine (hm _).mono ?_;rintro _ w1 ⟨rfl,hb1⟩
              have k1:Has2 w1 w.heap.size (.float .f64 0) (.float .f64 0):=Has2.keep ⟨by go_simp,by go_simp,by go_simp,by go_simp,by go_size⟩ hb1
              obtain⟨a0,a1,a2,a3,a4⟩:=k1)
 refine bodyPost_ret (v:=.agg #[.float .f64 p.1,.float .f64 p.2]) (by simp [results,Tryz.results7,go_sem, *]) rfl ⟨rfl, ?_⟩
 have t:Below w.heap.size w w1:=later (by go_grown) hb1
 repeat' (first | (with_reducible exact t) | (with_reducible refine Below.setCell ?_ ?_ _) | go_size)
theorem nearOne_w (w:World):Calls Tryz.prog 153 #[] w fun e w'=>e=.returned (.agg #[.float .f64 (makeP 4602678819172646912 4609434218613702656).1,.float .f64 (makeP 4602678819172646912 4609434218613702656).2])/\Below w.heap.size w w':=by
 have hm:=fun w=>make_w 4602678819172646912 4609434218613702656 (by omega) (by omega) w
 generalize makeP 4602678819172646912 4609434218613702656=p at *
 go_enter Tryz.func153,Tryz.ntmps153
 go_wp2_with (go_at_call 32;refine (hm _).mono ?_;rintro _ w1 ⟨rfl,hb1⟩
              have k1:Has2 w1 w.heap.size (.float .f64 0) (.float .f64 0):=Has2.keep ⟨by go_simp,by go_simp,by go_simp,by go_simp,by go_size⟩ hb1
              obtain⟨a0,a1,a2,a3,a4⟩:=k1)
 refine bodyPost_ret (v:=.agg #[.float .f64 p.1,.float .f64 p.2]) (by simp [results,Tryz.results153,go_sem, *]) rfl ⟨rfl, ?_⟩
 have t:Below w.heap.size w w1:=later (by go_grown) hb1
 repeat' (first | (with_reducible exact t) | (with_reducible refine Below.setCell ?_ ?_ _) | go_size)
set_option maxHeartbeats 1000000 in
theorem pow_step (o1 o2 r1 r2 t1 t2:Nat) (m p q s:Nat×Nat) (n:Int) (hn0:0<=n) (hn1:n<1000)
  (c1:∀w,Calls Tryz.prog 155 #[.int .i64 (n+1)] w fun e w'=>e=.returned (.agg #[.float .f64 m.1,.float .f64 m.2])/\Below w.heap.size w w')
  (c2:∀w,Calls Tryz.prog 54 #[.agg #[.float .f64 r1,.float .f64 r2],.agg #[.float .f64 t1,.float .f64 t2]] w fun e w'=>e=.returned (.agg #[.float .f64 p.1,.float .f64 p.2])/\Below w.heap.size w w')
  (c3:∀w,Calls Tryz.prog 50 #[.agg #[.float .f64 p.1,.float .f64 p.2],.agg #[.float .f64 m.1,.float .f64 m.2]] w fun e w'=>e=.returned (.agg #[.float .f64 q.1,.float .f64 q.2])/\Below w.heap.size w w')
  (c4:∀w,Calls Tryz.prog 61 #[.agg #[.float .f64 o1,.float .f64 o2],.agg #[.float .f64 q.1,.float .f64 q.2]] w fun e w'=>e=.returned (.agg #[.float .f64 s.1,.float .f64 s.2])/\Below w.heap.size w w')
  (a b:Nat) (w:World) (A:Has2 w a (.float .f64 o1) (.float .f64 o2)) (B:Has2 w b (.float .f64 r1) (.float .f64 r2)) :
  Calls Tryz.prog 154 #[.int .i64 n,.agg #[.float .f64 t1,.float .f64 t2],.pointer (some ⟨a,0,none⟩),.pointer (some ⟨b,0,none⟩)] w fun e w'=>e=.returned (.agg #[.float .f64 s.1,.float .f64 s.2])/\Below w.heap.size w w':=by
 have X:Has2 ((w.alloc (.cells #[.float .f64 t1,.float .f64 t2] 24)).alloc (.cells #[.float .f64 0,.float .f64 0] 24)) w.heap.size (.float .f64 t1) (.float .f64 t2):=⟨by go_simp,by go_simp,by go_simp,by go_simp,by go_size⟩
 have R:Has2 ((w.alloc (.cells #[.float .f64 t1,.float .f64 t2] 24)).alloc (.cells #[.float .f64 0,.float .f64 0] 24)) (w.heap.size+1) (.float .f64 0) (.float .f64 0):=⟨by go_simp,by go_simp,by go_simp,by go_simp,by go_size⟩
 have HB:Below w.heap.size w ((w.alloc (.cells #[.float .f64 t1,.float .f64 t2] 24)).alloc (.cells #[.float .f64 0,.float .f64 0] 24)):=by go_grown
 replace A:=A.keep HB
 replace B:=B.keep HB
 go_enter Tryz.func154,Tryz.ntmps154
 go_upto_region 4 with fail
 generalize ((w.alloc (.cells #[.float .f64 t1,.float .f64 t2] 24)).alloc (.cells #[.float .f64 0,.float .f64 0] 24))=V1 at *
 have ka0:=fun n:Behind V1=>n.cell A.1 A.2.2.2.2
 have ka1:=fun n:Behind V1=>n.cell A.2.1 A.2.2.2.2
 have kb0:=fun n:Behind V1=>n.cell B.1 B.2.2.2.2
 have kb1:=fun n:Behind V1=>n.cell B.2.1 B.2.2.2.2
 have kx0:=fun n:Behind V1=>n.cell X.1 X.2.2.2.2
 have kx1:=fun n:Behind V1=>n.cell X.2.1 X.2.2.2.2
 refine tail_behind 9 (by kernel_rfl) (by kernel_rfl) ?_
 simp only [List.take_succ_cons,List.take_zero,List.drop_succ_cons,List.drop_zero]
 repeat (go_big_quiet_step (first
  | (go_at_call 155;with_reducible refine Behind.call (c1 _))
  | (go_at_call 54;with_reducible refine Behind.call (c2 _))
  | (go_at_call 50;with_reducible refine Behind.call (c3 _))
  | (go_at_call 61;with_reducible refine Behind.call (c4 _))))
 refine wpQuiet_nil ?_
 rintro _ ⟨m',rfl⟩
 obtain⟨W,hb1⟩:=m'
 dsimp only
 clear kx0 kx1 ka0 ka1 kb0 kb1 A B
 replace R:=R.keep hb1;replace HB:=later HB hb1;clear hb1
 obtain⟨k0,k1,k2,k3,k4⟩:=id R
 go_wp2_with fail
 refine bodyPost_ret (v:=.agg #[.float .f64 s.1,.float .f64 s.2]) (by simp [results,Tryz.results154,go_sem, *]) rfl ⟨rfl, ?_⟩
 repeat' (first | (with_reducible exact HB) | (with_reducible refine Below.setCell ?_ ?_ _) | go_size)
set_option maxHeartbeats 1000000 in
theorem odd_step (o1 o2 r1 r2 t1 t2:Nat) (m p q s:Nat×Nat) (n:Int) (hn0:0<=n) (hn1:n<1000)
  (c1:∀w,Calls Tryz.prog 155 #[.int .i64 (2*n+1)] w fun e w'=>e=.returned (.agg #[.float .f64 m.1,.float .f64 m.2])/\Below w.heap.size w w')
  (c2:∀w,Calls Tryz.prog 50 #[.agg #[.float .f64 o1,.float .f64 o2],.agg #[.float .f64 m.1,.float .f64 m.2]] w fun e w'=>e=.returned (.agg #[.float .f64 q.1,.float .f64 q.2])/\Below w.heap.size w w')
  (c3:∀w,Calls Tryz.prog 54 #[.agg #[.float .f64 r1,.float .f64 r2],.agg #[.float .f64 t1,.float .f64 t2]] w fun e w'=>e=.returned (.agg #[.float .f64 p.1,.float .f64 p.2])/\Below w.heap.size w w')
  (c4:∀w,Calls Tryz.prog 61 #[.agg #[.float .f64 q.1,.float .f64 q.2],.agg #[.float .f64 p.1,.float .f64 p.2]] w fun e w'=>e=.returned (.agg #[.float .f64 s.1,.float .f64 s.2])/\Below w.heap.size w w')
  (a b:Nat) (w:World) (A:Has2 w a (.float .f64 o1) (.float .f64 o2)) (B:Has2 w b (.float .f64 r1) (.float .f64 r2)) :
  Calls Tryz.prog 296 #[.int .i64 n,.agg #[.float .f64 t1,.float .f64 t2],.pointer (some ⟨a,0,none⟩),.pointer (some ⟨b,0,none⟩)] w fun e w'=>e=.returned (.agg #[.float .f64 s.1,.float .f64 s.2])/\Below w.heap.size w w':=by
 have X:Has2 ((w.alloc (.cells #[.float .f64 t1,.float .f64 t2] 24)).alloc (.cells #[.float .f64 0,.float .f64 0] 24)) w.heap.size (.float .f64 t1) (.float .f64 t2):=⟨by go_simp,by go_simp,by go_simp,by go_simp,by go_size⟩
 have R:Has2 ((w.alloc (.cells #[.float .f64 t1,.float .f64 t2] 24)).alloc (.cells #[.float .f64 0,.float .f64 0] 24)) (w.heap.size+1) (.float .f64 0) (.float .f64 0):=⟨by go_simp,by go_simp,by go_simp,by go_simp,by go_size⟩
 have HB:Below w.heap.size w ((w.alloc (.cells #[.float .f64 t1,.float .f64 t2] 24)).alloc (.cells #[.float .f64 0,.float .f64 0] 24)):=by go_grown
 replace A:=A.keep HB
 replace B:=B.keep HB
 go_enter Tryz.func296,Tryz.ntmps296
 go_upto_region 4 with fail
 generalize ((w.alloc (.cells #[.float .f64 t1,.float .f64 t2] 24)).alloc (.cells #[.float .f64 0,.float .f64 0] 24))=V1 at *
 have ka0:=fun n:Behind V1=>n.cell A.1 A.2.2.2.2
 have ka1:=fun n:Behind V1=>n.cell A.2.1 A.2.2.2.2
 have kb0:=fun n:Behind V1=>n.cell B.1 B.2.2.2.2
 have kb1:=fun n:Behind V1=>n.cell B.2.1 B.2.2.2.2
 have kx0:=fun n:Behind V1=>n.cell X.1 X.2.2.2.2
 have kx1:=fun n:Behind V1=>n.cell X.2.1 X.2.2.2.2
 refine tail_behind 10 (by kernel_rfl) (by kernel_rfl) ?_
 simp only [List.take_succ_cons,List.take_zero,List.drop_succ_cons,List.drop_zero]
 repeat (go_big_quiet_step (first
  | (go_at_call 155;with_reducible refine Behind.call (c1 _))
  | (go_at_call 50;with_reducible refine Behind.call (c2 _))
  | (go_at_call 54;with_reducible refine Behind.call (c3 _))
  | (go_at_call 61;with_reducible refine Behind.call (c4 _))))
 refine wpQuiet_nil ?_
 rintro _ ⟨m',rfl⟩
 obtain⟨W,hb1⟩:=m'
 dsimp only
 clear kx0 kx1 ka0 ka1 kb0 kb1 A B
 replace R:=R.keep hb1;replace HB:=later HB hb1;clear hb1
 obtain⟨k0,k1,k2,k3,k4⟩:=id R
 go_wp2_with fail
 refine bodyPost_ret (v:=.agg #[.float .f64 s.1,.float .f64 s.2]) (by simp [results,Tryz.results296,go_sem, *]) rfl ⟨rfl, ?_⟩
 repeat' (first | (with_reducible exact HB) | (with_reducible refine Below.setCell ?_ ?_ _) | go_size)
set_option maxHeartbeats 1000000 in
theorem turn_step (o1 o2 r1 r2 t1 t2:Nat) (m p q s:Nat×Nat) (n f:Int) (hn0:0<=n) (hn1:n<1000) (hf0:0<=f) (hf1:f<1000)
   (c1:∀w,Calls Tryz.prog 155 #[.int .i64 ((2*n+f+1)*(2*n+f+2))] w fun e w'=>e=.returned (.agg #[.float .f64 m.1,.float .f64 m.2])/\Below w.heap.size w w')
   (c2:∀w,Calls Tryz.prog 54 #[.agg #[.float .f64 r1,.float .f64 r2],.agg #[.float .f64 t1,.float .f64 t2]] w fun e w'=>e=.returned (.agg #[.float .f64 p.1,.float .f64 p.2])/\Below w.heap.size w w')
   (c3:∀w,Calls Tryz.prog 50 #[.agg #[.float .f64 p.1,.float .f64 p.2],.agg #[.float .f64 m.1,.float .f64 m.2]] w fun e w'=>e=.returned (.agg #[.float .f64 q.1,.float .f64 q.2])/\Below w.heap.size w w')
   (c4:∀w,Calls Tryz.prog 56 #[.agg #[.float .f64 o1,.float .f64 o2],.agg #[.float .f64 q.1,.float .f64 q.2]] w fun e w'=>e=.returned (.agg #[.float .f64 s.1,.float .f64 s.2])/\Below w.heap.size w w')
   (z a b:Nat) (w:World) (Z:w.cell? ⟨z,0,none⟩=some (.int .i64 f)) (Zl:z<w.heap.size) (hm:0<=(2*n+f+1)*(2*n+f+2)/\(2*n+f+1)*(2*n+f+2)<100000000) (A:Has2 w a (.float .f64 o1) (.float .f64 o2)) (B:Has2 w b (.float .f64 r1) (.float .f64 r2)) :
   Calls Tryz.prog 245 #[.int .i64 n,.agg #[.float .f64 t1,.float .f64 t2],.pointer (some ⟨z,0,none⟩),.pointer (some ⟨a,0,none⟩),.pointer (some ⟨b,0,none⟩)] w fun e w'=>e=.returned (.agg #[.float .f64 s.1,.float .f64 s.2])/\Below w.heap.size w w':=by
 have X:Has2 ((w.alloc (.cells #[.float .f64 t1,.float .f64 t2] 24)).alloc (.cells #[.float .f64 0,.float .f64 0] 24)) w.heap.size (.float .f64 t1) (.float .f64 t2):=⟨by go_simp,by go_simp,by go_simp,by go_simp,by go_size⟩
 have R:Has2 ((w.alloc (.cells #[.float .f64 t1,.float .f64 t2] 24)).alloc (.cells #[.float .f64 0,.float .f64 0] 24)) (w.heap.size+1) (.float .f64 0) (.float .f64 0):=⟨by go_simp,by go_simp,by go_simp,by go_simp,by go_size⟩
 have HB:Below w.heap.size w ((w.alloc (.cells #[.float .f64 t1,.float .f64 t2] 24)).alloc (.cells #[.float .f64 0,.float .f64 0] 24)):=by go_grown
 replace A:=A.keep HB
 replace B:=B.keep HB
 replace Z:=(HB.cell Zl).trans Z
 go_enter Tryz.func245,Tryz.ntmps245
 go_upto_region 7 with
   (go_at_call 155;refine (c1 _).mono ?_;rintro _ V1 ⟨rfl,hb1⟩
    replace X:=X.keep hb1;replace R:=R.keep hb1;replace A:=A.keep hb1;replace B:=B.keep hb1;replace HB:=later HB hb1;clear hb1)
 have D:Has2 (V1.alloc (.cells #[.float .f64 m.1,.float .f64 m.2] 24)) V1.heap.size (.float .f64 m.1) (.float .f64 m.2):=⟨by go_simp,by go_simp,by go_simp,by go_simp,by go_size⟩
 have hb1:Below V1.heap.size V1 (V1.alloc (.cells #[.float .f64 m.1,.float .f64 m.2] 24)):=by go_grown
 replace X:=X.keep hb1;replace R:=R.keep hb1;replace A:=A.keep hb1;replace B:=B.keep hb1;replace HB:=later HB hb1;clear hb1
 clear Z Zl hm c1
 generalize V1.alloc (.cells #[.float .f64 m.1,.float .f64 m.2] 24)=V2 at *
 generalize V1.heap.size=d at *
 have kd0:=fun n:Behind V2=>n.cell D.1 D.2.2.2.2
 have kd1:=fun n:Behind V2=>n.cell D.2.1 D.2.2.2.2
 have ka0:=fun n:Behind V2=>n.cell A.1 A.2.2.2.2
 have ka1:=fun n:Behind V2=>n.cell A.2.1 A.2.2.2.2
 have kb0:=fun n:Behind V2=>n.cell B.1 B.2.2.2.2
 have kb1:=fun n:Behind V2=>n.cell B.2.1 B.2.2.2.2
 have kx0:=fun n:Behind V2=>n.cell X.1 X.2.2.2.2
 have kx1:=fun n:Behind V2=>n.cell X.2.1 X.2.2.2.2
 refine tail_behind 7 (by kernel_rfl) (by kernel_rfl) ?_
 simp only [List.take_succ_cons,List.take_zero,List.drop_succ_cons,List.drop_zero]
 repeat (go_big_quiet_step (first
   | (go_at_call 54;with_reducible refine Behind.call (c2 _))
   | (go_at_call 50;with_reducible refine Behind.call (c3 _))
   | (go_at_call 56;with_reducible refine Behind.call (c4 _))))
 refine wpQuiet_nil ?_
 rintro _ ⟨m',rfl⟩
 obtain⟨W,hb1⟩:=m'
 dsimp only
 clear kx0 kx1 ka0 ka1 kb0 kb1 kd0 kd1 A B
 replace R:=R.keep hb1;replace HB:=later HB hb1;clear hb1
 obtain⟨k0,k1,k2,k3,k4⟩:=id R
 go_wp2_with fail
 refine bodyPost_ret (v:=.agg #[.float .f64 s.1,.float .f64 s.2]) (by simp [results,Tryz.results245,go_sem, *]) rfl ⟨rfl, ?_⟩
 repeat' (first | (with_reducible exact HB) | (with_reducible refine Below.setCell ?_ ?_ _) | go_size)
def upS (f:Nat->Nat×Nat->Nat×Nat) (t:Nat×Nat) (N:Nat):Nat->Nat×Nat
 | 0=>t
 | j+1=>f (N-1-j) (upS f t N j)
def serS (f:Nat->Nat×Nat->Nat×Nat) (t:Nat×Nat) (N i:Nat):Nat×Nat:=upS f t N (N-i)
theorem serS_end (f:Nat->Nat×Nat->Nat×Nat) (t:Nat×Nat) (N:Nat):serS f t N N=t:=by unfold serS;rw [Nat.sub_self];rfl
theorem serS_step (f:Nat->Nat×Nat->Nat×Nat) (t:Nat×Nat) (N i:Nat) (h:i<N):serS f t N i=f i (serS f t N (i+1)):=by
 unfold serS
 rw [show N-i=(N-(i+1))+1 by omega]
 show f (N-1-(N-(i+1))) _=_
 rw [show N-1-(N-(i+1))=i by omega]
theorem serS_lt {f:Nat->Nat×Nat->Nat×Nat} {t:Nat×Nat} (P:Nat×Nat->Prop) (ht:P t) (hf:∀i x,P x->P (f i x)) (N i:Nat):P (serS f t N i):=by
 unfold serS
 generalize N-i=k
 induction k with
 | zero=>exact ht
 | succ k ih=>exact hf _ _ ih
set_option maxHeartbeats 1000000 in
theorem ser_pow (S:Nat->Nat×Nat) (N a b:Nat) (hN:N<1000) (w:World)
  (c:∀i,i<N->∀W,Below w.heap.size w W->Calls Tryz.prog 154 #[.int .i64 (i:Int),.agg #[.float .f64 (S (i+1)).1,.float .f64 (S (i+1)).2],.pointer (some ⟨a,0,none⟩),.pointer (some ⟨b,0,none⟩)] W fun e w'=>e=.returned (.agg #[.float .f64 (S i).1,.float .f64 (S i).2])/\Below W.heap.size W w') :
  Calls Tryz.prog 152 #[.int .i64 (N:Int),.agg #[.float .f64 (S N).1,.float .f64 (S N).2],.func (.func 154) #[] #[.pointer (some ⟨a,0,none⟩),.pointer (some ⟨b,0,none⟩)]] w fun e w'=>e=.returned (.agg #[.float .f64 (S 0).1,.float .f64 (S 0).2])/\Below w.heap.size w w':=by
 have X:Has2 ((w.alloc (.cells #[.float .f64 (S N).1,.float .f64 (S N).2] 24)).alloc (.cells #[.float .f64 0,.float .f64 0] 24)) w.heap.size (.float .f64 (S N).1) (.float .f64 (S N).2):=⟨by go_simp,by go_simp,by go_simp,by go_simp,by go_size⟩
 have R:Has2 ((w.alloc (.cells #[.float .f64 (S N).1,.float .f64 (S N).2] 24)).alloc (.cells #[.float .f64 0,.float .f64 0] 24)) (w.heap.size+1) (.float .f64 0) (.float .f64 0):=⟨by go_simp,by go_simp,by go_simp,by go_simp,by go_size⟩
 have HB:Below w.heap.size w ((w.alloc (.cells #[.float .f64 (S N).1,.float .f64 (S N).2] 24)).alloc (.cells #[.float .f64 0,.float .f64 0] 24)):=by go_grown
 go_enter Tryz.func152,Tryz.ntmps152
 go_wp2_with fail
 generalize ((w.alloc (.cells #[.float .f64 (S N).1,.float .f64 (S N).2] 24)).alloc (.cells #[.float .f64 0,.float .f64 0] 24))=V0 at *
 go_loopg [7] N (fun G s7 wx=>Below w.heap.size w wx/\∃k:Nat,k<=G/\k<=N/\s7=.int .i64 ((k:Int)-1)/\Has2 wx w.heap.size (.float .f64 (S k).1) (.float .f64 (S k).2)/\Has2 wx (w.heap.size+1) (.float .f64 0) (.float .f64 0))
 case atStart=>exact⟨HB,N,Nat.le_refl _,Nat.le_refl _,rfl,X,R⟩
 case round =>
  clear X R HB
  obtain⟨HB,k,hk,hl,rfl,X,R⟩:=hrel
  cases k with
  | zero =>
   obtain⟨x0,x1,x2,x3,x4⟩:=id X
   obtain⟨r0,r1,r2,r3,r4⟩:=id R
   go_wp2_with fail
   refine bodyPost_ret (v:=.agg #[.float .f64 (S 0).1,.float .f64 (S 0).2]) (by simp [results,Tryz.results152,go_sem, *]) rfl ⟨rfl, ?_⟩
   repeat' (first | (with_reducible exact HB) | (with_reducible refine Below.setCell ?_ ?_ _) | go_size)
  | succ i =>
   obtain⟨x0,x1,x2,x3,x4⟩:=id X
   have hlt:(0:Int)<=(i:Int):=by omega
   have ei:((i+1:Nat):Int)-1=(i:Int):=by omega
   rw [ei]
   clear ei
   have c':=c i (by omega)
   clear c
   go_wp2_with (go_at_call 154;refine (c' _ HB).mono ?_;rintro _ w1 ⟨rfl,hb1⟩;replace X:=X.keep hb1;replace R:=R.keep hb1;replace HB:=later HB hb1;clear hb1;clear x0 x1 x2 x3 x4;obtain⟨x0,x1,x2,x3,x4⟩:=id X)
   go_roundg i
   case measure=>omega
   case rel =>
    refine⟨?_,i,Nat.le_refl _,by omega,rfl,X.put _ _,R.far (by omega) _ _⟩
    repeat' (first | (with_reducible exact HB) | (with_reducible refine Below.setCell ?_ ?_ _) | go_size)
set_option maxHeartbeats 1000000 in
theorem ser_odd (S:Nat->Nat×Nat) (N a b:Nat) (hN:N<1000) (w:World)
  (c:∀i,i<N->∀W,Below w.heap.size w W->Calls Tryz.prog 296 #[.int .i64 (i:Int),.agg #[.float .f64 (S (i+1)).1,.float .f64 (S (i+1)).2],.pointer (some ⟨a,0,none⟩),.pointer (some ⟨b,0,none⟩)] W fun e w'=>e=.returned (.agg #[.float .f64 (S i).1,.float .f64 (S i).2])/\Below W.heap.size W w') :
  Calls Tryz.prog 152 #[.int .i64 (N:Int),.agg #[.float .f64 (S N).1,.float .f64 (S N).2],.func (.func 296) #[] #[.pointer (some ⟨a,0,none⟩),.pointer (some ⟨b,0,none⟩)]] w fun e w'=>e=.returned (.agg #[.float .f64 (S 0).1,.float .f64 (S 0).2])/\Below w.heap.size w w':=by
 have X:Has2 ((w.alloc (.cells #[.float .f64 (S N).1,.float .f64 (S N).2] 24)).alloc (.cells #[.float .f64 0,.float .f64 0] 24)) w.heap.size (.float .f64 (S N).1) (.float .f64 (S N).2):=⟨by go_simp,by go_simp,by go_simp,by go_simp,by go_size⟩
 have R:Has2 ((w.alloc (.cells #[.float .f64 (S N).1,.float .f64 (S N).2] 24)).alloc (.cells #[.float .f64 0,.float .f64 0] 24)) (w.heap.size+1) (.float .f64 0) (.float .f64 0):=⟨by go_simp,by go_simp,by go_simp,by go_simp,by go_size⟩
 have HB:Below w.heap.size w ((w.alloc (.cells #[.float .f64 (S N).1,.float .f64 (S N).2] 24)).alloc (.cells #[.float .f64 0,.float .f64 0] 24)):=by go_grown
 go_enter Tryz.func152,Tryz.ntmps152
 go_wp2_with fail
 generalize ((w.alloc (.cells #[.float .f64 (S N).1,.float .f64 (S N).2] 24)).alloc (.cells #[.float .f64 0,.float .f64 0] 24))=V0 at *
 go_loopg [7] N (fun G s7 wx=>Below w.heap.size w wx/\∃k:Nat,k<=G/\k<=N/\s7=.int .i64 ((k:Int)-1)/\Has2 wx w.heap.size (.float .f64 (S k).1) (.float .f64 (S k).2)/\Has2 wx (w.heap.size+1) (.float .f64 0) (.float .f64 0))
 case atStart=>exact⟨HB,N,Nat.le_refl _,Nat.le_refl _,rfl,X,R⟩
 case round =>
  clear X R HB
  obtain⟨HB,k,hk,hl,rfl,X,R⟩:=hrel
  cases k with
  | zero =>
   obtain⟨x0,x1,x2,x3,x4⟩:=id X
   obtain⟨r0,r1,r2,r3,r4⟩:=id R
   go_wp2_with fail
   refine bodyPost_ret (v:=.agg #[.float .f64 (S 0).1,.float .f64 (S 0).2]) (by simp [results,Tryz.results152,go_sem, *]) rfl ⟨rfl, ?_⟩
   repeat' (first | (with_reducible exact HB) | (with_reducible refine Below.setCell ?_ ?_ _) | go_size)
  | succ i =>
   obtain⟨x0,x1,x2,x3,x4⟩:=id X
   have hlt:(0:Int)<=(i:Int):=by omega
   have ei:((i+1:Nat):Int)-1=(i:Int):=by omega
   rw [ei]
   clear ei
   have c':=c i (by omega)
   clear c
   go_wp2_with (go_at_call 296;refine (c' _ HB).mono ?_;rintro _ w1 ⟨rfl,hb1⟩;replace X:=X.keep hb1;replace R:=R.keep hb1;replace HB:=later HB hb1;clear hb1;clear x0 x1 x2 x3 x4;obtain⟨x0,x1,x2,x3,x4⟩:=id X)
   go_roundg i
   case measure=>omega
   case rel =>
    refine⟨?_,i,Nat.le_refl _,by omega,rfl,X.put _ _,R.far (by omega) _ _⟩
    repeat' (first | (with_reducible exact HB) | (with_reducible refine Below.setCell ?_ ?_ _) | go_size)
set_option maxHeartbeats 1000000 in
theorem ser_turn (S:Nat->Nat×Nat) (N z a b:Nat) (hN:N<1000) (w:World)
  (c:∀i,i<N->∀W,Below w.heap.size w W->Calls Tryz.prog 245 #[.int .i64 (i:Int),.agg #[.float .f64 (S (i+1)).1,.float .f64 (S (i+1)).2],.pointer (some ⟨z,0,none⟩),.pointer (some ⟨a,0,none⟩),.pointer (some ⟨b,0,none⟩)] W fun e w'=>e=.returned (.agg #[.float .f64 (S i).1,.float .f64 (S i).2])/\Below W.heap.size W w') :
  Calls Tryz.prog 152 #[.int .i64 (N:Int),.agg #[.float .f64 (S N).1,.float .f64 (S N).2],.func (.func 245) #[] #[.pointer (some ⟨z,0,none⟩),.pointer (some ⟨a,0,none⟩),.pointer (some ⟨b,0,none⟩)]] w fun e w'=>e=.returned (.agg #[.float .f64 (S 0).1,.float .f64 (S 0).2])/\Below w.heap.size w w':=by
 have X:Has2 ((w.alloc (.cells #[.float .f64 (S N).1,.float .f64 (S N).2] 24)).alloc (.cells #[.float .f64 0,.float .f64 0] 24)) w.heap.size (.float .f64 (S N).1) (.float .f64 (S N).2):=⟨by go_simp,by go_simp,by go_simp,by go_simp,by go_size⟩
 have R:Has2 ((w.alloc (.cells #[.float .f64 (S N).1,.float .f64 (S N).2] 24)).alloc (.cells #[.float .f64 0,.float .f64 0] 24)) (w.heap.size+1) (.float .f64 0) (.float .f64 0):=⟨by go_simp,by go_simp,by go_simp,by go_simp,by go_size⟩
 have HB:Below w.heap.size w ((w.alloc (.cells #[.float .f64 (S N).1,.float .f64 (S N).2] 24)).alloc (.cells #[.float .f64 0,.float .f64 0] 24)):=by go_grown
 go_enter Tryz.func152,Tryz.ntmps152
 go_wp2_with fail
 generalize ((w.alloc (.cells #[.float .f64 (S N).1,.float .f64 (S N).2] 24)).alloc (.cells #[.float .f64 0,.float .f64 0] 24))=V0 at *
 go_loopg [7] N (fun G s7 wx=>Below w.heap.size w wx/\∃k:Nat,k<=G/\k<=N/\s7=.int .i64 ((k:Int)-1)/\Has2 wx w.heap.size (.float .f64 (S k).1) (.float .f64 (S k).2)/\Has2 wx (w.heap.size+1) (.float .f64 0) (.float .f64 0))
 case atStart=>exact⟨HB,N,Nat.le_refl _,Nat.le_refl _,rfl,X,R⟩
 case round =>
  clear X R HB
  obtain⟨HB,k,hk,hl,rfl,X,R⟩:=hrel
  cases k with
  | zero =>
   obtain⟨x0,x1,x2,x3,x4⟩:=id X
   obtain⟨r0,r1,r2,r3,r4⟩:=id R
   go_wp2_with fail
   refine bodyPost_ret (v:=.agg #[.float .f64 (S 0).1,.float .f64 (S 0).2]) (by simp [results,Tryz.results152,go_sem, *]) rfl ⟨rfl, ?_⟩
   repeat' (first | (with_reducible exact HB) | (with_reducible refine Below.setCell ?_ ?_ _) | go_size)
  | succ i =>
   obtain⟨x0,x1,x2,x3,x4⟩:=id X
   have hlt:(0:Int)<=(i:Int):=by omega
   have ei:((i+1:Nat):Int)-1=(i:Int):=by omega
   rw [ei]
   clear ei
   have c':=c i (by omega)
   clear c
   go_wp2_with (go_at_call 245;refine (c' _ HB).mono ?_;rintro _ w1 ⟨rfl,hb1⟩;replace X:=X.keep hb1;replace R:=R.keep hb1;replace HB:=later HB hb1;clear hb1;clear x0 x1 x2 x3 x4;obtain⟨x0,x1,x2,x3,x4⟩:=id X)
   go_roundg i
   case measure=>omega
   case rel =>
    refine⟨?_,i,Nat.le_refl _,by omega,rfl,X.put _ _,R.far (by omega) _ _⟩
    repeat' (first | (with_reducible exact HB) | (with_reducible refine Below.setCell ?_ ?_ _) | go_size)
end Go.Proofs.YtopfabemfbdccaaGreat
