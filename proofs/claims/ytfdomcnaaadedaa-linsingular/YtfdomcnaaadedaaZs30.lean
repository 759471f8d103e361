/- The greatest power of two of a row of floats. Rows of floats that may be written, whatever they hold; Go's own operators always answer a float. -/
import Derived.Test.YtfdomcnaaadedaaZs29
import Derived.Test.YtfdomcnaaadedaaZs25
import Derived.Test.YtfdomcnaaadedaaZs10
import Derived.Test.YtfdomcnaaadedaaZs24
import Derived.Laws.CopyOwn
namespace Go.Proofs.Ytfdomcnaaadedaa
open Go.ChangeShapes Go.WideShapes Go.ChangeAt Go.RowKit
theorem bl_le (m:Nat) (h:m<9007199254740992):Lib.bitLen m≤64:=by
 by_cases h0:m=0
 · subst h0;decide
 · rw [bitLen_log2 m h0 (by omega)]
   have:=(Nat.log2_lt h0).2 (show m<2^53 by omega)
   omega
def zeB (x:Nat):Bool:=FloatKind.f64.format.order x 0==some .eq
def gpI (X:Nat→Nat) (D:Nat→Int):Nat→Int
 | 0=>-9223372036854775808
 | j+1=>if zeB (X j) then gpI X D j else max (gpI X D j) (pwI (X j)-D j)
theorem pw_bounds {x:Nat} (hf:finB x=true):-1074≤pwI x∧pwI x≤1035:=by
 have a:=splitE_bounds hf
 have b:=bl_le (splitM x) (splitM_lt x)
 unfold pwI
 omega
set_option maxHeartbeats 2000000 in
theorem gp_w (A B:Option Addr) (n C E:Nat) (X:Nat→Nat) (D:Nat→Int) (hn:n≤3000000) (hf:∀j,j<n→finB (X j)=true) (hD:∀j,j<n→zeB (X j)=false→-100000≤D j∧D j≤100000) (w:World) (V:Fls w A n X)
   (U:∀j,j<n→∃b o,B=some ⟨b,o,none⟩∧b<w.heap.size∧w.cell? ⟨b,o+j,none⟩=some (.int .i64 (D j))) :
   Calls Try.prog 32 #[.slice A n C,.slice B n E] w fun e w'=>e=.returned (.int .i64 (gpI X D n))∧Below w.heap.size w w':=by
 have HF:Hid (∀j,j<n→finB (X j)=true):=hf
 have HD:Hid (∀j,j<n→zeB (X j)=false→-100000≤D j∧D j≤100000):=hD
 have HU:Hid (∀j,j<n→∃b o,B=some ⟨b,o,none⟩∧b<w.heap.size∧w.cell? ⟨b,o+j,none⟩=some (.int .i64 (D j))):=U
 clear hf hD U
 go_enter Try.func32,Try.ntmps32
 go_wp2_with fail
 go_loopg [5,10] n (fun G s5 s10 wx=>Below w.heap.size w wx∧∃j:Nat,j+G=n∧s10=.int .i64 (j:Int)∧s5=.int .i64 (gpI X D j))
 case atStart=>exact⟨Below.refl _ _,0,by omega,rfl,rfl⟩
 case round =>
   obtain⟨HB,j,hj,rfl,rfl⟩:=hrel
   by_cases cj:j=n
   · subst cj
     go_wp2_with fail
     go_ret
     exact⟨rfl,HB⟩
   · have hltj:(j:Int)<(n:Int):=by omega
     obtain⟨b1,o1,hA1,lb1,x0,lx⟩:=(V.keep HB) j (by omega)
     have hfj:=HF.out j (by omega)
     cases hz:zeB (X j)
     · have nx:Hid (gpI X D (j+1)=max (gpI X D j) (pwI (X j)-D j)):=by
         show (if zeB (X j)=true then gpI X D j else max (gpI X D j) (pwI (X j)-D j))=_
         rw [if_neg (by rw [hz];simp)]
       have cp:=fun w=>powerOf_w (X j) lx hfj (bl_le _ (splitM_lt _)) w
       obtain⟨d1,d2⟩:=HD.out j (by omega) hz
       obtain⟨p1,p2⟩:=pw_bounds hfj
       obtain⟨b2,o2,hB2,lb2,u0⟩:=HU.out j (by omega)
       replace u0:=keepsC HB u0 lb2
       replace lb2:=Nat.lt_of_lt_of_le lb2 HB.size
       have hz2:(FloatKind.f64.format.order (X j) 0 != some .eq)=true:=by unfold zeB at hz;simp only [bne,hz,Bool.not_false]
       clear hz
       generalize gpI X D j=gp at *
       generalize pwI (X j)=pw at *
       generalize D j=d at *
       generalize X j=x at *
       subst hA1
       subst hB2
       go_upto_region 6 with fail
       have ku:=fun n:Behind wr=>n.cell u0 lb2
       refine tail_behind 9 (by kernel_rfl) (by kernel_rfl) ?_
       simp only [List.take_succ_cons,List.take_zero,List.drop_succ_cons,List.drop_zero]
       repeat (go_big_quiet_step (first | (go_at_call 62;with_reducible refine Behind.call (cp _))))
       refine wpQuiet_nil ?_
       rintro _ ⟨q,rfl⟩
       obtain⟨W,hb1⟩:=q
       dsimp only
       clear ku
       replace HB:=later HB hb1
       go_wp2_with fail
       go_roundg (n-j-1)
       case measure=>omega
       case rel=>exact⟨HB,j+1,by omega,by go_num,by rw [nx.out]⟩
     · have nx:Hid (gpI X D (j+1)=gpI X D j):=by
         show (if zeB (X j)=true then gpI X D j else max (gpI X D j) (pwI (X j)-D j))=_
         rw [if_pos hz]
       have hz2:(FloatKind.f64.format.order (X j) 0 != some .eq)=false:=by unfold zeB at hz;simp only [bne,hz,Bool.not_true]
       clear hz
       generalize gpI X D j=gp at *
       generalize X j=x at *
       subst hA1
       go_wp2_with fail
       go_roundg (n-j-1)
       case measure=>omega
       case rel=>exact⟨HB,j+1,by omega,by go_num,by rw [nx.out]⟩
theorem bits_lt {op:BinOp} {a b r:Nat} (h:floatBits op .f64 a b=some r):r<18446744073709551616:=by
 have q:=floatBits_wf h
 unfold Lit.wf at q
 simpa using q
def Flo (w:World) (g m:Nat):Prop:=∃(cs:Array Value) (t:TypeId),w.heap[g]?=some (.cells cs t (0,0))∧cs.size=m∧∀i,i<m→∃x,cs[i]?=some (.float .f64 x)∧x<18446744073709551616
theorem Flo.lt {w:World} {g m:Nat} (h:Flo w g m):g<w.heap.size:=by
 obtain⟨cs,t,hg, -⟩:=h
 exact (Array.getElem?_eq_some_iff.1 hg).1
theorem Flo.at {w:World} {g m:Nat} (h:Flo w g m) (i:Nat) (hi:i<m):∃x,w.cell? ⟨g,i,none⟩=some (.float .f64 x)∧w.frozen? ⟨g,i,none⟩=false∧x<18446744073709551616:=by
 obtain⟨cs,t,hg,hm,hx⟩:=h
 obtain⟨x,e,hl⟩:=hx i hi
 exact⟨x,by simp [World.cell?,hg,e],by simp [World.frozen?,hg],hl⟩
theorem Flo.block {w w2:World} {g m:Nat} (h:Flo w g m) (e:w2.heap[g]?=w.heap[g]?):Flo w2 g m:=by
 obtain⟨cs,t,hg,r⟩:=h
 exact⟨cs,t,e.trans hg,r⟩
theorem Flo.keep {w w2:World} {g m:Nat} (h:Flo w g m) (hb:Below w.heap.size w w2):Flo w2 g m:=h.block (hb.block g h.lt)
theorem Flo.set {w:World} {g m:Nat} (h:Flo w g m) (c k y:Nat) (hy:y<18446744073709551616):Flo (w.setCell ⟨c,k,none⟩ (.float .f64 y)) g m:=by
 by_cases e:c=g
 · subst e
   obtain⟨cs,t,hg,hm,hx⟩:=h
   refine⟨cs.setIfInBounds k (.float .f64 y),t, ?_,by simp [hm],fun i hi=>?_⟩
   · simp [World.setCell,Array.getElem?_modify,hg]
   · by_cases q:i=k
     · subst q
       exact⟨y,by rw [Array.getElem?_setIfInBounds];simp [hm,hi],hy⟩
     · obtain⟨x,ex,hl⟩:=hx i hi
       exact⟨x,by rw [Array.getElem?_setIfInBounds,if_neg (fun h=>q h.symm)];exact ex,hl⟩
 · exact h.block (Below.heap_setCell _ _ _ _ (fun h=>e h.symm))
structure Wrt (B g:Nat) (w w':World):Prop where
 below:Below B w w'
 flo:∀c m,Flo w c m→Flo w' c m
 rest:∀c,c≠g→c<w.heap.size→w'.heap[c]?=w.heap[c]?
theorem Wrt.refl (B g:Nat) (w:World):Wrt B g w w:=⟨Below.refl _ _,fun _ _ h=>h,fun _ _ _=>rfl⟩
theorem Wrt.drew {B g:Nat} {a w:World} (h:Wrt B g a w):Wrt B g a w.drew:=⟨h.below.drew,fun c m f=>(h.flo c m f).block rfl,h.rest⟩
theorem Wrt.set {B g:Nat} {a w:World} (h:Wrt B g a w) (hB:B≤g) (k y:Nat) (hy:y<18446744073709551616):Wrt B g a (w.setCell ⟨g,k,none⟩ (.float .f64 y)) :=
 ⟨h.below.setCell hB _,fun c m f=>(h.flo c m f).set _ _ _ hy,fun c n l=>(Below.heap_setCell _ _ _ _ n).trans (h.rest c n l)⟩
def opV (op:BinOp) (a b:Nat) (w:World):Nat:=match floatBits op .f64 a b with | some r=>r | none=>nanOf a b w
def opW (op:BinOp) (a b:Nat) (w:World):World:=match floatBits op .f64 a b with | some _=>w | none=>w.drew
theorem opV_lt (op:BinOp) (a b:Nat) (w:World):opV op a b w<18446744073709551616:=by
 unfold opV
 split
 · rename_i r h
   exact bits_lt h
 · exact (nanOf_nan _ _ _).2
theorem opW_cell (op:BinOp) (a b:Nat) (w:World) (A:Addr):(opW op a b w).cell? A=w.cell? A:=by unfold opW;split <;> rfl
theorem opW_frozen (op:BinOp) (a b:Nat) (w:World) (A:Addr):(opW op a b w).frozen? A=w.frozen? A:=by unfold opW;split <;> rfl
theorem Wrt.op {B g:Nat} {x w:World} (h:Wrt B g x w) (op:BinOp) (a b:Nat):Wrt B g x (opW op a b w):=by
 unfold opW
 split
 · exact h
 · exact h.drew
theorem run_op (op:BinOp) (hop:op=.add∨op=.sub∨op=.mul∨op=.quo) (t:TypeId) (a b:Nat) (w:World) :
   (binOp op t (.float .f64 a) (.float .f64 b)).run Try.prog w=.ok (.float .f64 (opV op a b w)) (opW op a b w):=by
 unfold opV opW
 cases h:floatBits op .f64 a b with
 | some r=>exact run_float_arith (P:=Try.prog) w op t .f64 a b r h
 | none =>
   rcases hop with rfl | rfl | rfl | rfl
   all_goals
     unfold floatBits at h
     simp only at h
     simp [binOp,Op.floatArith,h,nanOf,Question.forced]
theorem Out.block {w w2:World} {g n:Nat} {f:Nat→Value} (h:Out w g n f) (e:w2.heap[g]?=w.heap[g]?) (hs:w.heap.size≤w2.heap.size):Out w2 g n f :=
 ⟨Nat.lt_of_lt_of_le h.1 hs,fun i hi=>⟨(World.cell?_of_block e).trans (h.2 i hi).1,(World.frozen?_of_block e).trans (h.2 i hi).2⟩⟩
theorem Flo.fls {w:World} {g m:Nat} (h:Flo w g m) (o n:Nat) (ho:o+n≤m):∃X:Nat→Nat,∀i,i<n→w.cell? ⟨g,o+i,none⟩=some (.float .f64 (X i))∧X i<18446744073709551616:=by
 have q:∀i,∃x,i<n→w.cell? ⟨g,o+i,none⟩=some (.float .f64 x)∧x<18446744073709551616:=fun i=>by
   by_cases hi:i<n
   · obtain⟨x,a, -,b⟩:=h.at (o+i) (by omega)
     exact⟨x,fun _=>⟨a,b⟩⟩
   · exact⟨0,fun h=>absurd h hi⟩
 exact⟨fun i=>Classical.choose (q i),fun i hi=>Classical.choose_spec (q i) hi⟩
end Go.Proofs.Ytfdomcnaaadedaa
