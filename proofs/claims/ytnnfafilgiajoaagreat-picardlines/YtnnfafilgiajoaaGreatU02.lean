/- Trimming: the plain facts, and a map whose keys are operations. Trimming: rows of whole numbers and of truths in blocks of the call's own; what is needed, and where it stands now: the plain facts. Trimming: the program's movedTo and needed. Trimming: a tape's three fields in a block; a map in a block. Trimming: the program's Trim. Trimming: the reference's Trim. PicardLines: two slices that are appended to in turn. -/
import Derived.Lib.Strings
import Derived.Lib.Slices
import Derived.Lib.Small
import Derived.Lib.Walk
import Derived.Lib.BitFns
import Derived.KernelRfl
import Derived.WalkKit
import Derived.Laws.Cover2
import Derived.Laws.FloatArith
import Derived.Laws.BitsAllLaws
import Derived.ProofKit
import Derived.OpenShut
import Derived.WalkSpells
import Derived.WalkLawsBesides
import Derived.Laws.Externs
import Derived.Laws.Bits64b
import Derived.Handy
import Derived.Deep.RegionWith
import Derived.Deep.QuietTactic
import Derived.BigQuiet
import Derived.Deep.RegionHeld3
import Derived.Deep.CutRange
import Derived.Deep.CutBlock
import Derived.Deep.LoopGhost
import Derived.WalkSmall
import Derived.ChangeSame
import Derived.JoinedOf
import Derived.JoinedAt
import Derived.RowKit3
import Derived.Deep.Slices
import Derived.WideKeyArgs
import Derived.Deep.Quiet
import Derived.StillTail
import Derived.Deep.SlicePairs
import Derived.Deep.AppendLies
import Derived.Deep.RegionLaw
import Derived.Lib.SliceRun
import Derived.WideKeyRuns
import Derived.Maps.Own
import Derived.Test.YtnnfafilgiajoaaGreatZ01
import Derived.Test.YtnnfafilgiajoaaGreatZ02
import Derived.Test.YtnnfafilgiajoaaGreatZ03
import Derived.Test.YtnnfafilgiajoaaGreatZ04
import Derived.Test.YtnnfafilgiajoaaGreatZ05
import Derived.Test.YtnnfafilgiajoaaGreatZ06
import Derived.Test.YtnnfafilgiajoaaGreatZ07
import Derived.Test.YtnnfafilgiajoaaGreatZ08
import Derived.Test.YtnnfafilgiajoaaGreatZ09
import Derived.Test.YtnnfafilgiajoaaGreatZ10
import Derived.Test.YtnnfafilgiajoaaGreatZ11
import Derived.Test.YtnnfafilgiajoaaGreatZ12
import Derived.Test.YtnnfafilgiajoaaGreatZ13
import Derived.Test.YtnnfafilgiajoaaGreatZ14
import Derived.Test.YtnnfafilgiajoaaGreatZ15
import Derived.Test.YtnnfafilgiajoaaGreatZ16
import Derived.Test.YtnnfafilgiajoaaGreatZ17
import Derived.Test.YtnnfafilgiajoaaGreatZ18
import Derived.Test.YtnnfafilgiajoaaGreatZ19
import Derived.Test.YtnnfafilgiajoaaGreatZ20
import Derived.Test.YtnnfafilgiajoaaGreatZ21
import Derived.Test.YtnnfafilgiajoaaGreatZ22
import Derived.Test.YtnnfafilgiajoaaGreatZ23
import Derived.Test.YtnnfafilgiajoaaGreatZ24
import Derived.Test.YtnnfafilgiajoaaGreatZ25
import Derived.Test.YtnnfafilgiajoaaGreatZ26
import Derived.Test.YtnnfafilgiajoaaGreatZ27
import Derived.Test.YtnnfafilgiajoaaGreatZ28
import Derived.Test.YtnnfafilgiajoaaGreatZ29
import Derived.Test.YtnnfafilgiajoaaGreatZ30
import Derived.Test.YtnnfafilgiajoaaGreatZ31
import Derived.Test.YtnnfafilgiajoaaGreatZ32
import Derived.Test.YtnnfafilgiajoaaGreatZ33
import Derived.Test.YtnnfafilgiajoaaGreatZ34
import Derived.Test.YtnnfafilgiajoaaGreatZ35
import Derived.Test.YtnnfafilgiajoaaGreatZ36
import Derived.Test.YtnnfafilgiajoaaGreatZ37
import Derived.Test.YtnnfafilgiajoaaGreatZ38
import Derived.Test.YtnnfafilgiajoaaGreatZ39
import Derived.Test.YtnnfafilgiajoaaGreatZ40
import Derived.Test.YtnnfafilgiajoaaGreatZ41
import Derived.Test.YtnnfafilgiajoaaGreatZ42
import Derived.Test.YtnnfafilgiajoaaGreatZ43
import Derived.Test.YtnnfafilgiajoaaGreatZ44
import Derived.Test.YtnnfafilgiajoaaGreatZ45
import Derived.Test.YtnnfafilgiajoaaGreatZ46
import Derived.Test.YtnnfafilgiajoaaGreatZ47
import Derived.Test.YtnnfafilgiajoaaGreatZ48
import Derived.Test.YtnnfafilgiajoaaGreatZ49
import Derived.Test.YtnnfafilgiajoaaGreatU01
namespace Go.Proofs.YtnnfafilgiajoaaGreat
open Go.ChangeShapes Go.WideShapes Go.ChangeAt Go.RowKit
def Opw.ok (x:Opw):Prop:=x.lo<18446744073709551616∧x.hi<18446744073709551616
def putM (w:World) (r:Nat) (o:Obj):World:={ w with heap:=w.heap.setIfInBounds r o }
theorem Tryz.infoInt:(Tryz.prog.info? 3).map (fun i=>(i.zero,i.size,i.bytes))=some (some (.int .i64 0),1,8):=by kernel_rfl
theorem Tryz.infoOp:(Tryz.prog.info? 45).map (fun i=>(i.zero,i.size,i.bytes))=some (some (.agg #[.int .i64 0,.int .i64 0,.int .i64 0,.int .i64 0,.float .f64 0,.float .f64 0]),6,48):=by kernel_rfl
def OwnN (B:Nat) (w:World) (v:Value) (zs:List Int):Prop:=w.ownsRow B 3 1 v zs.length (zs.map fun z=>Value.int .i64 z)
theorem own_keep {B:Nat} {w w2:World} {e:TypeId} {sz:Nat} {v:Value} {n:Nat} {xs:List Value} (h:w.ownsRow B e sz v n xs) (hb:Below w.heap.size w w2):w2.ownsRow B e sz v n xs:=by
 refine⟨h.1, ?_⟩
 rcases h.2 with hn | ⟨g,cap,cur,hv,hb2,hg,rest⟩
 · exact .inl hn
 · have hlt:g<w.heap.size:=(Array.getElem?_eq_some_iff.1 hg).1
   refine .inr ⟨g,cap,cur,hv,hb2, ?_,rest⟩
   rw [←hg]
   exact hb.block g hlt
def opCells (T:List Opw):List Value:=T.flatMap fun o=>[.int .i64 o.k,.int .i64 o.a,.int .i64 o.b,.int .i64 o.n,.float .f64 o.lo,.float .f64 o.hi]
def OwnO (B:Nat) (w:World) (v:Value) (T:List Opw):Prop:=w.ownsRow B 45 6 v T.length (opCells T)
def zeroO:Opw:=⟨0,0,0,0,0,0⟩
structure Tap3 (w:World) (b:Nat) (x y z:Value):Prop where
 c0:w.cell? ⟨b,0,none⟩=some x
 c1:w.cell? ⟨b,1,none⟩=some y
 c2:w.cell? ⟨b,2,none⟩=some z
 f0:w.frozen? ⟨b,0,none⟩=false
 f1:w.frozen? ⟨b,1,none⟩=false
 f2:w.frozen? ⟨b,2,none⟩=false
 lt:b<w.heap.size
theorem Tap3.keepB {B:Nat} {w w2:World} {b:Nat} {x y z:Value} (h:Tap3 w b x y z) (hb:Below B w w2) (hg:b<B) (hs:w.heap.size≤w2.heap.size):Tap3 w2 b x y z :=
 ⟨(hb.cell hg).trans h.c0,(hb.cell hg).trans h.c1,(hb.cell hg).trans h.c2,(hb.frozen hg).trans h.f0,(hb.frozen hg).trans h.f1,(hb.frozen hg).trans h.f2,Nat.lt_of_lt_of_le h.lt hs⟩
theorem Tap3.keep {w w2:World} {b:Nat} {x y z:Value} (h:Tap3 w b x y z) (hb:Below w.heap.size w w2):Tap3 w2 b x y z:=h.keepB hb h.lt hb.size
theorem tap3_new (w:World) (x y z:Value) (T:TypeId):Tap3 (w.alloc (.cells #[x,y,z] T)) w.heap.size x y z :=
 ⟨by go_simp,by go_simp,by go_simp,by go_simp,by go_simp,by go_simp,by go_size⟩
theorem Tap3.set1 {w:World} {b:Nat} {x y z:Value} (h:Tap3 w b x y z) (v:Value):Tap3 (w.setCell ⟨b,1,none⟩ v) b x v z:=by
 obtain⟨a0,a1,a2,b0,b1,b2,l⟩:=h
 exact⟨by go_simp,by go_simp,by go_simp,by go_simp,by go_simp,by go_simp,by simp only [World.size_setCell];exact l⟩
theorem Tap3.set2 {w:World} {b:Nat} {x y z:Value} (h:Tap3 w b x y z) (v:Value):Tap3 (w.setCell ⟨b,2,none⟩ v) b x y v:=by
 obtain⟨a0,a1,a2,b0,b1,b2,l⟩:=h
 exact⟨by go_simp,by go_simp,by go_simp,by go_simp,by go_simp,by go_simp,by simp only [World.size_setCell];exact l⟩
theorem putM_off {w:World} {r b:Nat} {o:Obj} (h:b≠r):(putM w r o).heap[b]?=w.heap[b]?:=by
 have:r≠b:=fun e=>h e.symm
 simp [putM,this]
theorem own_put {B:Nat} {w:World} {e:TypeId} {sz:Nat} {v:Value} {n:Nat} {xs:List Value} (h:w.ownsRow B e sz v n xs) {r:Nat} (hr:r<B) (o:Obj):(putM w r o).ownsRow B e sz v n xs:=by
 refine⟨h.1, ?_⟩
 rcases h.2 with hn | ⟨g,cap,cur,hv,hb2,hg,rest⟩
 · exact .inl hn
 · exact .inr ⟨g,cap,cur,hv,hb2,by rw [putM_off (by omega)];exact hg,rest⟩
theorem own_set {B:Nat} {w:World} {e:TypeId} {sz:Nat} {v:Value} {n:Nat} {xs:List Value} (h:w.ownsRow B e sz v n xs) {r k:Nat} (hr:r<B) (u:Value):(w.setCell ⟨r,k,none⟩ u).ownsRow B e sz v n xs:=by
 refine⟨h.1, ?_⟩
 rcases h.2 with hn | ⟨g,cap,cur,hv,hb2,hg,rest⟩
 · exact .inl hn
 · refine .inr ⟨g,cap,cur,hv,hb2, ?_,rest⟩
   rw [←hg]
   exact Below.heap_setCell w ⟨r,k,none⟩ u g (by show g≠r;omega)
theorem own_form {B:Nat} {w:World} {e:TypeId} {sz:Nat} {v:Value} {n:Nat} {xs:List Value} (h:w.ownsRow B e sz v n xs):∃a c,v=.slice a n c:=by
 rcases h.2 with ⟨rfl,rfl⟩ | ⟨g,cap,cur,rfl, -⟩
 · exact⟨none,0,rfl⟩
 · exact⟨_,cap,rfl⟩
theorem opCells_at (T:List Opw) (j:Nat) (x:Opw) (h:T[j]?=some x):(opCells T)[j*6]?=some (.int .i64 x.k)∧(opCells T)[j*6+1]?=some (.int .i64 x.a)∧(opCells T)[j*6+2]?=some (.int .i64 x.b)∧(opCells T)[j*6+3]?=some (.int .i64 x.n)∧(opCells T)[j*6+4]?=some (.float .f64 x.lo)∧(opCells T)[j*6+5]?=some (.float .f64 x.hi):=by
 induction T generalizing j with
 | nil=>simp at h
 | cons q t ih =>
   have e:opCells (q :: t)=.int .i64 q.k :: .int .i64 q.a :: .int .i64 q.b :: .int .i64 q.n :: .float .f64 q.lo :: .float .f64 q.hi :: opCells t:=rfl
   rw [e]
   cases j with
   | zero =>
     simp at h
     subst h
     exact⟨rfl,rfl,rfl,rfl,rfl,rfl⟩
   | succ j =>
     have h':t[j]?=some x:=by simpa using h
     have:=ih j h'
     rw [show (j+1)*6=j*6+6 by omega,show j*6+6+1=(j*6+1)+6 by omega,show j*6+6+2=(j*6+2)+6 by omega,show j*6+6+3=(j*6+3)+6 by omega,show j*6+6+4=(j*6+4)+6 by omega,show j*6+6+5=(j*6+5)+6 by omega]
     simpa using this
theorem opCells_len (T:List Opw):(opCells T).length=T.length*6:=by
 induction T with
 | nil=>rfl
 | cons q t ih =>
   have e:opCells (q :: t)=.int .i64 q.k :: .int .i64 q.a :: .int .i64 q.b :: .int .i64 q.n :: .float .f64 q.lo :: .float .f64 q.hi :: opCells t:=rfl
   rw [e]
   simp only [List.length_cons]
   omega
theorem own_ops {B:Nat} {w:World} {v:Value} {T:List Opw} (h:OwnO B w v T) (hk:∀t∈T,t.ok):∃A C,v=.slice A T.length C∧Ops w A T.length (fun j=>T.getD j zeroO):=by
 have h':w.ownsRow B 45 6 v T.length (opCells T):=h
 rcases h'.2 with ⟨rfl,hn⟩ | ⟨g,cap,cur,rfl, -⟩
 · rw [hn]
   exact⟨none,0,rfl,fun i hi=>by omega⟩
 · have hl:=(World.ownsRow.lt h' g rfl).2
   refine⟨_,cap,rfl,fun i hi=>?_⟩
   obtain⟨x,hx⟩:∃x,T[i]?=some x:=⟨_,List.getElem?_eq_getElem hi⟩
   have e:T.getD i zeroO=x:=by simp [List.getD,hx]
   have e':(fun j=>T.getD j zeroO) i=x:=e
   have L:=opCells_len T
   obtain⟨a0,a1,a2,a3,a4,a5⟩:=opCells_at T i x hx
   have ok:=hk x (List.mem_of_getElem? hx)
   refine⟨g,0,rfl,hl, ?_, ?_, ?_, ?_, ?_, ?_, ?_, ?_⟩
   · rw [Nat.zero_add,World.ownsRow.cellAt h' _ (by omega),a0,e']
   · rw [Nat.zero_add,World.ownsRow.cellAt h' _ (by omega),a1,e']
   · rw [Nat.zero_add,World.ownsRow.cellAt h' _ (by omega),a2,e']
   · rw [Nat.zero_add,World.ownsRow.cellAt h' _ (by omega),a3,e']
   · rw [Nat.zero_add,World.ownsRow.cellAt h' _ (by omega),a4,e']
   · rw [Nat.zero_add,World.ownsRow.cellAt h' _ (by omega),a5,e']
   · show (T.getD i zeroO).lo<_;rw [e];exact ok.1
   · show (T.getD i zeroO).hi<_;rw [e];exact ok.2
theorem own_blk {B:Nat} {w w2:World} {e:TypeId} {sz:Nat} {v:Value} {n:Nat} {xs:List Value} (h:w.ownsRow B e sz v n xs) (hb:∀g,g<w.heap.size→v.ownBlock=some g→w2.heap[g]?=w.heap[g]?):w2.ownsRow B e sz v n xs:=by
 refine⟨h.1, ?_⟩
 rcases h.2 with hn | ⟨g,cap,cur,hv,hb2,hg,rest⟩
 · exact .inl hn
 · have hlt:g<w.heap.size:=(Array.getElem?_eq_some_iff.1 hg).1
   exact .inr ⟨g,cap,cur,hv,hb2,(hb g hlt (by rw [hv];rfl)).trans hg,rest⟩
theorem own_kinds {B:Nat} {w:World} {e1 e2:TypeId} {s1 s2:Nat} {v1 v2:Value} {n1 n2:Nat} {x1 x2:List Value} (h1:w.ownsRow B e1 s1 v1 n1 x1) (h2:w.ownsRow B e2 s2 v2 n2 x2) (hne:e1≠e2) {g:Nat} (hg:v1.ownBlock=some g):v2.ownBlock≠some g:=by
 intro hg2
 rcases h1.2 with ⟨rfl, -⟩ | ⟨g1,c1,u1,rfl, -,q1, -⟩
 · cases hg
 rcases h2.2 with ⟨rfl, -⟩ | ⟨g2,c2,u2,rfl, -,q2, -⟩
 · cases hg2
 have a1:g1=g:=by simpa [Value.ownBlock] using hg
 have a2:g2=g:=by simpa [Value.ownBlock] using hg2
 subst a1 a2
 rw [q1] at q2
 have:=Option.some.inj q2
 injection this with p1 p2
 exact hne p2
theorem wpList_pushN4 {B:Nat} {w0 wr:World} {ops:Array Oper} {rest:List Oper} {o:Oper} {a:Act} {Q:Exit→Act→World→Prop} (hgd:o.guard=none) (s x:Operand)
   (ho:o.op=.call { callee:=.builtin .append,args:=#[s,x],argTypes:=#[23,23] }) (v:Value) (zs:List Int) (z:Int) (hs:a.eval s=v) (hx:a.eval x=.slice (some ⟨wr.heap.size,0,none⟩) 1 1)
   (hown:OwnN B wr v zs) (hl:zs.length≤2000000) (hB:B≤wr.heap.size) (hbel:Below B w0 wr)
   (h:∀v' w',OwnN B w' v' (zs++[z])→Below B w0 w'→Below B wr w'→wr.heap.size≤w'.heap.size→(∀g,g<wr.heap.size→v.ownBlock≠some g→w'.heap[g]?=wr.heap[g]?)→wpList Tryz.prog ops Q rest (a.put o.dst v') w'):wpList Tryz.prog ops Q (o :: rest) a (wr.alloc (.cells #[.int .i64 z] 3)):=by
 obtain⟨i0,hi,hz0,hz1,hz2⟩:=info_parts Tryz.infoInt
 have hal:Below wr.heap.size wr (wr.alloc (.cells #[.int .i64 z] 3)):=(Below.refl _ _).alloc (Nat.le_refl _) _
 have hown':(wr.alloc (.cells #[.int .i64 z] 3)).ownsRow B 3 1 v zs.length (zs.map fun z=>Value.int .i64 z):=own_keep hown hal
 refine wpList_append_own _ hgd s x 23 ho B 3 i0 (.int .i64 0) 1 8 Tryz.underlying23 hi hz0 hz1 hz2 rfl (by decide) v zs.length _ hs hown' ⟨wr.heap.size,0,none⟩ 1 1 [.int .i64 z] hx rfl ?_ ?_ (by unfold maxLen;omega) (by omega) (by simp;omega) ?_
 · intro j u hj
   match j,hj with
   | 0,hj=>simp at hj;subst hj;simp [Addr.add]
 · intro u hu
   simp at hu
   rw [hu]
   rfl
 · intro v' w' h1 h2 _
   have lt:∀k,v.ownBlock=some k→B≤k:=fun k hk=>(World.ownsRow.lt hown k hk).1
   have sz:=h2.size
   simp only [World.size_alloc] at sz
   refine h v' w' ?_ ((hbel.alloc hB _).grown h2 (by simp;omega) lt) (((Below.refl B wr).alloc hB _).grown h2 (by simp;omega) lt) (by omega) (fun g hg hne=>(h2.block g (by simp;omega) (fun e=>hne e.symm)).trans (hal.block g hg))
   unfold OwnN
   rw [List.length_append,List.map_append]
   exact h1
theorem wpList_pushO4 {B:Nat} {w0 wr:World} {ops:Array Oper} {rest:List Oper} {o:Oper} {a:Act} {Q:Exit→Act→World→Prop} (hgd:o.guard=none) (s x:Operand)
   (ho:o.op=.call { callee:=.builtin .append,args:=#[s,x],argTypes:=#[22,22] }) (v:Value) (T:List Opw) (z:Opw) (hs:a.eval s=v) (hx:a.eval x=.slice (some ⟨wr.heap.size,0,none⟩) 1 1)
   (hown:OwnO B wr v T) (hl:T.length≤200000) (hB:B≤wr.heap.size) (hbel:Below B w0 wr)
   (h:∀v' w',OwnO B w' v' (T++[z])→Below B w0 w'→Below B wr w'→wr.heap.size≤w'.heap.size→(∀g,g<wr.heap.size→v.ownBlock≠some g→w'.heap[g]?=wr.heap[g]?)→wpList Tryz.prog ops Q rest (a.put o.dst v') w'):wpList Tryz.prog ops Q (o :: rest) a (wr.alloc (.cells #[.int .i64 z.k,.int .i64 z.a,.int .i64 z.b,.int .i64 z.n,.float .f64 z.lo,.float .f64 z.hi] 45)):=by
 obtain⟨i0,hi,hz0,hz1,hz2⟩:=info_parts Tryz.infoOp
 have hal:Below wr.heap.size wr (wr.alloc (.cells #[.int .i64 z.k,.int .i64 z.a,.int .i64 z.b,.int .i64 z.n,.float .f64 z.lo,.float .f64 z.hi] 45)):=(Below.refl _ _).alloc (Nat.le_refl _) _
 have hown':(wr.alloc (.cells #[.int .i64 z.k,.int .i64 z.a,.int .i64 z.b,.int .i64 z.n,.float .f64 z.lo,.float .f64 z.hi] 45)).ownsRow B 45 6 v T.length (opCells T):=own_keep hown hal
 refine wpList_append_own _ hgd s x 22 ho B 45 i0 (.agg #[.int .i64 0,.int .i64 0,.int .i64 0,.int .i64 0,.float .f64 0,.float .f64 0]) 6 48 Tryz.underlying22 hi hz0 hz1 hz2 rfl (by decide) v T.length _ hs hown' ⟨wr.heap.size,0,none⟩ 1 1 [.int .i64 z.k,.int .i64 z.a,.int .i64 z.b,.int .i64 z.n,.float .f64 z.lo,.float .f64 z.hi] hx rfl ?_ ?_ (by unfold maxLen;omega) (by omega) (by simp;omega) ?_
 · intro j u hj
   match j,hj with
   | 0,hj=>simp at hj;subst hj;simp [Addr.add]
   | 1,hj=>simp at hj;subst hj;simp [Addr.add]
   | 2,hj=>simp at hj;subst hj;simp [Addr.add]
   | 3,hj=>simp at hj;subst hj;simp [Addr.add]
   | 4,hj=>simp at hj;subst hj;simp [Addr.add]
   | 5,hj=>simp at hj;subst hj;simp [Addr.add]
 · intro u hu
   simp at hu
   rcases hu with rfl | rfl | rfl | rfl | rfl | rfl <;> rfl
 · intro v' w' h1 h2 _
   have lt:∀k,v.ownBlock=some k→B≤k:=fun k hk=>(World.ownsRow.lt hown k hk).1
   have sz:=h2.size
   simp only [World.size_alloc] at sz
   refine h v' w' ?_ ((hbel.alloc hB _).grown h2 (by simp;omega) lt) (((Below.refl B wr).alloc hB _).grown h2 (by simp;omega) lt) (by omega) (fun g hg hne=>(h2.block g (by simp;omega) (fun e=>hne e.symm)).trans (hal.block g hg))
   unfold OwnO
   have e:opCells (T++[z])=opCells T++[.int .i64 z.k,.int .i64 z.a,.int .i64 z.b,.int .i64 z.n,.float .f64 z.lo,.float .f64 z.hi]:=by simp [opCells]
   rw [e,List.length_append]
   exact h1
theorem OwnN.other {B:Nat} {w w2:World} {v v2:Value} {zs:List Int} {T:List Opw} (h:OwnN B w v zs) (k:OwnO B w v2 T) (hb:∀g,g<w.heap.size→v2.ownBlock≠some g→w2.heap[g]?=w.heap[g]?):OwnN B w2 v zs:=own_blk h fun g hg e=>hb g hg (own_kinds h k (by decide) e)
theorem OwnO.other {B:Nat} {w w2:World} {v v2:Value} {zs:List Int} {T:List Opw} (h:OwnO B w v T) (k:OwnN B w v2 zs) (hb:∀g,g<w.heap.size→v2.ownBlock≠some g→w2.heap[g]?=w.heap[g]?):OwnO B w2 v T:=own_blk h fun g hg e=>hb g hg (own_kinds h k (by decide) e)
theorem own_ins {B:Nat} {w:World} {v:Value} {zs:List Int} (h:OwnN B w v zs):∃A C,v=.slice A zs.length C∧Ins w A zs.length (fun j=>zs.getD j 0):=by
 have h':w.ownsRow B 3 1 v zs.length (zs.map fun z=>Value.int .i64 z):=h
 rcases h'.2 with ⟨rfl,hn⟩ | ⟨g,cap,cur,rfl, -⟩
 · rw [hn]
   exact⟨none,0,rfl,fun i hi=>by omega⟩
 · have hl:=(World.ownsRow.lt h' g rfl).2
   refine⟨_,cap,rfl,fun i hi=>⟨g,0,rfl,hl, ?_⟩⟩
   rw [Nat.zero_add,World.ownsRow.cellAt h' _ (by omega)]
   simp [hi]
def cOp (r:Nat×Nat):Opw:=⟨1,0,0,0,r.1,r.2⟩
def opsL (R:Nat→Nat×Nat) (i:Nat):List Opw:=(List.range i).map fun j=>cOp (R j)
def numL (i:Nat):List Int:=(List.range i).map fun j:Nat=>(j:Int)
theorem opsL_step (R:Nat→Nat×Nat) (i:Nat):opsL R (i+1)=opsL R i++[cOp (R i)]:=by unfold opsL;rw [List.range_succ,List.map_append];rfl
theorem numL_step (i:Nat):numL (i+1)=numL i++[(i:Int)]:=by unfold numL;rw [List.range_succ,List.map_append];rfl
theorem opsL_len (R:Nat→Nat×Nat) (i:Nat):(opsL R i).length=i:=by unfold opsL;rw [List.length_map,List.length_range]
theorem numL_len (i:Nat):(numL i).length=i:=by unfold numL;rw [List.length_map,List.length_range]
end Go.Proofs.YtnnfafilgiajoaaGreat
