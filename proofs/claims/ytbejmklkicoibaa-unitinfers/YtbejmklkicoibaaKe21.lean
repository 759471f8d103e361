/- Products of dimensions and unknowns, as values and boxes; unit.ofKnown, ofUnknown. unit.ofUnknown, product.times, product.power. unit: product.power, variables.of. -/
import Derived.Test.YtbejmklkicoibaaSh
import Derived.Test.YtbejmklkicoibaaKe20
import Derived.BigQuiet
namespace Go.Proofs.Ytbejmklkicoibaa
open Go.ChangeShapes Go.WideShapes Go.ChangeAt Go.RowKit
section
variable {P:Program} {ops:Array Oper} {Q:Exit->Act->World->Prop} {a:Act} {w:World} {rest:List Oper} {o:Oper}
theorem run_loadBig {cs:List Value} {T:TypeId} {p:Operand} (ho:o.op=.load T p) {fs:_} (hu:P.underlying T=some (.struct fs)) (hi:(P.info? T).map (·.size)=some cs.length) {b off:Nat} (hp:a.eval p=.pointer (some ⟨b,off,none⟩))
  (hc:∀j v,cs[j]?=some v->w.cell? ⟨b,off+j,none⟩=some v):(execOp a.eval o).run P w=.ok (.value (.agg cs.toArray)) w:=by
 obtain⟨dst,op,ty,pos,after,guard⟩:=o
 simp only at ho
 subst ho
 have e:(Instr.loadAt T (.pointer (some ⟨b,off,none⟩))).run P w=.ok (.agg cs.toArray) w:=by
  simp only [Instr.loadAt,Instr.sureAddr,Sem.run_bind,Sem.run_pure,Result.andThen]
  exact load_big hu hi hc
 simp only [execOp,hp,Sem.run_bind,e,Result.andThen,Sem.run_pure]
theorem quiet_loadBig {C:World->Prop} {K:Act->Prop} (p:Operand) (T:TypeId) (ho:o.op=.load T p) {fs:_} (hu:P.underlying T=some (.struct fs)) (cs:List Value) (hi:(P.info? T).map (·.size)=some cs.length) {b off:Nat} (hp:a.eval p=.pointer (some ⟨b,off,none⟩))
  (hc:∀w,C w->∀j v,cs[j]?=some v->w.cell? ⟨b,off+j,none⟩=some v) {V:Value} (hV:V=.agg cs.toArray) (h:K (a.put o.dst V)):o.quiet P a C K:=by
 subst hV
 exact⟨_,fun w hw=>by unfold Oper.quietAt;rw [run_loadBig ho hu hi hp (hc w hw)];exact⟨rfl,rfl⟩,h⟩
theorem yields_loadBig {S:World->Prop} (hw:Region.wanted o (yielded ops a.tmps)=true) (p:Operand) (T:TypeId) (ho:o.op=.load T p) {fs:_} (hu:P.underlying T=some (.struct fs)) (cs:List Value) (hi:(P.info? T).map (·.size)=some cs.length) {b off:Nat} (hp:a.eval p=.pointer (some ⟨b,off,none⟩))
  (hc:∀w,S w->∀j v,cs[j]?=some v->w.cell? ⟨b,off+j,none⟩=some v) {V:Value} (hV:V=.agg cs.toArray):YieldsIf P ops S o V a:=by
 subst hV
 exact Or.inl ⟨hw,fun w hS=>run_loadBig ho hu hi hp (hc w hS)⟩
theorem BlkAt.behind {g:Nat} {T:TypeId} {cs:List Value} (h:BlkAt w g T cs):∀W,(∃n:Behind w,W=n.W)->∀j v,cs[j]?=some v->W.cell? ⟨g,0+j,none⟩=some v:=fun W hW j v hv=>by
 obtain⟨n,rfl⟩:=hW
 exact (h.keeps n.bel).cell0 j v hv
end
def dimL (E:Nat->Int×Int):List Value:=[.int .i64 (E 0).1,.int .i64 (E 0).2,.int .i64 (E 1).1,.int .i64 (E 1).2,.int .i64 (E 2).1,.int .i64 (E 2).2,.int .i64 (E 3).1,.int .i64 (E 3).2,.int .i64 (E 4).1,.int .i64 (E 4).2,.int .i64 (E 5).1,.int .i64 (E 5).2,.int .i64 (E 6).1,.int .i64 (E 6).2]
theorem dim_val (E:Nat->Int×Int):dimV E=.agg (dimL E).toArray:=rfl
def proV (E:Nat->Int×Int) (s:Value):Value:=.agg #[.int .i64 (E 0).1,.int .i64 (E 0).2,.int .i64 (E 1).1,.int .i64 (E 1).2,.int .i64 (E 2).1,.int .i64 (E 2).2,.int .i64 (E 3).1,.int .i64 (E 3).2,.int .i64 (E 4).1,.int .i64 (E 4).2,.int .i64 (E 5).1,.int .i64 (E 5).2,.int .i64 (E 6).1,.int .i64 (E 6).2,s]
def proL (E:Nat->Int×Int) (s:Value):List Value:=[.int .i64 (E 0).1,.int .i64 (E 0).2,.int .i64 (E 1).1,.int .i64 (E 1).2,.int .i64 (E 2).1,.int .i64 (E 2).2,.int .i64 (E 3).1,.int .i64 (E 3).2,.int .i64 (E 4).1,.int .i64 (E 4).2,.int .i64 (E 5).1,.int .i64 (E 5).2,.int .i64 (E 6).1,.int .i64 (E 6).2,s]
theorem dim_valU (E:Nat->Int×Int):(.agg #[.int .i64 (E 0).1,.int .i64 (E 0).2,.int .i64 (E 1).1,.int .i64 (E 1).2,.int .i64 (E 2).1,.int .i64 (E 2).2,.int .i64 (E 3).1,.int .i64 (E 3).2,.int .i64 (E 4).1,.int .i64 (E 4).2,.int .i64 (E 5).1,.int .i64 (E 5).2,.int .i64 (E 6).1,.int .i64 (E 6).2]:Value)=.agg (dimL E).toArray:=rfl
theorem pro_val (E:Nat->Int×Int) (s:Value):proV E s=.agg (proL E s).toArray:=rfl
theorem proL_dim {E:Nat->Int×Int} {s:Value} (j:Nat) (v:Value) (h:(dimL E)[j]?=some v):(proL E s)[j]?=some v:=by
 have e:proL E s=dimL E++[s]:=rfl
 have hj:=(List.getElem?_eq_some_iff.1 h).1
 rw [e,List.getElem?_append_left hj]
 exact h
abbrev Pro:=(Nat->Int×Int)×List Fac
def timesP (a b:Pro) (p:Int×Int):Option Pro:=if tmF a.1 b.1 p.1 p.2 7=0 then (mergedF p a.2 b.2).map fun L=>(tmD a.1 b.1 p.1 p.2 7,L) else none
def PrAns (r:Ending) (w:World) (R:Option Pro):Prop:=(∃X s,R=some X/\r=.returned (proV X.1 s)/\FSl w s X.2)\/(R=none/\r=.panicked (stopP 3))
theorem FSl.other {w W:World} {s:Value} {L:List Fac} {g:Nat} {T:TypeId} {cs:List Value} (h:FSl w s L) (hg:BlkAt w g T cs) (hT:T≠104) (k:∀k Tk ck,g≠k->BlkAt w k Tk ck->BlkAt W k Tk ck):FSl W s L:=by
 obtain⟨A,c,e,l,f⟩:=h
 exact⟨A,c,e,l,f.other hg hT k⟩
theorem MgAns.yes {r:Ending} {w:World} {L:List Fac} (h:MgAns r w (some L)):∃s,r=.returned s/\FSl w s L:=by
 rcases h with ⟨L2,s,e,hr,f⟩ | ⟨e,_⟩
 ·cases e;exact⟨s,hr,f⟩
 ·cases e
theorem MgAns.no {r:Ending} {w:World} (h:MgAns r w none):r=.panicked (stopP 3):=by
 rcases h with ⟨_,_,e,_⟩ | ⟨_,hr⟩
 ·cases e
 ·exact hr
theorem PrAns.yes {r:Ending} {w:World} {X:Pro} (h:PrAns r w (some X)):∃s,r=.returned (proV X.1 s)/\FSl w s X.2:=by
 rcases h with ⟨L2,s,e,hr,f⟩ | ⟨e,_⟩
 ·cases e;exact⟨s,hr,f⟩
 ·cases e
theorem PrAns.no {r:Ending} {w:World} (h:PrAns r w none):r=.panicked (stopP 3):=by
 rcases h with ⟨_,_,e,_⟩ | ⟨_,hr⟩
 ·cases e
 ·exact hr
theorem umerged_w (La Lb:List Fac) (sa sb:Value) (p:Int×Int) (hp:ROk p) (ha:FOk La) (hb:FOk Lb) (hl:La.length+Lb.length<=1000) (w:World) (Fa:FSl w sa La) (Fb:FSl w sb Lb) :
  Calls Try.prog 76 #[sa,sb,.agg #[.int .i64 p.1,.int .i64 p.2]] w fun r w'=>MgAns r w' (mergedF p La Lb)/\Below w.heap.size w w':=by
 obtain⟨A,C,rfl,hC,fa⟩:=Fa
 obtain⟨D,E,rfl,hE,fb⟩:=Fb
 unfold mergedF
 by_cases c:Lb.length=0\/p=(0,1)
 ·rw [if_pos c]
  refine (umerged_same A La.length C D Lb.length E p c w).mono ?_
  rintro r w' ⟨rfl,hb1⟩
  exact⟨Or.inl ⟨La,_,rfl,rfl,A,C,rfl,hC,fa.keep hb1⟩,hb1⟩
 ·rw [if_neg c]
  exact umerged_core A C D E La Lb La.length Lb.length p rfl rfl (fun h=>c (Or.inl h)) (fun h=>c (Or.inr h)) hp ha hb hl hC w fa fb
set_option maxHeartbeats 1000000 in
theorem uofKnown_w (E:Nat->Int×Int) (w:World):Calls Try.prog 63 #[dimV E] w fun r w'=>r=.returned (proV E (.slice none 0 0))/\Below w.heap.size w w':=by
 have X:BlkAt ((w.alloc (.cells #[.int .i64 (E 0).1,.int .i64 (E 0).2,.int .i64 (E 1).1,.int .i64 (E 1).2,.int .i64 (E 2).1,.int .i64 (E 2).2,.int .i64 (E 3).1,.int .i64 (E 3).2,.int .i64 (E 4).1,.int .i64 (E 4).2,.int .i64 (E 5).1,.int .i64 (E 5).2,.int .i64 (E 6).1,.int .i64 (E 6).2] 30)).alloc (.cells #[.int .i64 0,.int .i64 0,.int .i64 0,.int .i64 0,.int .i64 0,.int .i64 0,.int .i64 0,.int .i64 0,.int .i64 0,.int .i64 0,.int .i64 0,.int .i64 0,.int .i64 0,.int .i64 0,.slice none 0 0] 79)) w.heap.size 30 (dimL E):=(blk_new w 30 (dimL E)).keeps (Below.alloc (Below.refl _ _) (Nat.le_refl _) _)
 have RB:BlkAt ((w.alloc (.cells #[.int .i64 (E 0).1,.int .i64 (E 0).2,.int .i64 (E 1).1,.int .i64 (E 1).2,.int .i64 (E 2).1,.int .i64 (E 2).2,.int .i64 (E 3).1,.int .i64 (E 3).2,.int .i64 (E 4).1,.int .i64 (E 4).2,.int .i64 (E 5).1,.int .i64 (E 5).2,.int .i64 (E 6).1,.int .i64 (E 6).2] 30)).alloc (.cells #[.int .i64 0,.int .i64 0,.int .i64 0,.int .i64 0,.int .i64 0,.int .i64 0,.int .i64 0,.int .i64 0,.int .i64 0,.int .i64 0,.int .i64 0,.int .i64 0,.int .i64 0,.int .i64 0,.slice none 0 0] 79)) (w.heap.size+1) 79 [.int .i64 0,.int .i64 0,.int .i64 0,.int .i64 0,.int .i64 0,.int .i64 0,.int .i64 0,.int .i64 0,.int .i64 0,.int .i64 0,.int .i64 0,.int .i64 0,.int .i64 0,.int .i64 0,.slice none 0 0]:=by
  have:=blk_new (w.alloc (.cells #[.int .i64 (E 0).1,.int .i64 (E 0).2,.int .i64 (E 1).1,.int .i64 (E 1).2,.int .i64 (E 2).1,.int .i64 (E 2).2,.int .i64 (E 3).1,.int .i64 (E 3).2,.int .i64 (E 4).1,.int .i64 (E 4).2,.int .i64 (E 5).1,.int .i64 (E 5).2,.int .i64 (E 6).1,.int .i64 (E 6).2] 30)) 79 [.int .i64 0,.int .i64 0,.int .i64 0,.int .i64 0,.int .i64 0,.int .i64 0,.int .i64 0,.int .i64 0,.int .i64 0,.int .i64 0,.int .i64 0,.int .i64 0,.int .i64 0,.int .i64 0,.slice none 0 0]
  rwa [World.size_alloc] at this
 have HB:Below w.heap.size w ((w.alloc (.cells #[.int .i64 (E 0).1,.int .i64 (E 0).2,.int .i64 (E 1).1,.int .i64 (E 1).2,.int .i64 (E 2).1,.int .i64 (E 2).2,.int .i64 (E 3).1,.int .i64 (E 3).2,.int .i64 (E 4).1,.int .i64 (E 4).2,.int .i64 (E 5).1,.int .i64 (E 5).2,.int .i64 (E 6).1,.int .i64 (E 6).2] 30)).alloc (.cells #[.int .i64 0,.int .i64 0,.int .i64 0,.int .i64 0,.int .i64 0,.int .i64 0,.int .i64 0,.int .i64 0,.int .i64 0,.int .i64 0,.int .i64 0,.int .i64 0,.int .i64 0,.int .i64 0,.slice none 0 0] 79)):=by go_grown
 unfold dimV
 go_enter Try.func63,Try.ntmps63
 go_upto_region 1 with fail
 generalize ((w.alloc (.cells #[.int .i64 (E 0).1,.int .i64 (E 0).2,.int .i64 (E 1).1,.int .i64 (E 1).2,.int .i64 (E 2).1,.int .i64 (E 2).2,.int .i64 (E 3).1,.int .i64 (E 3).2,.int .i64 (E 4).1,.int .i64 (E 4).2,.int .i64 (E 5).1,.int .i64 (E 5).2,.int .i64 (E 6).1,.int .i64 (E 6).2] 30)).alloc (.cells #[.int .i64 0,.int .i64 0,.int .i64 0,.int .i64 0,.int .i64 0,.int .i64 0,.int .i64 0,.int .i64 0,.int .i64 0,.int .i64 0,.int .i64 0,.int .i64 0,.int .i64 0,.int .i64 0,.slice none 0 0] 79))=V1 at *
 go_wp2_with (first
  | (refine wpList_loadBig (by rfl) _ 30 (by rfl) Try.underlying30 (dimL E) (by kernel_rfl) (by rfl) X.cell0 (dim_valU E) ?_)
  | (refine wpList_storeBig (by rfl) _ _ 79 (by rfl) RB (proL E (.slice none 0 0)) (by kernel_rfl) (by rfl) (by rfl) (by rfl) (by rfl) ?_;rintro V2 XB hs2 hB2 -))
 exact bodyPost_ret (v:=proV E (.slice none 0 0)) (results_cell_row Try.results63 _ V2 (w.heap.size+1) 79 (proL E (.slice none 0 0)).toArray (0,0) _ (by rfl) XB Try.underlying79 (by rfl) (by kernel_rfl)) rfl ⟨rfl,hB2 _ _ HB (by omega)⟩
theorem blks1 (w:World) (T0:TypeId) (c0:List Value):BlkAt (w.alloc (.cells c0.toArray T0)) w.heap.size T0 c0/\Below w.heap.size w (w.alloc (.cells c0.toArray T0)) :=
 ⟨blk_new w T0 c0,Below.alloc (Below.refl _ _) (Nat.le_refl _) _⟩
theorem blks2 (w:World) (T0 T1:TypeId) (c0 c1:List Value):BlkAt ((w.alloc (.cells c0.toArray T0)).alloc (.cells c1.toArray T1)) w.heap.size T0 c0/\BlkAt ((w.alloc (.cells c0.toArray T0)).alloc (.cells c1.toArray T1)) (w.heap.size+1) T1 c1/\Below w.heap.size w ((w.alloc (.cells c0.toArray T0)).alloc (.cells c1.toArray T1)):=by
 obtain⟨a,h⟩:=blks1 w T0 c0
 have e:(w.alloc (.cells c0.toArray T0)).heap.size=w.heap.size+1:=World.size_alloc _ _
 have b:=blk_new (w.alloc (.cells c0.toArray T0)) T1 c1
 rw [e] at b
 exact⟨a.keeps (Below.alloc (Below.refl _ _) (Nat.le_refl _) _),b,Below.alloc h (by omega) _⟩
theorem blks3 (w:World) (T0 T1 T2:TypeId) (c0 c1 c2:List Value):BlkAt (((w.alloc (.cells c0.toArray T0)).alloc (.cells c1.toArray T1)).alloc (.cells c2.toArray T2)) w.heap.size T0 c0/\BlkAt (((w.alloc (.cells c0.toArray T0)).alloc (.cells c1.toArray T1)).alloc (.cells c2.toArray T2)) (w.heap.size+1) T1 c1/\BlkAt (((w.alloc (.cells c0.toArray T0)).alloc (.cells c1.toArray T1)).alloc (.cells c2.toArray T2)) (w.heap.size+1+1) T2 c2/\Below w.heap.size w (((w.alloc (.cells c0.toArray T0)).alloc (.cells c1.toArray T1)).alloc (.cells c2.toArray T2)):=by
 obtain⟨a,b,h⟩:=blks2 w T0 T1 c0 c1
 have e:((w.alloc (.cells c0.toArray T0)).alloc (.cells c1.toArray T1)).heap.size=w.heap.size+1+1:=by rw [World.size_alloc,World.size_alloc]
 have c:=blk_new ((w.alloc (.cells c0.toArray T0)).alloc (.cells c1.toArray T1)) T2 c2
 rw [e] at c
 exact⟨a.keeps (Below.alloc (Below.refl _ _) (Nat.le_refl _) _),b.keeps (Below.alloc (Below.refl _ _) (Nat.le_refl _) _),c,Below.alloc h (by omega) _⟩
theorem blks4 (w:World) (T0 T1 T2 T3:TypeId) (c0 c1 c2 c3:List Value):BlkAt ((((w.alloc (.cells c0.toArray T0)).alloc (.cells c1.toArray T1)).alloc (.cells c2.toArray T2)).alloc (.cells c3.toArray T3)) w.heap.size T0 c0/\BlkAt ((((w.alloc (.cells c0.toArray T0)).alloc (.cells c1.toArray T1)).alloc (.cells c2.toArray T2)).alloc (.cells c3.toArray T3)) (w.heap.size+1) T1 c1/\BlkAt ((((w.alloc (.cells c0.toArray T0)).alloc (.cells c1.toArray T1)).alloc (.cells c2.toArray T2)).alloc (.cells c3.toArray T3)) (w.heap.size+1+1) T2 c2/\BlkAt ((((w.alloc (.cells c0.toArray T0)).alloc (.cells c1.toArray T1)).alloc (.cells c2.toArray T2)).alloc (.cells c3.toArray T3)) (w.heap.size+1+1+1) T3 c3/\Below w.heap.size w ((((w.alloc (.cells c0.toArray T0)).alloc (.cells c1.toArray T1)).alloc (.cells c2.toArray T2)).alloc (.cells c3.toArray T3)):=by
 obtain⟨a,b,c,h⟩:=blks3 w T0 T1 T2 c0 c1 c2
 have e:(((w.alloc (.cells c0.toArray T0)).alloc (.cells c1.toArray T1)).alloc (.cells c2.toArray T2)).heap.size=w.heap.size+1+1+1:=by rw [World.size_alloc,World.size_alloc,World.size_alloc]
 have d:=blk_new (((w.alloc (.cells c0.toArray T0)).alloc (.cells c1.toArray T1)).alloc (.cells c2.toArray T2)) T3 c3
 rw [e] at d
 exact⟨a.keeps (Below.alloc (Below.refl _ _) (Nat.le_refl _) _),b.keeps (Below.alloc (Below.refl _ _) (Nat.le_refl _) _),c.keeps (Below.alloc (Below.refl _ _) (Nat.le_refl _) _),d,Below.alloc h (by omega) _⟩
theorem BlkAt.dim0 {w:World} {g:Nat} {T:TypeId} {E:Nat->Int×Int} {s:Value} (h:BlkAt w g T (proL E s)):∀j v,(dimL E)[j]?=some v->w.cell? ⟨g,0+j,none⟩=some v:=fun j v hj=>h.cell0 j v (proL_dim j v hj)
theorem BlkAt.dim0b {w:World} {g:Nat} {T:TypeId} {E:Nat->Int×Int} {s:Value} (h:BlkAt w g T (proL E s)):∀W,(∃n:Behind w,W=n.W)->∀j v,(dimL E)[j]?=some v->W.cell? ⟨g,0+j,none⟩=some v:=fun W hW j v hj=>h.behind W hW j v (proL_dim j v hj)
set_option maxHeartbeats 1000000 in
theorem uofUnknown_w (v:Int) (w:World):Calls Try.prog 82 #[.int .i64 v] w fun r w'=>(∃s,r=.returned (proV plE s)/\FSl w' s [(v,(1,1))])/\Below w.heap.size w w':=by
 have cp:∀W,Calls Try.prog 40 #[] W fun r w'=>r=.returned (.agg #[.int .i64 (plE 0).1,.int .i64 (plE 0).2,.int .i64 (plE 1).1,.int .i64 (plE 1).2,.int .i64 (plE 2).1,.int .i64 (plE 2).2,.int .i64 (plE 3).1,.int .i64 (plE 3).2,.int .i64 (plE 4).1,.int .i64 (plE 4).2,.int .i64 (plE 5).1,.int .i64 (plE 5).2,.int .i64 (plE 6).1,.int .i64 (plE 6).2])/\Below W.heap.size W w':=fun W=>uplain_w W
 have cw:=fun W=>uwhole_w 1 W
 obtain⟨RB,HB⟩:=blks1 w 79 [.int .i64 0,.int .i64 0,.int .i64 0,.int .i64 0,.int .i64 0,.int .i64 0,.int .i64 0,.int .i64 0,.int .i64 0,.int .i64 0,.int .i64 0,.int .i64 0,.int .i64 0,.int .i64 0,.slice none 0 0]
 go_enter Try.func82,Try.ntmps82
 go_upto_region 1 with fail
 generalize (w.alloc (.cells #[.int .i64 0,.int .i64 0,.int .i64 0,.int .i64 0,.int .i64 0,.int .i64 0,.int .i64 0,.int .i64 0,.int .i64 0,.int .i64 0,.int .i64 0,.int .i64 0,.int .i64 0,.int .i64 0,.slice none 0 0] 79))=V1 at *
 go_wp2_with (first
  | (go_at_call 40;(with_reducible refine (cp _).mono ?_);rintro _ W1 ⟨rfl,hb1⟩;replace HB:=later HB hb1;replace RB:=RB.keeps hb1;clear hb1)
  | (go_at_call 56;(with_reducible refine (cw _).mono ?_);rintro _ W2 ⟨rfl,hb1⟩;replace HB:=later HB hb1;replace RB:=RB.keeps hb1;clear hb1)
  | (refine wpList_storeBig (by rfl) _ _ 79 (by rfl) (RB.keeps (by go_grown)) (proL plE (.slice (some ⟨W2.heap.size,0,none⟩) 1 1)) (by kernel_rfl) (by rfl) (by rfl) (by rfl) (by rfl) ?_;rintro V2 XR hs2 hB2 hk2))
 have nb:BlkAt (W2.alloc (.cells #[.int .i64 v,.int .i64 1,.int .i64 1] 104)) W2.heap.size 104 (facCells [(v,(1,1))]):=blk_new W2 _ _
 have nb2:=hk2 _ _ _ (by have:=RB.lt;omega) nb
 have fs:FSl V2 (.slice (some ⟨W2.heap.size,0,none⟩) 1 1) [(v,(1,1))]:=⟨_,1,rfl,Nat.le_refl _,facAt_blk nb2⟩
 exact bodyPost_ret (v:=proV plE (.slice (some ⟨W2.heap.size,0,none⟩) 1 1)) (results_cell_row Try.results82 _ V2 (w.heap.size) 79 (proL plE (.slice (some ⟨W2.heap.size,0,none⟩) 1 1)).toArray (0,0) _ (by rfl) XR Try.underlying79 (by rfl) (by kernel_rfl)) rfl ⟨⟨_,rfl,fs⟩,hB2 _ _ (Below.alloc HB HB.size _) (Nat.le_refl _)⟩
set_option maxRecDepth 4000 in
set_option maxHeartbeats 4000000 in
theorem uptimes_w (A B:Nat->Int×Int) (La Lb:List Fac) (sa sb:Value) (p:Int×Int) (hA:Dim64 A) (hB:Dim64 B) (rA:drK A 7=true) (rB:drK B 7=true) (hp:ROk p) (ha:FOk La) (hb:FOk Lb) (hl:La.length+Lb.length<=1000) (w:World) (Fa:FSl w sa La) (Fb:FSl w sb Lb) :
  Calls Try.prog 57 #[proV A sa,proV B sb,.agg #[.int .i64 p.1,.int .i64 p.2]] w fun r w'=>PrAns r w' (timesP (A,La) (B,Lb) p)/\Below w.heap.size w w':=by
 have ct:=fun W=>utimes_w A B p.1 p.2 hA hB hp.2 rA rB hp.1 W
 have cm:=fun W fa fb=>umerged_w La Lb sa sb p hp ha hb hl W fa fb
 have herr:=tmF_err rA rB hp.1 7 (Nat.le_refl _)
 obtain⟨R,hR⟩:∃R,Hid (timesP (A,La) (B,Lb) p=R):=⟨_,rfl⟩
 rw [hR.out]
 unfold timesP at hR
 dsimp only at hR
 generalize tmD A B p.1 p.2 7=D at *
 generalize hM:mergedF p La Lb=M at *
 clear hM
 unfold proV
 obtain⟨XA,XB,XP,RB,HB⟩:=blks4 w 79 79 27 79 [.int .i64 (A 0).1,.int .i64 (A 0).2,.int .i64 (A 1).1,.int .i64 (A 1).2,.int .i64 (A 2).1,.int .i64 (A 2).2,.int .i64 (A 3).1,.int .i64 (A 3).2,.int .i64 (A 4).1,.int .i64 (A 4).2,.int .i64 (A 5).1,.int .i64 (A 5).2,.int .i64 (A 6).1,.int .i64 (A 6).2,sa] [.int .i64 (B 0).1,.int .i64 (B 0).2,.int .i64 (B 1).1,.int .i64 (B 1).2,.int .i64 (B 2).1,.int .i64 (B 2).2,.int .i64 (B 3).1,.int .i64 (B 3).2,.int .i64 (B 4).1,.int .i64 (B 4).2,.int .i64 (B 5).1,.int .i64 (B 5).2,.int .i64 (B 6).1,.int .i64 (B 6).2,sb] [.int .i64 p.1,.int .i64 p.2] [.int .i64 0,.int .i64 0,.int .i64 0,.int .i64 0,.int .i64 0,.int .i64 0,.int .i64 0,.int .i64 0,.int .i64 0,.int .i64 0,.int .i64 0,.int .i64 0,.int .i64 0,.int .i64 0,.slice none 0 0]
 go_enter Try.func57,Try.ntmps57
 go_upto_region 1 with fail
 generalize ((((w.alloc (.cells #[.int .i64 (A 0).1,.int .i64 (A 0).2,.int .i64 (A 1).1,.int .i64 (A 1).2,.int .i64 (A 2).1,.int .i64 (A 2).2,.int .i64 (A 3).1,.int .i64 (A 3).2,.int .i64 (A 4).1,.int .i64 (A 4).2,.int .i64 (A 5).1,.int .i64 (A 5).2,.int .i64 (A 6).1,.int .i64 (A 6).2,sa] 79)).alloc (.cells #[.int .i64 (B 0).1,.int .i64 (B 0).2,.int .i64 (B 1).1,.int .i64 (B 1).2,.int .i64 (B 2).1,.int .i64 (B 2).2,.int .i64 (B 3).1,.int .i64 (B 3).2,.int .i64 (B 4).1,.int .i64 (B 4).2,.int .i64 (B 5).1,.int .i64 (B 5).2,.int .i64 (B 6).1,.int .i64 (B 6).2,sb] 79)).alloc (.cells #[.int .i64 p.1,.int .i64 p.2] 27)).alloc (.cells #[.int .i64 0,.int .i64 0,.int .i64 0,.int .i64 0,.int .i64 0,.int .i64 0,.int .i64 0,.int .i64 0,.int .i64 0,.int .i64 0,.int .i64 0,.int .i64 0,.int .i64 0,.int .i64 0,.slice none 0 0] 79))=V1 at *
 by_cases z:tmF A B p.1 p.2 7=0
 ·rw [if_pos z] at hR ct
  replace ct:∀W,Calls Try.prog 62 #[dimV A,dimV B,.agg #[.int .i64 p.1,.int .i64 p.2]] W fun r w'=>r=.returned (.agg #[.int .i64 (D 0).1,.int .i64 (D 0).2,.int .i64 (D 1).1,.int .i64 (D 1).2,.int .i64 (D 2).1,.int .i64 (D 2).2,.int .i64 (D 3).1,.int .i64 (D 3).2,.int .i64 (D 4).1,.int .i64 (D 4).2,.int .i64 (D 5).1,.int .i64 (D 5).2,.int .i64 (D 6).1,.int .i64 (D 6).2])/\Below W.heap.size W w':=ct
  have k2:=fun n:Behind V1=>n.cell (XP.cell 0 _ rfl) XP.lt
  have k3:=fun n:Behind V1=>n.cell (XP.cell 1 _ rfl) XP.lt
  have k4:=fun n:Behind V1=>n.cell (XA.cell 14 _ rfl) XA.lt
  have k5:=fun n:Behind V1=>n.cell (XB.cell 14 _ rfl) XB.lt
  refine tail_behind 11 (by kernel_rfl) (by kernel_rfl) ?_
  simp only [List.take_succ_cons,List.take_zero,List.drop_succ_cons,List.drop_zero]
  repeat (first
   | (go_big_quiet_want;refine quiet_loadBig _ 30 (by rfl) Try.underlying30 (dimL A) (by kernel_rfl) (by rfl) (XA.dim0b) (dim_val A) ?_;simp only [Act.put,List.setIfInBounds_toArray,List.set_cons_zero,List.set_cons_succ];go_big_quiet_on)
   | (go_big_quiet_want;refine quiet_loadBig _ 30 (by rfl) Try.underlying30 (dimL B) (by kernel_rfl) (by rfl) (XB.dim0b) (dim_val B) ?_;simp only [Act.put,List.setIfInBounds_toArray,List.set_cons_zero,List.set_cons_succ];go_big_quiet_on)
   | (go_big_quiet_step (first | (go_at_call 62;with_reducible refine Behind.call (ct _)))))
  refine wpQuiet_nil ?_
  rintro _ ⟨q,rfl⟩
  obtain⟨W,hb1⟩:=q
  dsimp only
  clear k2 k3 k4 k5
  replace HB:=later HB hb1
  replace RB:=RB.keeps hb1
  clear hb1
  cases M with
  | none =>
   have eR:Hid (R=none):=hR.out.symm
   go_wp2_with (go_at_call 76;(with_reducible refine (cm _ (Fa.keep HB) (Fb.keep HB)).mono ?_);rintro r W2 ⟨hM,hb2⟩;have hr:=hM.no;subst hr;exact⟨rfl,Or.inr ⟨eR.out,rfl⟩,later HB hb2⟩)
  | some L =>
   have eR:Hid (R=some (D,L)):=hR.out.symm
   go_wp2_with (first
    | (go_at_call 76;(with_reducible refine (cm _ (Fa.keep HB) (Fb.keep HB)).mono ?_);rintro r W2 ⟨hM,hb2⟩;obtain⟨s,hr,A9,c9,rfl,hc9,fa9⟩:=hM.yes;subst hr;have fl:FSl W2 (.slice A9 L.length c9) L:=⟨A9,c9,rfl,hc9,fa9⟩;replace HB:=later HB hb2;replace RB:=RB.keeps hb2;clear hb2 hM)
    | (refine wpList_storeBig (by rfl) _ _ 79 (by rfl) (RB) (proL D (.slice A9 L.length c9)) (by kernel_rfl) (by rfl) (by rfl) (by rfl) (by rfl) ?_;rintro V2 XR hs2 hB2 hk2))
   have fl2:=fl.other RB (by decide) hk2
   exact bodyPost_ret (v:=proV D (.slice A9 L.length c9)) (results_cell_row Try.results57 _ V2 (w.heap.size+1+1+1) 79 (proL D (.slice A9 L.length c9)).toArray (0,0) _ (by rfl) XR Try.underlying79 (by rfl) (by kernel_rfl)) rfl ⟨Or.inl ⟨(D,L),_,eR.out,rfl,fl2⟩,hB2 _ _ HB (by omega)⟩
 ·have z3:=herr.resolve_left z
  rw [if_neg z] at hR ct
  rw [z3] at ct
  have eR:Hid (R=none):=hR.out.symm
  clear hR
  refine wp_region_held_drew (S:=fun W=>BlkAt W w.heap.size 79 (proL A sa)/\BlkAt W (w.heap.size+1) 79 (proL B sb)/\W.cell? ⟨w.heap.size+1+1,0,none⟩=some (.int .i64 p.1)/\W.cell? ⟨w.heap.size+1+1,1,none⟩=some (.int .i64 p.2)/\W.cell? ⟨w.heap.size,14,none⟩=some sa/\W.cell? ⟨w.heap.size+1,14,none⟩=some sb) (by kernel_rfl) ⟨XA,XB,XP.cell 0 _ rfl,XP.cell 1 _ rfl,XA.cell 14 _ rfl,XB.cell 14 _ rfl⟩ (fun hHeld=>?_)
  refine tk (v:=?_) 0 rfl ?_ hHeld ?_;rotate_left;(focus ((intro w hSw;(try dsimp only at hSw);go_simp);try with_reducible rfl));simp only[gA,gB,Act.put,gD,gE,gF]
  refine wpAnyH_take (i:=1) (v:=dimV A) rfl (by kernel_rfl) (by kernel_rfl) (by kernel_rfl) (fun _ _ _ h=>h) (yields_loadBig (by rfl) _ 30 (by rfl) Try.underlying30 (dimL A) (by kernel_rfl) (by rfl) (fun W hS=>hS.1.dim0) (dim_val A)) hHeld ?_;simp only[gA,gB,gC,Act.put,gD,gE,gF]
  refine tk (v:=?_) 2 rfl ?_ hHeld ?_;rotate_left;(focus ((intro w hSw;(try dsimp only at hSw);go_simp);try with_reducible rfl));simp only[gA,gB,gC,Act.put,gD,gE,gF]
  refine wpAnyH_take (i:=3) (v:=dimV B) rfl (by kernel_rfl) (by kernel_rfl) (by kernel_rfl) (fun _ _ _ h=>h) (yields_loadBig (by rfl) _ 30 (by rfl) Try.underlying30 (dimL B) (by kernel_rfl) (by rfl) (fun W hS=>hS.2.1.dim0) (dim_val B)) hHeld ?_;simp only[gA,gB,gC,Act.put,gD,gE,gF]
  refine tk (v:=?_) 4 rfl ?_ hHeld ?_;rotate_left;(focus ((intro w hSw;(try dsimp only at hSw);go_simp);try with_reducible rfl));simp only[gA,gB,gC,Act.put,gD,gE,gF];refine tk (v:=?_) 6 rfl ?_ hHeld ?_;rotate_left;(focus ((intro w hSw;(try dsimp only at hSw);go_simp);try with_reducible rfl));simp only[gA,gB,gC,Act.put,gD,gE,gF];refine tk (v:=?_) 7 rfl ?_ hHeld ?_;rotate_left;(focus ((intro w hSw;(try dsimp only at hSw);go_simp);try with_reducible rfl));simp only[gA,gB,gC,Act.put,gD,gE,gF];refine tk (v:=?_) 8 rfl ?_ hHeld ?_;rotate_left;(focus ((intro w hSw;(try dsimp only at hSw);go_simp);try with_reducible rfl));simp only[gA,gB,gC,Act.put,gD,gE,gF];refine tk (v:=?_) 9 rfl ?_ hHeld ?_;rotate_left;(focus ((intro w hSw;(try dsimp only at hSw);go_simp);try with_reducible rfl));simp only[gA,gB,gC,Act.put,gD,gE,gF];refine tk (v:=?_) 10 rfl ?_ hHeld ?_;rotate_left;(focus ((intro w hSw;(try dsimp only at hSw);go_simp);try with_reducible rfl));simp only[gA,gB,gC,Act.put,gD,gE,gF]
  have HD:Below V1.heap.size V1 V1.drew:=(Below.refl _ _).drew
  refine rd 5 rfl (fun K hK=>?_);simp only[gA,gB,gC,Act.put,gD,gE,gF];go_simp
  go_at_call 62
  (with_reducible refine (ct _).mono ?_)
  rintro _ W0 ⟨rfl,hb1⟩
  exact⟨rfl,Or.inr ⟨eR.out,rfl⟩,later HB (HD.trans hb1)⟩
theorem plE_ok:Dim64 plE/\drK plE 7=true:=⟨fun _ _=>⟨⟨by show (-9223372036854775808:Int)<=0;decide,by show (0:Int)<=9223372036854775807;decide⟩,⟨by show (-9223372036854775808:Int)<=1;decide,by show (1:Int)<=9223372036854775807;decide⟩⟩,by decide⟩
def powerP (a:Pro) (p:Int×Int):Option Pro:=timesP (plE,[]) a p
structure POk (V:Int) (X:Pro):Prop where
 d:Dim64 X.1
 r:drK X.1 7=true
 f:FOk X.2
 s:Rise V 0 X.2
theorem fOk_one (v:Int):FOk [(v,(1,1))]:=fun f hf=>by rw [List.mem_singleton.1 hf];exact rok_one ⟨by decide,by decide⟩ (by decide)
theorem fOk_nil:FOk []:=fun f hf=>by cases hf
def Dms (w:World) (A:Option Addr) (n:Nat) (D:Nat->Nat->Int×Int):Prop:=∀i,i<n->∃b o,A=some ⟨b,o,none⟩/\b<w.heap.size/\∀j c,(dimL (D i))[j]?=some c->w.cell? ⟨b,o+i*14+j,none⟩=some c
theorem Dms.keep {w W:World} {A:Option Addr} {n:Nat} {D:Nat->Nat->Int×Int} (h:Dms w A n D) (k:Below w.heap.size w W):Dms W A n D:=fun i hi=>by
 obtain⟨b,o,e,l,c⟩:=h i hi
 exact⟨b,o,e,Nat.lt_of_lt_of_le l k.size,fun j u hj=>keepsC k (c j u hj) l⟩
def Bls (w:World) (A:Option Addr) (n:Nat) (G:Nat->Bool):Prop:=∀i,i<n->∃b o,A=some ⟨b,o,none⟩/\b<w.heap.size/\w.cell? ⟨b,o+i,none⟩=some (.bool (G i))
theorem Bls.keep {w W:World} {A:Option Addr} {n:Nat} {G:Nat->Bool} (h:Bls w A n G) (k:Below w.heap.size w W):Bls W A n G:=fun i hi=>by
 obtain⟨b,o,e,l,c⟩:=h i hi
 exact⟨b,o,e,Nat.lt_of_lt_of_le l k.size,keepsC k c l⟩
def vrV (dv gv:Value) (S:Nat->Int×Int):Value:=.agg #[dv,gv,.int .i64 (S 0).1,.int .i64 (S 0).2,.int .i64 (S 1).1,.int .i64 (S 1).2,.int .i64 (S 2).1,.int .i64 (S 2).2,.int .i64 (S 3).1,.int .i64 (S 3).2,.int .i64 (S 4).1,.int .i64 (S 4).2,.int .i64 (S 5).1,.int .i64 (S 5).2,.int .i64 (S 6).1,.int .i64 (S 6).2]
def vrL (dv gv:Value) (S:Nat->Int×Int):List Value:=[dv,gv,.int .i64 (S 0).1,.int .i64 (S 0).2,.int .i64 (S 1).1,.int .i64 (S 1).2,.int .i64 (S 2).1,.int .i64 (S 2).2,.int .i64 (S 3).1,.int .i64 (S 3).2,.int .i64 (S 4).1,.int .i64 (S 4).2,.int .i64 (S 5).1,.int .i64 (S 5).2,.int .i64 (S 6).1,.int .i64 (S 6).2]
theorem vr_val (dv gv:Value) (S:Nat->Int×Int):vrV dv gv S=.agg (vrL dv gv S).toArray:=rfl
theorem vrL_dim {dv gv:Value} {S:Nat->Int×Int} (j:Nat) (v:Value) (h:(dimL S)[j]?=some v):(vrL dv gv S)[2+j]?=some v:=by
 rw [Nat.add_comm]
 exact h
def varP (G:Nat->Bool) (D:Nat->Nat->Int×Int) (S:Nat->Int×Int) (v k:Int):Option Pro:=timesP (if G v.toNat then (D v.toNat,[]) else (plE,[(v,(1,1))])) (S,[]) (-k,1)
set_option maxRecDepth 4000 in
set_option maxHeartbeats 4000000 in
theorem upower_w (B:Nat->Int×Int) (Lb:List Fac) (sb:Value) (p:Int×Int) (hB:Dim64 B) (rB:drK B 7=true) (hp:ROk p) (hb:FOk Lb) (hl:Lb.length<=1000) (w:World) (Fb:FSl w sb Lb) :
  Calls Try.prog 60 #[proV B sb,.agg #[.int .i64 p.1,.int .i64 p.2]] w fun r w'=>PrAns r w' (powerP (B,Lb) p)/\Below w.heap.size w w':=by
 have ct:=fun W fb=>uptimes_w plE B [] Lb (.slice none 0 0) sb p plE_ok.1 hB plE_ok.2 rB hp fOk_nil hb (by simpa using hl) W (fSl_nil W) fb
 have cp:=fun W=>uplain_w W
 have ck:=fun W=>uofKnown_w plE W
 unfold powerP
 obtain⟨R,hR⟩:∃R,Hid (timesP (plE,[]) (B,Lb) p=R):=⟨_,rfl⟩
 rw [hR.out] at ct ⊢
 show Calls Try.prog _ #[.agg #[.int .i64 (B 0).1,.int .i64 (B 0).2,.int .i64 (B 1).1,.int .i64 (B 1).2,.int .i64 (B 2).1,.int .i64 (B 2).2,.int .i64 (B 3).1,.int .i64 (B 3).2,.int .i64 (B 4).1,.int .i64 (B 4).2,.int .i64 (B 5).1,.int .i64 (B 5).2,.int .i64 (B 6).1,.int .i64 (B 6).2,sb],_] w _
 obtain⟨XB,XP,RB,HB⟩:=blks3 w 79 27 79 [.int .i64 (B 0).1,.int .i64 (B 0).2,.int .i64 (B 1).1,.int .i64 (B 1).2,.int .i64 (B 2).1,.int .i64 (B 2).2,.int .i64 (B 3).1,.int .i64 (B 3).2,.int .i64 (B 4).1,.int .i64 (B 4).2,.int .i64 (B 5).1,.int .i64 (B 5).2,.int .i64 (B 6).1,.int .i64 (B 6).2,sb] [.int .i64 p.1,.int .i64 p.2] [.int .i64 0,.int .i64 0,.int .i64 0,.int .i64 0,.int .i64 0,.int .i64 0,.int .i64 0,.int .i64 0,.int .i64 0,.int .i64 0,.int .i64 0,.int .i64 0,.int .i64 0,.int .i64 0,.slice none 0 0]
 go_enter Try.func60,Try.ntmps60
 go_upto_region 1 with fail
 generalize (((w.alloc (.cells #[.int .i64 (B 0).1,.int .i64 (B 0).2,.int .i64 (B 1).1,.int .i64 (B 1).2,.int .i64 (B 2).1,.int .i64 (B 2).2,.int .i64 (B 3).1,.int .i64 (B 3).2,.int .i64 (B 4).1,.int .i64 (B 4).2,.int .i64 (B 5).1,.int .i64 (B 5).2,.int .i64 (B 6).1,.int .i64 (B 6).2,sb] 79)).alloc (.cells #[.int .i64 p.1,.int .i64 p.2] 27)).alloc (.cells #[.int .i64 0,.int .i64 0,.int .i64 0,.int .i64 0,.int .i64 0,.int .i64 0,.int .i64 0,.int .i64 0,.int .i64 0,.int .i64 0,.int .i64 0,.int .i64 0,.int .i64 0,.int .i64 0,.slice none 0 0] 79))=V1 at *
 have k2:=fun n:Behind V1=>n.cell (XP.cell 0 _ rfl) XP.lt
 have k3:=fun n:Behind V1=>n.cell (XP.cell 1 _ rfl) XP.lt
 refine tail_behind 4 (by kernel_rfl) (by kernel_rfl) ?_
 simp only [List.take_succ_cons,List.take_zero,List.drop_succ_cons,List.drop_zero]
 repeat (first
  | (go_big_quiet_want;refine quiet_loadBig _ 79 (by rfl) Try.underlying79 (proL B sb) (by kernel_rfl) (by rfl) (XB.behind) (pro_val B sb) ?_;simp only [Act.put,List.setIfInBounds_toArray,List.set_cons_zero,List.set_cons_succ];go_big_quiet_on)
  | (go_big_quiet_step (first | (go_at_call 40;with_reducible refine Behind.call (cp _)) | (go_at_call 63;with_reducible refine Behind.call (ck _)))))
 refine wpQuiet_nil ?_
 rintro _ ⟨q,rfl⟩
 obtain⟨W,hb1⟩:=q
 dsimp only
 clear k2 k3
 replace HB:=later HB hb1
 replace RB:=RB.keeps hb1
 clear hb1
 cases R with
 | none =>
  have eR:Hid ((none:Option Pro)=none):=rfl
  go_wp2_with (first
   | (go_at_call 57;(with_reducible refine (ct _ (Fb.keep HB)).mono ?_);rintro r W2 ⟨hM,hb2⟩;have hr:=hM.no;subst hr;exact⟨rfl,Or.inr ⟨eR.out,rfl⟩,later HB hb2⟩))
 | some X =>
  go_wp2_with (first
   | (go_at_call 57;(with_reducible refine (ct _ (Fb.keep HB)).mono ?_);rintro r W2 ⟨hM,hb2⟩;obtain⟨s,hr,A9,c9,rfl,hc9,fa9⟩:=hM.yes;subst hr;have fl:FSl W2 (.slice A9 X.2.length c9) X.2:=⟨A9,c9,rfl,hc9,fa9⟩;replace HB:=later HB hb2;replace RB:=RB.keeps hb2;clear hb2 hM)
   | (refine wpList_storeBig (by rfl) _ _ 79 (by rfl) (RB) (proL X.1 (.slice A9 X.2.length c9)) (by kernel_rfl) (by rfl) (by rfl) (by rfl) (by rfl) ?_;rintro V2 XR hs2 hB2 hk2))
  have fl2:=fl.other RB (by decide) hk2
  exact bodyPost_ret (v:=proV X.1 (.slice A9 X.2.length c9)) (results_cell_row Try.results60 _ V2 (w.heap.size+1+1) 79 (proL X.1 (.slice A9 X.2.length c9)).toArray (0,0) _ (by rfl) XR Try.underlying79 (by rfl) (by kernel_rfl)) rfl ⟨Or.inl ⟨X,_,rfl,rfl,fl2⟩,hB2 _ _ HB (by omega)⟩
set_option maxRecDepth 4000 in
set_option maxHeartbeats 4000000 in
theorem uvarOf_w (A0 A1:Option Addr) (n0 C0 n1 C1:Nat) (D:Nat->Nat->Int×Int) (G:Nat->Bool) (S:Nat->Int×Int) (v k:Int) (hk:0<=k/\k<=6) (hS:Dim64 S) (rS:drK S 7=true) (hv:0<=v/\v<(n0:Int)) (hn:n1=n0) (hn2:(n0:Int)<=9223372036854775807)
  (hD:G v.toNat=true->Dim64 (D v.toNat)/\drK (D v.toNat) 7=true) (w:World) (VD:Dms w A0 n0 D) (VG:Bls w A1 n1 G) :
  Calls Try.prog 64 #[vrV (.slice A0 n0 C0) (.slice A1 n1 C1) S,.agg #[.int .i64 v,.int .i64 k]] w fun r w'=>PrAns r w' (varP G D S v k)/\Below w.heap.size w w':=by
 subst hn
 have cu:=fun W=>uofUnknown_w v W
 have cs:=fun W=>uofKnown_w S W
 have cw:=fun W=>uwhole_w (-k) W
 have hpk:ROk (-k,1):=rok_one (by constructor <;> omega) (by omega)
 obtain⟨t,rfl⟩:∃t:Nat,v=(t:Int):=⟨v.toNat,by omega⟩
 have ht:t<n1:=by omega
 have e0:((t:Int)).toNat=t:=by omega
 rw [e0] at hD
 obtain⟨b1,o1,hA1,l1,g1⟩:=VG t ht
 obtain⟨b0,o0,hA0,l0,g0⟩:=VD t ht
 unfold varP
 rw [e0]
 obtain⟨R,hR⟩:∃R,Hid (timesP (if G t then (D t,[]) else (plE,[((t:Int),(1,1))])) (S,[]) (-k,1)=R):=⟨_,rfl⟩
 rw [hR.out]
 have HD:Hid (G t=true->Dim64 (D t)/\drK (D t) 7=true):=hD
 replace g0:Hid (∀j c,(dimL (D t))[j]?=some c->w.cell? ⟨b0,o0+t*14+j,none⟩=some c):=g0
 subst hA1 hA0
 clear VD VG hD e0
 show Calls Try.prog _ #[.agg #[.slice _ _ _,.slice _ _ _,.int .i64 (S 0).1,.int .i64 (S 0).2,.int .i64 (S 1).1,.int .i64 (S 1).2,.int .i64 (S 2).1,.int .i64 (S 2).2,.int .i64 (S 3).1,.int .i64 (S 3).2,.int .i64 (S 4).1,.int .i64 (S 4).2,.int .i64 (S 5).1,.int .i64 (S 5).2,.int .i64 (S 6).1,.int .i64 (S 6).2],_] w _
 obtain⟨XV,XK,RB,HB⟩:=blks3 w 43 52 79 [.slice (some ⟨b0,o0,none⟩) n1 C0,.slice (some ⟨b1,o1,none⟩) n1 C1,.int .i64 (S 0).1,.int .i64 (S 0).2,.int .i64 (S 1).1,.int .i64 (S 1).2,.int .i64 (S 2).1,.int .i64 (S 2).2,.int .i64 (S 3).1,.int .i64 (S 3).2,.int .i64 (S 4).1,.int .i64 (S 4).2,.int .i64 (S 5).1,.int .i64 (S 5).2,.int .i64 (S 6).1,.int .i64 (S 6).2] [.int .i64 (t:Int),.int .i64 k] [.int .i64 0,.int .i64 0,.int .i64 0,.int .i64 0,.int .i64 0,.int .i64 0,.int .i64 0,.int .i64 0,.int .i64 0,.int .i64 0,.int .i64 0,.int .i64 0,.int .i64 0,.int .i64 0,.slice none 0 0]
 go_enter Try.func64,Try.ntmps64
 go_upto_region 1 with fail
 generalize (((w.alloc (.cells #[.slice (some ⟨b0,o0,none⟩) n1 C0,.slice (some ⟨b1,o1,none⟩) n1 C1,.int .i64 (S 0).1,.int .i64 (S 0).2,.int .i64 (S 1).1,.int .i64 (S 1).2,.int .i64 (S 2).1,.int .i64 (S 2).2,.int .i64 (S 3).1,.int .i64 (S 3).2,.int .i64 (S 4).1,.int .i64 (S 4).2,.int .i64 (S 5).1,.int .i64 (S 5).2,.int .i64 (S 6).1,.int .i64 (S 6).2] 43)).alloc (.cells #[.int .i64 (t:Int),.int .i64 k] 52)).alloc (.cells #[.int .i64 0,.int .i64 0,.int .i64 0,.int .i64 0,.int .i64 0,.int .i64 0,.int .i64 0,.int .i64 0,.int .i64 0,.int .i64 0,.int .i64 0,.int .i64 0,.int .i64 0,.int .i64 0,.slice none 0 0] 79))=V1 at *
 have x0:=XV.cell 0 _ rfl
 have x1:=XV.cell 1 _ rfl
 have q0:=XK.cell 0 _ rfl
 go_upto_region 2 with (first
  | (go_at_call 82;(with_reducible refine (cu _).mono ?_);rintro _ W1 ⟨⟨s5,rfl,A5,c5,rfl,hc5,fa5⟩,hb1⟩;replace HB:=later HB hb1;replace XV:=XV.keeps hb1;replace XK:=XK.keeps hb1;replace RB:=RB.keeps hb1;clear hb1 x0 x1 q0)
  | (refine wpList_storeBig (by rfl) _ _ 79 (by rfl) (blk_new _ _ _) (proL plE (.slice A5 1 c5)) (by kernel_rfl) (by rfl) (by rfl) (by rfl) (by rfl) ?_;rintro V2 XR hs2 hB2 hk2))
 replace XV:=hk2 _ _ _ (by have:=XV.lt;omega) (XV.keeps (Below.alloc (Below.refl _ _) (Nat.le_refl _) _))
 replace XK:=hk2 _ _ _ (by have:=XK.lt;omega) (XK.keeps (Below.alloc (Below.refl _ _) (Nat.le_refl _) _))
 replace fa5:=(fa5.keep (Below.alloc (Below.refl _ _) (Nat.le_refl _) _)).other (blk_new _ _ _) (by decide) hk2
 have XD:=XR
 have hne:w.heap.size+1+1<W1.heap.size:=RB.lt
 replace RB:=hk2 _ _ _ (by omega) (RB.keeps (Below.alloc (Below.refl _ _) (Nat.le_refl _) _))
 replace HB:=hB2 _ _ (Below.alloc HB HB.size _) HB.size
 obtain⟨db,hdb⟩:∃db,db=W1.heap.size:=⟨_,rfl⟩
 rw [<-hdb] at XD hne ⊢
 clear hdb XR hB2 hk2 hs2
 have FL5:FSl V2 (.slice A5 1 c5) [((t:Int),(1,1))]:=⟨A5,c5,rfl,hc5,fa5⟩
 clear fa5 hc5
 have x0:=XV.cell 0 _ rfl
 have x1:=XV.cell 1 _ rfl
 have q0:=XK.cell 0 _ rfl
 have q1:=XK.cell 1 _ rfl
 have gg:=keepsC HB g1 l1
 have htn:(t:Int)<(n1:Int):=by omega
 cases hG:G t with
 | true =>
  rw [hG] at gg
  have eR:Hid (timesP (D t,[]) (S,[]) (-k,1)=R):=by have q:=hR.out;rw [hG] at q;exact q
  obtain⟨hD1,hD2⟩:=HD.out hG
  have ct:=fun W fa fb=>uptimes_w (D t) S [] [] (.slice none 0 0) (.slice none 0 0) (-k,1) hD1 hS hD2 rS hpk fOk_nil fOk_nil (by simp) W fa fb
  rw [eR.out] at ct
  have cD:=fun W=>uofKnown_w (D t) W
  clear hR hG
  go_upto_region 4 with (first
   | (refine wpList_loadBig (by rfl) _ 30 (by rfl) Try.underlying30 (dimL (D t)) (by kernel_rfl) (by rfl) (fun j c hj=>keepsC HB (g0.out j c hj) l0) (dim_val (D t)) ?_)
   | (go_at_call 63;(with_reducible refine (cD _).mono ?_);rintro _ W3 ⟨rfl,hb1⟩;replace HB:=later HB hb1;replace XV:=XV.keeps hb1;replace XK:=XK.keeps hb1;replace RB:=RB.keeps hb1;replace XD:=XD.keeps hb1;clear hb1 x0 x1 q0 q1 gg)
   | (refine wpList_storeBig (by rfl) _ _ 79 (by rfl) XD (proL (D t) (.slice none 0 0)) (by kernel_rfl) (by rfl) (by rfl) (by rfl) (by rfl) ?_;rintro V4 XR hs4 hB4 hk4;replace XV:=hk4 _ _ _ (by omega) XV;replace XK:=hk4 _ _ _ (by omega) XK;replace RB:=hk4 _ _ _ (by omega) RB;replace HB:=hB4 _ _ HB (by omega);clear XD;have XD:=XR;clear XR hk4 hB4 hs4))
  have x0:=XV.cell 0 _ rfl
  have x1:=XV.cell 1 _ rfl
  have q0:=XK.cell 0 _ rfl
  have q1:=XK.cell 1 _ rfl
  have gg:=q1
  try simp only [Act.put]
  have k0:=fun n:Behind V4=>n.cell q1 XK.lt
  obtain⟨hk1,hk2⟩:=hk
  refine tail_behind 8 (by kernel_rfl) (by kernel_rfl) ?_
  simp only [List.take_succ_cons,List.take_zero,List.drop_succ_cons,List.drop_zero]
  repeat (first
   | (go_big_quiet_want;refine quiet_loadBig _ 79 (by rfl) Try.underlying79 (proL (D t) (.slice none 0 0)) (by kernel_rfl) (by rfl) (XD.behind) (pro_val (D t) (.slice none 0 0)) ?_;simp only [Act.put,List.setIfInBounds_toArray,List.set_cons_zero,List.set_cons_succ];go_big_quiet_on)
   | (go_big_quiet_want;refine quiet_loadBig _ 30 (by rfl) Try.underlying30 (dimL S) (by kernel_rfl) (by rfl) (fun W hW j c hj=>by have q:=XV.behind W hW (2+j) c (vrL_dim j c hj);rwa [Nat.zero_add] at q) (dim_val S) ?_;simp only [Act.put,List.setIfInBounds_toArray,List.set_cons_zero,List.set_cons_succ];go_big_quiet_on)
   | (go_big_quiet_step (first | (go_at_call 63;with_reducible refine Behind.call (cs _)) | (go_at_call 56;with_reducible refine Behind.call (cw _)))))
  refine wpQuiet_nil ?_
  rintro _ ⟨q,rfl⟩
  obtain⟨W,hb1⟩:=q
  dsimp only
  clear k0 x0 x1 q0 q1 gg
  replace HB:=later HB hb1
  replace RB:=RB.keeps hb1
  have FLk:=(fSl_nil V4).keep hb1
  clear hb1
  cases R with
  | none =>
   have eR:Hid ((none:Option Pro)=none):=rfl
   go_wp2_with (first
    | (go_at_call 57;(with_reducible refine (ct _ FLk (fSl_nil _)).mono ?_);rintro r W2 ⟨hM,hb2⟩;have hr:=hM.no;subst hr;exact⟨rfl,Or.inr ⟨eR.out,rfl⟩,later HB hb2⟩))
  | some X =>
   go_wp2_with (first
    | (go_at_call 57;(with_reducible refine (ct _ FLk (fSl_nil _)).mono ?_);rintro r W2 ⟨hM,hb2⟩;obtain⟨s,hr,A9,c9,rfl,hc9,fa9⟩:=hM.yes;subst hr;have fl:FSl W2 (.slice A9 X.2.length c9) X.2:=⟨A9,c9,rfl,hc9,fa9⟩;replace HB:=later HB hb2;replace RB:=RB.keeps hb2;clear hb2 hM)
    | (refine wpList_storeBig (by rfl) _ _ 79 (by rfl) (RB) (proL X.1 (.slice A9 X.2.length c9)) (by kernel_rfl) (by rfl) (by rfl) (by rfl) (by rfl) ?_;rintro V3 XR hs2 hB2 hk2))
   have fl2:=fl.other RB (by decide) hk2
   exact bodyPost_ret (v:=proV X.1 (.slice A9 X.2.length c9)) (results_cell_row Try.results64 _ V3 (w.heap.size+1+1) 79 (proL X.1 (.slice A9 X.2.length c9)).toArray (0,0) _ (by rfl) XR Try.underlying79 (by rfl) (by kernel_rfl)) rfl ⟨Or.inl ⟨X,_,rfl,rfl,fl2⟩,hB2 _ _ HB (by omega)⟩
 | false =>
  rw [hG] at gg
  have eR:Hid (timesP (plE,[((t:Int),(1,1))]) (S,[]) (-k,1)=R):=by have q:=hR.out;rw [hG] at q;exact q
  have ct:=fun W fa fb=>uptimes_w plE S [((t:Int),(1,1))] [] (.slice A5 1 c5) (.slice none 0 0) (-k,1) plE_ok.1 hS plE_ok.2 rS hpk (fOk_one _) fOk_nil (by simp) W fa fb
  rw [eR.out] at ct
  clear hR hG
  go_upto_region 4 with fail
  try simp only [Act.put]
  have k0:=fun n:Behind V2=>n.cell q1 XK.lt
  obtain⟨hk1,hk2⟩:=hk
  refine tail_behind 8 (by kernel_rfl) (by kernel_rfl) ?_
  simp only [List.take_succ_cons,List.take_zero,List.drop_succ_cons,List.drop_zero]
  repeat (first
   | (go_big_quiet_want;refine quiet_loadBig _ 79 (by rfl) Try.underlying79 (proL plE (.slice A5 1 c5)) (by kernel_rfl) (by rfl) (XD.behind) (pro_val plE (.slice A5 1 c5)) ?_;simp only [Act.put,List.setIfInBounds_toArray,List.set_cons_zero,List.set_cons_succ];go_big_quiet_on)
   | (go_big_quiet_want;refine quiet_loadBig _ 30 (by rfl) Try.underlying30 (dimL S) (by kernel_rfl) (by rfl) (fun W hW j c hj=>by have q:=XV.behind W hW (2+j) c (vrL_dim j c hj);rwa [Nat.zero_add] at q) (dim_val S) ?_;simp only [Act.put,List.setIfInBounds_toArray,List.set_cons_zero,List.set_cons_succ];go_big_quiet_on)
   | (go_big_quiet_step (first | (go_at_call 63;with_reducible refine Behind.call (cs _)) | (go_at_call 56;with_reducible refine Behind.call (cw _)))))
  refine wpQuiet_nil ?_
  rintro _ ⟨q,rfl⟩
  obtain⟨W,hb1⟩:=q
  dsimp only
  clear k0 x0 x1 q0 q1 gg
  replace HB:=later HB hb1
  replace RB:=RB.keeps hb1
  have FLk:=FL5.keep hb1
  clear hb1
  cases R with
  | none =>
   have eR:Hid ((none:Option Pro)=none):=rfl
   go_wp2_with (first
    | (go_at_call 57;(with_reducible refine (ct _ FLk (fSl_nil _)).mono ?_);rintro r W2 ⟨hM,hb2⟩;have hr:=hM.no;subst hr;exact⟨rfl,Or.inr ⟨eR.out,rfl⟩,later HB hb2⟩))
  | some X =>
   go_wp2_with (first
    | (go_at_call 57;(with_reducible refine (ct _ FLk (fSl_nil _)).mono ?_);rintro r W2 ⟨hM,hb2⟩;obtain⟨s,hr,A9,c9,rfl,hc9,fa9⟩:=hM.yes;subst hr;have fl:FSl W2 (.slice A9 X.2.length c9) X.2:=⟨A9,c9,rfl,hc9,fa9⟩;replace HB:=later HB hb2;replace RB:=RB.keeps hb2;clear hb2 hM)
    | (refine wpList_storeBig (by rfl) _ _ 79 (by rfl) (RB) (proL X.1 (.slice A9 X.2.length c9)) (by kernel_rfl) (by rfl) (by rfl) (by rfl) (by rfl) ?_;rintro V3 XR hs2 hB2 hk2))
   have fl2:=fl.other RB (by decide) hk2
   exact bodyPost_ret (v:=proV X.1 (.slice A9 X.2.length c9)) (results_cell_row Try.results64 _ V3 (w.heap.size+1+1) 79 (proL X.1 (.slice A9 X.2.length c9)).toArray (0,0) _ (by rfl) XR Try.underlying79 (by rfl) (by kernel_rfl)) rfl ⟨Or.inl ⟨X,_,rfl,rfl,fl2⟩,hB2 _ _ HB (by omega)⟩
end Go.Proofs.Ytbejmklkicoibaa
