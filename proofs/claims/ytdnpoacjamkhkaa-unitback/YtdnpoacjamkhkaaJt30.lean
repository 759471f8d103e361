/- unit's tried: what was given up by a panic with a stop is an error; Times. -/
import Derived.Test.YtdnpoacjamkhkaaJt29
import Derived.Defers
import Derived.Recover
import Derived.Laws.Pointers
namespace Go.Proofs.Ytdnpoacjamkhkaa
open Go.ChangeShapes Go.WideShapes Go.ChangeAt Go.RowKit
def RetW (w1:World) (e:Exit) (a:Act) (w:World):Prop:=(e=.ret∨e=.normal)∧a.defers=[]∧w=w1
theorem wpS_ends {P:Program} {c:Code} {Q:Exit→Act→List Frame→World→Prop} {a:Act} {cs:List Frame} {w w1:World} (h:c.wp P (RetW w1) a w) (hr:∀a',a'.defers=[]→Q .ret a' cs w1) (hn:∀a',a'.defers=[]→Q .normal a' cs w1):c.wpS P Q a cs w :=
 wpS_of_wp (wp_mono h fun e a' w' ⟨h1,h2,h3⟩=>by
   subst h3
   rcases h1 with rfl | rfl
   · exact hr a' h2
   · exact hn a' h2)
theorem catch_tmps (p x:Value):(#[p]++((Array.replicate 16 undef).setIfInBounds 3 x).setIfInBounds 0 x)=#[p,x,undef,undef,x,undef,undef,undef,undef,undef,undef,undef,undef,undef,undef,undef,undef]:=rfl
theorem catch_idle (p:Addr) (w:World) :
   CallsD Try.prog 99 #[.pointer (some p)] .returning w fun e u' w'=>e=.returned (.tuple #[])∧u'=.returning∧w'=w:=by
 refine callsD_of_wpS Try.func99 rfl fun c₀ cs hu=>?_
 apply wpS_seq
 apply wpS_region
 simp [wpOpsS,go_sem,recoverD,hu,Try.ntmps99,Exit.thenS]
 rw [catch_tmps]
 refine wpS_ends (w1:=w) ?_ ?_ ?_
 · go_wp2_with fail
   exact⟨Or.inl rfl,rfl,rfl⟩
 · intro a' h
   cases c₀
   simp_all [bodyPostS,results,Try.results99]
 · intro a' h
   cases c₀
   simp_all [bodyPostS,results,Try.results99]
theorem run_assert_stop (xT:TypeId) (e:Int) (w:World):(Instr.typeAssert (.iface 117 (.agg #[.int .i64 e])) xT 117 true).run Try.prog w=.ok (.tuple #[.agg #[.int .i64 e],.bool true]) w:=by
 simp [Instr.typeAssert,go_sem]
set_option maxRecDepth 20000 in
set_option maxHeartbeats 1000000 in
theorem catch_stop (b:Nat) (e x:Int) (older:List PanicEntry) (w:World) (hc:w.cell? ⟨b,0,none⟩=some (.int .i64 x)) (hz:w.frozen? ⟨b,0,none⟩=false) (hl:b<w.heap.size) :
   CallsD Try.prog 99 #[.pointer (some ⟨b,0,none⟩)] (.panicking ({ v:=.iface 117 (.agg #[.int .i64 e]),recovered:=false } :: older)) w fun r u' w'=>r=.returned (.tuple #[])∧u'=.panicking ({ v:=.iface 117 (.agg #[.int .i64 e]),recovered:=true } :: older)∧w'=(w.setCell ⟨b,0,none⟩ (.int .i64 e)).alloc (.cells #[.int .i64 e] 117):=by
 have HW:Below w.heap.size w (w.alloc (.cells #[.int .i64 e] 117)):=Below.alloc (Below.refl _ _) (Nat.le_refl _) _
 have hc2:=keepsC HW hc hl
 have hz2:=keepsF HW hz hl
 clear HW
 have hta:=fun xT W=>run_assert_stop xT e W
 refine callsD_of_wpS Try.func99 rfl fun c₀ cs hu=>?_
 apply wpS_seq
 apply wpS_region
 simp [wpOpsS,go_sem,recoverD,hu,Try.ntmps99,Exit.thenS]
 rw [catch_tmps]
 refine wpS_ends (w1:=(w.setCell ⟨b,0,none⟩ (.int .i64 e)).alloc (.cells #[.int .i64 e] 117)) ?_ ?_ ?_
 · go_wp2_with fail
   exact⟨Or.inr rfl,rfl,rfl⟩
 · intro a' h
   cases c₀
   simp_all [bodyPostS,results,Try.results99]
 · intro a' h
   cases c₀
   simp_all [bodyPostS,results,Try.results99]
def triedV (A B:Nat→Int×Int) (pN pD:Int):Value:=if tmF A B pN pD 7=0 then .tuple #[dimV (tmD A B pN pD 7),.int .i64 0] else .tuple #[dimV zeE,.int .i64 (tmF A B pN pD 7)]
set_option maxHeartbeats 1000000 in
theorem work_ok (F:Nat→Int×Int) (A B:Nat→Int×Int) (pN pD:Int) (ba bb bp:Nat) (R:Ending) (hR:R=.returned (dimV F))
   (ct:∀W,Calls Try.prog 69 #[dimV A,dimV B,.agg #[.int .i64 pN,.int .i64 pD]] W fun r w'=>r=R∧Below W.heap.size W w')
   (w:World) (X:HasDm w ba A) (Y:HasDm w bb B) (Z:Has2 w bp (.int .i64 pN) (.int .i64 pD)) :
   Calls Try.prog 68 #[.pointer (some ⟨ba,0,none⟩),.pointer (some ⟨bb,0,none⟩),.pointer (some ⟨bp,0,none⟩)] w fun r w'=>r=R∧Below w.heap.size w w':=by
 subst hR
 unfold dimV at *
 have W1:Below w.heap.size w (w.alloc (.cells #[.int .i64 0,.int .i64 0,.int .i64 0,.int .i64 0,.int .i64 0,.int .i64 0,.int .i64 0,.int .i64 0,.int .i64 0,.int .i64 0,.int .i64 0,.int .i64 0,.int .i64 0,.int .i64 0] 43)):=Below.alloc (Below.refl _ _) (Nat.le_refl _) _
 have O:HasDm (w.alloc (.cells #[.int .i64 0,.int .i64 0,.int .i64 0,.int .i64 0,.int .i64 0,.int .i64 0,.int .i64 0,.int .i64 0,.int .i64 0,.int .i64 0,.int .i64 0,.int .i64 0,.int .i64 0,.int .i64 0] 43)) w.heap.size zeE:=dim_new w zeE _
 have HB:=W1
 replace X:=X.keep W1
 replace Y:=Y.keep W1
 replace Z:=Z.keep W1
 clear W1
 obtain⟨x0,x1,x2,x3,x4,x5,x6,x7,x8,x9,x10,x11,x12,x13⟩:=X.cells
 obtain⟨y0,y1,y2,y3,y4,y5,y6,y7,y8,y9,y10,y11,y12,y13⟩:=Y.cells
 obtain⟨z0,z1, -, -, -⟩:=id Z
 go_enter Try.func68,Try.ntmps68
 go_upto_region 1 with fail
 generalize (w.alloc (.cells #[.int .i64 0,.int .i64 0,.int .i64 0,.int .i64 0,.int .i64 0,.int .i64 0,.int .i64 0,.int .i64 0,.int .i64 0,.int .i64 0,.int .i64 0,.int .i64 0,.int .i64 0,.int .i64 0] 43))=V1 at *
 go_wp2_with (first | (go_at_call 69;with_reducible refine (ct _).mono ?_;rintro _ VV ⟨rfl,hb1⟩;replace O:=O.keep hb1;replace HB:=later HB hb1;clear hb1;clear x0 x1 x2 x3 x4 x5 x6 x7 x8 x9 x10 x11 x12 x13 y0 y1 y2 y3 y4 y5 y6 y7 y8 y9 y10 y11 y12 y13 z0 z1;obtain⟨y0,y1,y2,y3,y4,y5,y6,y7,y8,y9,y10,y11,y12,y13⟩:=O.cells;obtain⟨f0,f1,f2,f3,f4,f5,f6,f7,f8,f9,f10,f11,f12,f13⟩:=O.froz))
 refine bodyPost_ret (v:=dimV F) (by simp [results,Try.results68,go_sem, *];rfl) rfl ⟨rfl, ?_⟩
 repeat' (first | (with_reducible exact HB) | (with_reducible refine Below.setCell ?_ ?_ _) | go_size)
set_option maxHeartbeats 1000000 in
theorem work_no (e:Int) (A B:Nat→Int×Int) (pN pD:Int) (ba bb bp:Nat) (R:Ending) (hR:R=.panicked (stopP e))
   (ct:∀W,Calls Try.prog 69 #[dimV A,dimV B,.agg #[.int .i64 pN,.int .i64 pD]] W fun r w'=>r=R∧Below W.heap.size W w')
   (w:World) (X:HasDm w ba A) (Y:HasDm w bb B) (Z:Has2 w bp (.int .i64 pN) (.int .i64 pD)) :
   Calls Try.prog 68 #[.pointer (some ⟨ba,0,none⟩),.pointer (some ⟨bb,0,none⟩),.pointer (some ⟨bp,0,none⟩)] w fun r w'=>r=R∧Below w.heap.size w w':=by
 subst hR
 unfold dimV at *
 have W1:Below w.heap.size w (w.alloc (.cells #[.int .i64 0,.int .i64 0,.int .i64 0,.int .i64 0,.int .i64 0,.int .i64 0,.int .i64 0,.int .i64 0,.int .i64 0,.int .i64 0,.int .i64 0,.int .i64 0,.int .i64 0,.int .i64 0] 43)):=Below.alloc (Below.refl _ _) (Nat.le_refl _) _
 have HB:=W1
 replace X:=X.keep W1
 replace Y:=Y.keep W1
 replace Z:=Z.keep W1
 clear W1
 obtain⟨x0,x1,x2,x3,x4,x5,x6,x7,x8,x9,x10,x11,x12,x13⟩:=X.cells
 obtain⟨y0,y1,y2,y3,y4,y5,y6,y7,y8,y9,y10,y11,y12,y13⟩:=Y.cells
 obtain⟨z0,z1, -, -, -⟩:=id Z
 go_enter Try.func68,Try.ntmps68
 go_upto_region 1 with fail
 generalize (w.alloc (.cells #[.int .i64 0,.int .i64 0,.int .i64 0,.int .i64 0,.int .i64 0,.int .i64 0,.int .i64 0,.int .i64 0,.int .i64 0,.int .i64 0,.int .i64 0,.int .i64 0,.int .i64 0,.int .i64 0] 43))=V1 at *
 go_wp2_with (first | (go_at_call 69;with_reducible refine (ct _).mono ?_;rintro _ VV ⟨rfl,hb1⟩))
 exact⟨rfl,rfl,later HB hb1⟩
end Go.Proofs.Ytdnpoacjamkhkaa
