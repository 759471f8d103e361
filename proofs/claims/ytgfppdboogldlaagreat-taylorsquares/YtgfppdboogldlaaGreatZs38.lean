/- taylor: Coefs of a field of one variable that is not refused. -/
import Derived.Test.YtgfppdboogldlaaGreatZs35
import Derived.Test.YtgfppdboogldlaaGreatZs36
import Derived.Test.YtgfppdboogldlaaGreatZs37
namespace Go.Proofs.YtgfppdboogldlaaGreat
open Go.ChangeShapes Go.WideShapes Go.ChangeAt Go.RowKit
set_option maxHeartbeats 400000 in
theorem tnothing_core (lo hi:Nat) (b1 b2:Bool) (hb:(b1&&b2)=false) (cr:∀w,Calls Tryz.prog 59 #[.agg #[.float .f64 lo,.float .f64 hi]] w fun e w'=>e=.returned (.bool true)∧Below w.heap.size w w')
   (o1:(FloatKind.f64.format.order lo (infI 1)==some .eq)=b1) (o2:(FloatKind.f64.format.order hi (infI (-1))==some .eq)=b2) (w:World) :
   Calls Tryz.prog 40 #[.agg #[.float .f64 lo,.float .f64 hi]] w fun e w'=>e=.returned (.bool false)∧Below w.heap.size w w':=by
 cases b1
 case' true=>cases b2
 case' true.true=>cases hb
 all_goals
   clear hb
   go_enter Tryz.func40,Tryz.ntmps40
   go_wp2_with fail
   have e0:(w.alloc (Obj.cells #[.float .f64 lo,.float .f64 hi] 43)).cell? ⟨w.heap.size,0,none⟩=some (.float .f64 lo):=by go_simp
   have e1:(w.alloc (Obj.cells #[.float .f64 lo,.float .f64 hi] 43)).cell? ⟨w.heap.size,1,none⟩=some (.float .f64 hi):=by go_simp
   have es:w.heap.size<(w.alloc (Obj.cells #[.float .f64 lo,.float .f64 hi] 43)).heap.size:=by go_size
   have eb:Below w.heap.size w (w.alloc (Obj.cells #[.float .f64 lo,.float .f64 hi] 43)):=by go_grown
   generalize w.alloc (Obj.cells #[.float .f64 lo,.float .f64 hi] 43)=wc at *
   have k0:=fun n:Behind wc=>n.cell e0 es
   have k1:=fun n:Behind wc=>n.cell e1 es
   refine region_behind (by kernel_rfl) (by kernel_rfl) ?_
   repeat (go_big_quiet_step (first | (go_at_call 59;with_reducible refine Behind.call (cr _)) | (go_at_call 60;with_reducible refine Behind.call (empty_w _))))
   refine wpQuiet_nil ?_
   rintro _ ⟨n,rfl⟩
   obtain⟨W,hb⟩:=n
   go_wp2_with fail
   go_ret
   exact⟨rfl,later eb hb⟩
theorem tnothing_w {p:Nat×Nat} (hp:W2 p) (h:hsB p.1 p.2=true) (w:World):Calls Tryz.prog 40 #[.agg #[.float .f64 p.1,.float .f64 p.2]] w fun e w'=>e=.returned (.bool (false))∧Below w.heap.size w w':=by
 rw [←holds_eq,Bool.and_eq_true] at h
 have cr:=fun w=>right_w p.1 p.2 hp.1 hp.2 w
 rw [h.1] at cr
 exact tnothing_core p.1 p.2 _ _ (by cases q1:(eqB p.1 (infI 1)&&eqB p.2 (infI (-1))) <;> simp_all) cr (o_eq hp.1 (infI_lt 1)) (o_eq hp.2 (infI_lt (-1))) w
set_option maxHeartbeats 1000000 in
theorem tholdsNothing_none (A:Option Addr) (n C:Nat) (X:Nat→Nat×Nat) (hn:n≤64) (hx:∀i,i<n→W2 (X i)∧hsB (X i).1 (X i).2=true) (w:World) (V:Ivs w A n X) :
   Calls Tryz.prog 58 #[.slice A n C,.func (.func 40) #[] #[]] w fun e w'=>e=.returned (.int .i64 (-1))∧Below w.heap.size w w':=by
 have HX:Hid (∀i,i<n→W2 (X i)∧hsB (X i).1 (X i).2=true):=hx
 clear hx
 go_enter Tryz.func58,Tryz.ntmps58
 go_wp2_with fail
 go_loopg [8] n (fun G s8 wx=>Below w.heap.size w wx∧∃i:Nat,i+G=n∧s8=.int .i64 (i:Int))
 case atStart=>exact⟨Below.refl _ _,0,by omega,rfl⟩
 case round =>
   obtain⟨HB,i,hi,rfl⟩:=hrel
   by_cases ci:i=n
   · subst ci
     go_wp2_with fail
     go_ret
     exact⟨rfl,HB⟩
   · have hlt:(i:Int)<(n:Int):=by omega
     obtain⟨b,o,hA,hb,x0,x1,l0,l1⟩:=(V.keep HB) i (by omega)
     have c:=fun w=>tnothing_w (HX.out i (by omega)).1 (HX.out i (by omega)).2 w
     subst hA
     go_wp2_with (go_at_call 40;refine (c _).mono ?_;rintro _ w1 ⟨rfl,hb1⟩;replace HB:=later HB hb1)
     go_roundg (n-i-1)
     case measure=>omega
     case rel=>exact⟨HB,i+1,by omega,by go_num⟩
theorem tholdsNothing_no (A:Option Addr) (n C:Nat) (X:Nat→Nat×Nat) (hn:n≤64) (hx:∀i,i<n→W2 (X i)∧hsB (X i).1 (X i).2=true) (w:World) (V:Ivs w A n X) :
   Calls Tryz.prog 39 #[.slice A n C,.func (.func 40) #[] #[]] w fun e w'=>e=.returned (.bool false)∧Below w.heap.size w w':=by
 have c:=tholdsNothing_none A n C X hn hx w V
 go_enter Tryz.func39,Tryz.ntmps39
 go_wp2_with (go_at_call 58;refine c.mono ?_;rintro _ w1 ⟨rfl,hb1⟩)
 go_ret
 exact⟨rfl,hb1⟩
set_option maxHeartbeats 1000000 in
theorem thasNoEnd_none (A:Option Addr) (n C:Nat) (X:Nat→Nat×Nat) (hn:n≤64) (hx:∀i,i<n→W2 (X i)∧endB (X i)=false) (w:World) (V:Ivs w A n X) :
   Calls Tryz.prog 58 #[.slice A n C,.func (.func 41) #[] #[]] w fun e w'=>e=.returned (.int .i64 (-1))∧Below w.heap.size w w':=by
 have HX:Hid (∀i,i<n→W2 (X i)∧endB (X i)=false):=hx
 clear hx
 go_enter Tryz.func58,Tryz.ntmps58
 go_wp2_with fail
 go_loopg [8] n (fun G s8 wx=>Below w.heap.size w wx∧∃i:Nat,i+G=n∧s8=.int .i64 (i:Int))
 case atStart=>exact⟨Below.refl _ _,0,by omega,rfl⟩
 case round =>
   obtain⟨HB,i,hi,rfl⟩:=hrel
   by_cases ci:i=n
   · subst ci
     go_wp2_with fail
     go_ret
     exact⟨rfl,HB⟩
   · have hlt:(i:Int)<(n:Int):=by omega
     obtain⟨b,o,hA,hb,x0,x1,l0,l1⟩:=(V.keep HB) i (by omega)
     have c:=fun w=>(show Calls Tryz.prog 41 #[.agg #[.float .f64 (X i).1,.float .f64 (X i).2]] w fun e w'=>e=.returned (.bool (false))∧Below w.heap.size w w' by have:=tend_w (HX.out i (by omega)).1 w;rw [(HX.out i (by omega)).2] at this;exact this)
     subst hA
     go_wp2_with (go_at_call 41;refine (c _).mono ?_;rintro _ w1 ⟨rfl,hb1⟩;replace HB:=later HB hb1)
     go_roundg (n-i-1)
     case measure=>omega
     case rel=>exact⟨HB,i+1,by omega,by go_num⟩
theorem thasNoEnd_no (A:Option Addr) (n C:Nat) (X:Nat→Nat×Nat) (hn:n≤64) (hx:∀i,i<n→W2 (X i)∧endB (X i)=false) (w:World) (V:Ivs w A n X) :
   Calls Tryz.prog 39 #[.slice A n C,.func (.func 41) #[] #[]] w fun e w'=>e=.returned (.bool false)∧Below w.heap.size w w':=by
 have c:=thasNoEnd_none A n C X hn hx w V
 go_enter Tryz.func39,Tryz.ntmps39
 go_wp2_with (go_at_call 58;refine c.mono ?_;rintro _ w1 ⟨rfl,hb1⟩)
 go_ret
 exact⟨rfl,hb1⟩
def TpAt (w:World) (q:Nat) (x y z:Value):Prop:=w.cell? ⟨q,0,none⟩=some x∧w.cell? ⟨q,1,none⟩=some y∧w.cell? ⟨q,2,none⟩=some z∧q<w.heap.size
theorem TpAt.keep {w W:World} {q:Nat} {x y z:Value} (h:TpAt w q x y z) (k:Below w.heap.size w W):TpAt W q x y z:=⟨keepsC k h.1 h.2.2.2,keepsC k h.2.1 h.2.2.2,keepsC k h.2.2.1 h.2.2.2,Nat.lt_of_lt_of_le h.2.2.2 k.size⟩
theorem tpAt_new (w:World) (x y z:Value) (t:Nat):TpAt (w.alloc (.cells #[x,y,z] t)) w.heap.size x y z:=⟨by go_simp,by go_simp,by go_simp,by go_size⟩
theorem tfield_w (A:Option Addr) (n C:Nat) (D:Option Addr) (E:Nat) (w:World):Calls Tryz.prog 38 #[tapeV 1 A n C D 1 E] w fun e w'=>e=.returned (.bool true)∧Below w.heap.size w w':=by
 unfold tapeV
 go_enter Tryz.func38,Tryz.ntmps38
 go_wp2_with fail
 go_ret
 exact⟨rfl,by go_grown⟩
set_option maxHeartbeats 4000000 in
theorem trefused_w (A:Option Addr) (n C:Nat) (D:Option Addr) (E:Nat) (AX:Option Addr) (CX order:Nat) (ho:order≤20) (O:Nat→Opw) (Y:Nat→Int) (X:Nat→Nat×Nat) (hn:n≤1000) (hr:rightT 1 n O 1 Y=true) (h0:W2 (X 0)∧hsB (X 0).1 (X 0).2=true) (h1:endB (X 0)=false) (w:World) (VO:Ops w A n O) (VY:Ins w D 1 Y) (VX:Ivs w AX 1 X) :
   Calls Tryz.prog 19 #[tapeV 1 A n C D 1 E,.slice AX 1 CX,.int .i64 (order:Int)] w fun e w'=>e=.returned (.int .i64 0)∧Below w.heap.size w w':=by
 have c1:=fun (W:World) (hW:Below w.heap.size w W)=>right_t 1 A n C D 1 E O Y (by omega) (by omega) W (VO.keep hW) (VY.keep hW)
 rw [hr] at c1
 have cF:=fun W=>tfield_w A n C D E W
 have cN:=fun (W:World) (hW:Below w.heap.size w W)=>tholdsNothing_no AX 1 CX X (by omega) (fun i hi=>by rw [show i=0 by omega];exact h0) W (VX.keep hW)
 have cE:=fun (W:World) (hW:Below w.heap.size w W)=>thasNoEnd_no AX 1 CX X (by omega) (fun i hi=>by rw [show i=0 by omega];exact⟨h0.1,h1⟩) W (VX.keep hW)
 clear hr h0 h1 VO VY VX
 have o1:decide ((order:Int)<0)=false:=decide_eq_false (by omega)
 have o2:decide ((20:Int)<(order:Int))=false:=decide_eq_false (by omega)
 unfold tapeV errT at *
 have T:=tpAt_new w (.int .i64 1) (.slice A n C) (.slice D 1 E) 25
 have HB:Below w.heap.size w (w.alloc (.cells #[.int .i64 1,.slice A n C,.slice D 1 E] 25)):=by go_grown
 go_enter Tryz.func19,Tryz.ntmps19
 go_upto_region 1 with fail
 generalize (w.alloc (.cells #[.int .i64 1,.slice A n C,.slice D 1 E] 25))=V1 at *
 obtain⟨t0,t1,t2,tl⟩:=id T
 go_upto_region 6 with (first
   | (go_at_call 37;refine (c1 _ HB).mono ?_;rintro _ V2 ⟨rfl,hb1⟩;replace T:=T.keep hb1;replace HB:=later HB hb1;clear hb1;clear t0 t1 t2 tl;obtain⟨t0,t1,t2,tl⟩:=id T)
   | (go_at_call 38;refine (cF _).mono ?_;rintro _ V3 ⟨rfl,hb1⟩;replace T:=T.keep hb1;replace HB:=later HB hb1;clear hb1;clear t0 t1 t2 tl;obtain⟨t0,t1,t2,tl⟩:=id T)
   | (go_at_call 39;refine (cN _ HB).mono ?_;rintro _ V4 ⟨rfl,hb1⟩;replace T:=T.keep hb1;replace HB:=later HB hb1;clear hb1;clear t0 t1 t2 tl;obtain⟨t0,t1,t2,tl⟩:=id T))
 go_wp2_with (go_at_call 39;refine (cE _ HB).mono ?_;rintro _ V5 ⟨rfl,hb1⟩;replace T:=T.keep hb1;replace HB:=later HB hb1;clear hb1;clear t0 t1 t2 tl;obtain⟨t0,t1,t2,tl⟩:=id T)
 go_ret
 exact⟨rfl,HB⟩
theorem SeS.rws {w0:World} {n b db:Nat} {oV uV:Value} {X:Nat→Nat×Nat} {L:Nat→List (Nat×Nat)} {k:Nat} {gr rc:Nat→Nat} {w:World} {vo:Nat→Value} {vv:Value} (S:SeS w0 n b db oV uV X L k gr rc w vo vv):∃A C RA RC,vv=.slice A (k+1) C∧Rws w A (k+1) RA (fun _=>1) RC (fun r _=>X r):=by
 have k':w.ownsRow w0.heap.size 26 1 vv _ _:=S.hv
 rcases k'.2 with ⟨-,hn⟩ | ⟨g,cap,cur,rfl, -⟩
 · simp at hn
 · have hl:=(World.ownsRow.lt k' g rfl).2
   rw [show ((List.range (k+1)).map fun i=>Value.slice (some ⟨gr i,0,none⟩) 1 (rc i)).length=k+1 by simp] at k' ⊢
   refine⟨_,cap,fun r=>some ⟨gr r,0,none⟩,rc,rfl,fun r hr=>⟨g,0,rfl,hl, ?_,by show 1≤9223372036854775807;omega,S.row r (by omega)⟩⟩
   rw [Nat.zero_add,World.ownsRow.cellAt k' r (by omega)]
   simp [hr]
end Go.Proofs.YtgfppdboogldlaaGreat
