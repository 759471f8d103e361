/- The walk of Div, of intervals that hold some number. The walk of Div, of intervals that hold some number. -/
import Derived.Test.YtgfppdboogldlaaGreatZs09
namespace Go.Proofs.YtgfppdboogldlaaGreat
open Go.ChangeShapes Go.WideShapes Go.ChangeAt Go.RowKit
set_option maxHeartbeats 2000000 in
theorem div_a (xl xh yl yh m1 m2:Nat) (b3 b4:Bool) (c0:∀b W,b<W.heap.size→W.cell? ⟨b,0,none⟩=some (.float .f64 xl)→W.cell? ⟨b,1,none⟩=some (.float .f64 xh)→W.cell? ⟨b,2,none⟩=some (.float .f64 yl)→W.cell? ⟨b,3,none⟩=some (.float .f64 yh)→Calls Tryz.prog 114 #[.slice (some ⟨b,0,none⟩) 2 2] W fun e w'=>e=.returned (.bool false)∧Below W.heap.size W w')
   (cz:(∀w,Calls Tryz.prog 98 #[.float .f64 0] w fun e w'=>e=.returned (.agg #[.float .f64 0,.float .f64 0])∧Below w.heap.size w w'))
   (hy:FloatKind.f64.format.order yl 0=some .gt∨FloatKind.f64.format.order yl 0=some .eq∧FloatKind.f64.format.order yh 0=some .gt) (ex1:(FloatKind.f64.format.order xl 0==some .eq)=b3) (ex2:(FloatKind.f64.format.order xh 0==some .eq)=b4) (hx:b3=false∨b3=true∧b4=false)
   (c1:(∀w,Calls Tryz.prog 153 #[.agg #[.float .f64 xl,.float .f64 xh],.agg #[.float .f64 yl,.float .f64 yh]] w fun e w'=>e=.returned (.agg #[.float .f64 m1,.float .f64 m2])∧Below w.heap.size w w')) (w:World) :
   Calls Tryz.prog 142 #[.agg #[.float .f64 xl,.float .f64 xh],.agg #[.float .f64 yl,.float .f64 yh]] w fun e w'=>e=.returned (.agg #[.float .f64 m1,.float .f64 m2])∧Below w.heap.size w w':=by
 rcases hy with oy | ⟨oy,oy2⟩ <;> rcases hx with rfl | ⟨rfl,rfl⟩
 all_goals
   go_enter Tryz.func142,Tryz.ntmps142
   go_upto_region 2 with
    (go_at_call 98;refine (cz _).mono ?_;rintro _ w1 ⟨rfl,hb1⟩
     have R:Has2 w1 (w.heap.size+1+1) (.float .f64 0) (.float .f64 0):=Has2.keep ⟨by go_simp,by go_simp,by go_simp,by go_simp,by go_size⟩ hb1
     have X:Has2 w1 w.heap.size (.float .f64 xl) (.float .f64 xh):=Has2.keep ⟨by go_simp,by go_simp,by go_simp,by go_simp,by go_size⟩ hb1
     have Y:Has2 w1 (w.heap.size+1) (.float .f64 yl) (.float .f64 yh):=Has2.keep ⟨by go_simp,by go_simp,by go_simp,by go_simp,by go_size⟩ hb1
     have HB:Below w.heap.size w w1:=later (by go_grown) hb1)
   clear hb1 cz
   have Z:Has2 (w1.alloc (Obj.cells #[Value.float FloatKind.f64 0,Value.float FloatKind.f64 0] 43)) w1.heap.size (.float .f64 0) (.float .f64 0):=⟨by go_simp,by go_simp,by go_simp,by go_simp,by go_size⟩
   have BL:Below w1.heap.size w1 (w1.alloc (Obj.cells #[Value.float FloatKind.f64 0,Value.float FloatKind.f64 0] 43)):=(Below.refl _ _).alloc (Nat.le_refl _) _
   replace X:=X.keep BL
   replace Y:=Y.keep BL
   replace R:=R.keep BL
   replace HB:=later HB BL
   clear BL
   generalize w1.heap.size=zb at *
   generalize (w1.alloc (Obj.cells #[Value.float FloatKind.f64 0,Value.float FloatKind.f64 0] 43))=W1 at *
   have x0:=X.1
   have x1:=X.2.1
   have y0:=Y.1
   have y1:=Y.2.1
   have ne1:w.heap.size+1+1≠w.heap.size:=by omega
   have ne2:w.heap.size≠w.heap.size+1+1:=by omega
   go_wp2_with (first
    | (go_at_call 114;refine (c0 W1.heap.size _ (by go_size) (by go_simp) (by go_simp) (by go_simp) (by go_simp)).mono ?_;rintro _ w2 ⟨rfl,hb2⟩
       replace HB:Below w.heap.size w w2:=later (HB.alloc HB.size _) hb2
       replace R:=(R.keep ((Below.refl _ _).alloc (Nat.le_refl _) _)).keep hb2
       replace X:=(X.keep ((Below.refl _ _).alloc (Nat.le_refl _) _)).keep hb2
       replace Y:=(Y.keep ((Below.refl _ _).alloc (Nat.le_refl _) _)).keep hb2
       replace Z:=(Z.keep ((Below.refl _ _).alloc (Nat.le_refl _) _)).keep hb2
       replace x0:=X.1
       replace x1:=X.2.1
       replace y0:=Y.1
       replace y1:=Y.2.1
       have w0:=Z.1
       have w1':=Z.2.1
       clear hb2)
    | (go_at_call 153;refine (c1 _).mono ?_;rintro _ w3 ⟨rfl,hb1⟩;replace X:=X.keep hb1;replace Y:=Y.keep hb1;replace R:=R.keep hb1;replace HB:=later HB hb1;clear hb1;obtain⟨d0,d1,d2,d3,d4⟩:=R))
   all_goals
     refine bodyPost_ret (v:=.agg #[.float .f64 m1,.float .f64 m2]) (by simp [results,Tryz.results142,go_sem, *]) rfl ⟨rfl, ?_⟩
     repeat' (first | (with_reducible exact HB) | (with_reducible refine Below.setCell ?_ ?_ _) | go_size)
set_option maxHeartbeats 2000000 in
theorem div_z (xl xh yl yh:Nat) (c0:∀b W,b<W.heap.size→W.cell? ⟨b,0,none⟩=some (.float .f64 xl)→W.cell? ⟨b,1,none⟩=some (.float .f64 xh)→W.cell? ⟨b,2,none⟩=some (.float .f64 yl)→W.cell? ⟨b,3,none⟩=some (.float .f64 yh)→Calls Tryz.prog 114 #[.slice (some ⟨b,0,none⟩) 2 2] W fun e w'=>e=.returned (.bool false)∧Below W.heap.size W w')
   (cz:(∀w,Calls Tryz.prog 98 #[.float .f64 0] w fun e w'=>e=.returned (.agg #[.float .f64 0,.float .f64 0])∧Below w.heap.size w w'))
   (hy:FloatKind.f64.format.order yl 0=some .gt∨FloatKind.f64.format.order yl 0=some .lt∨FloatKind.f64.format.order yl 0=some .eq∧FloatKind.f64.format.order yh 0=some .gt) (ex1:(FloatKind.f64.format.order xl 0==some .eq)=true) (ex2:(FloatKind.f64.format.order xh 0==some .eq)=true)
    (w:World) :
   Calls Tryz.prog 142 #[.agg #[.float .f64 xl,.float .f64 xh],.agg #[.float .f64 yl,.float .f64 yh]] w fun e w'=>e=.returned (.agg #[.float .f64 0,.float .f64 0])∧Below w.heap.size w w':=by
 rcases hy with oy | oy | ⟨oy,oy2⟩
 all_goals
   go_enter Tryz.func142,Tryz.ntmps142
   go_upto_region 2 with
    (go_at_call 98;refine (cz _).mono ?_;rintro _ w1 ⟨rfl,hb1⟩
     have R:Has2 w1 (w.heap.size+1+1) (.float .f64 0) (.float .f64 0):=Has2.keep ⟨by go_simp,by go_simp,by go_simp,by go_simp,by go_size⟩ hb1
     have X:Has2 w1 w.heap.size (.float .f64 xl) (.float .f64 xh):=Has2.keep ⟨by go_simp,by go_simp,by go_simp,by go_simp,by go_size⟩ hb1
     have Y:Has2 w1 (w.heap.size+1) (.float .f64 yl) (.float .f64 yh):=Has2.keep ⟨by go_simp,by go_simp,by go_simp,by go_simp,by go_size⟩ hb1
     have HB:Below w.heap.size w w1:=later (by go_grown) hb1)
   clear hb1 cz
   have Z:Has2 (w1.alloc (Obj.cells #[Value.float FloatKind.f64 0,Value.float FloatKind.f64 0] 43)) w1.heap.size (.float .f64 0) (.float .f64 0):=⟨by go_simp,by go_simp,by go_simp,by go_simp,by go_size⟩
   have BL:Below w1.heap.size w1 (w1.alloc (Obj.cells #[Value.float FloatKind.f64 0,Value.float FloatKind.f64 0] 43)):=(Below.refl _ _).alloc (Nat.le_refl _) _
   replace X:=X.keep BL
   replace Y:=Y.keep BL
   replace R:=R.keep BL
   replace HB:=later HB BL
   clear BL
   generalize w1.heap.size=zb at *
   generalize (w1.alloc (Obj.cells #[Value.float FloatKind.f64 0,Value.float FloatKind.f64 0] 43))=W1 at *
   have x0:=X.1
   have x1:=X.2.1
   have y0:=Y.1
   have y1:=Y.2.1
   have ne1:w.heap.size+1+1≠w.heap.size:=by omega
   have ne2:w.heap.size≠w.heap.size+1+1:=by omega
   go_wp2_with (go_at_call 114;refine (c0 W1.heap.size _ (by go_size) (by go_simp) (by go_simp) (by go_simp) (by go_simp)).mono ?_;rintro _ w2 ⟨rfl,hb2⟩
                replace HB:Below w.heap.size w w2:=later (HB.alloc HB.size _) hb2
                replace R:=(R.keep ((Below.refl _ _).alloc (Nat.le_refl _) _)).keep hb2
                replace X:=(X.keep ((Below.refl _ _).alloc (Nat.le_refl _) _)).keep hb2
                replace Y:=(Y.keep ((Below.refl _ _).alloc (Nat.le_refl _) _)).keep hb2
                replace Z:=(Z.keep ((Below.refl _ _).alloc (Nat.le_refl _) _)).keep hb2
                replace x0:=X.1
                replace x1:=X.2.1
                replace y0:=Y.1
                replace y1:=Y.2.1
                have w0:=Z.1
                have w1':=Z.2.1
                have d0:=R.1
                have d1:=R.2.1
                have d2:=R.2.2.1
                have d3:=R.2.2.2.1
                clear hb2)
   all_goals
     refine bodyPost_ret (v:=.agg #[.float .f64 0,.float .f64 0]) (by simp [results,Tryz.results142,go_sem, *]) rfl ⟨rfl, ?_⟩
     repeat' (first | (with_reducible exact HB) | (with_reducible refine Below.setCell ?_ ?_ _) | go_size)
set_option maxHeartbeats 2000000 in
theorem div_e (xl xh yl yh:Nat)  (c0:∀b W,b<W.heap.size→W.cell? ⟨b,0,none⟩=some (.float .f64 xl)→W.cell? ⟨b,1,none⟩=some (.float .f64 xh)→W.cell? ⟨b,2,none⟩=some (.float .f64 yl)→W.cell? ⟨b,3,none⟩=some (.float .f64 yh)→Calls Tryz.prog 114 #[.slice (some ⟨b,0,none⟩) 2 2] W fun e w'=>e=.returned (.bool false)∧Below W.heap.size W w')
   (cz:(∀w,Calls Tryz.prog 98 #[.float .f64 0] w fun e w'=>e=.returned (.agg #[.float .f64 0,.float .f64 0])∧Below w.heap.size w w'))
   (oy:FloatKind.f64.format.order yl 0=some .eq) (oy2:FloatKind.f64.format.order yh 0=some .eq)
    (w:World) :
   Calls Tryz.prog 142 #[.agg #[.float .f64 xl,.float .f64 xh],.agg #[.float .f64 yl,.float .f64 yh]] w fun e w'=>e=.returned (.agg #[.float .f64 (infI 1),.float .f64 (infI (-1))])∧Below w.heap.size w w'  :=by
 all_goals
   go_enter Tryz.func142,Tryz.ntmps142
   go_upto_region 2 with
    (go_at_call 98;refine (cz _).mono ?_;rintro _ w1 ⟨rfl,hb1⟩
     have R:Has2 w1 (w.heap.size+1+1) (.float .f64 0) (.float .f64 0):=Has2.keep ⟨by go_simp,by go_simp,by go_simp,by go_simp,by go_size⟩ hb1
     have X:Has2 w1 w.heap.size (.float .f64 xl) (.float .f64 xh):=Has2.keep ⟨by go_simp,by go_simp,by go_simp,by go_simp,by go_size⟩ hb1
     have Y:Has2 w1 (w.heap.size+1) (.float .f64 yl) (.float .f64 yh):=Has2.keep ⟨by go_simp,by go_simp,by go_simp,by go_simp,by go_size⟩ hb1
     have HB:Below w.heap.size w w1:=later (by go_grown) hb1)
   clear hb1 cz
   have Z:Has2 (w1.alloc (Obj.cells #[Value.float FloatKind.f64 0,Value.float FloatKind.f64 0] 43)) w1.heap.size (.float .f64 0) (.float .f64 0):=⟨by go_simp,by go_simp,by go_simp,by go_simp,by go_size⟩
   have BL:Below w1.heap.size w1 (w1.alloc (Obj.cells #[Value.float FloatKind.f64 0,Value.float FloatKind.f64 0] 43)):=(Below.refl _ _).alloc (Nat.le_refl _) _
   replace X:=X.keep BL
   replace Y:=Y.keep BL
   replace R:=R.keep BL
   replace HB:=later HB BL
   clear BL
   generalize w1.heap.size=zb at *
   generalize (w1.alloc (Obj.cells #[Value.float FloatKind.f64 0,Value.float FloatKind.f64 0] 43))=W1 at *
   have x0:=X.1
   have x1:=X.2.1
   have y0:=Y.1
   have y1:=Y.2.1
   have ne1:w.heap.size+1+1≠w.heap.size:=by omega
   have ne2:w.heap.size≠w.heap.size+1+1:=by omega
   go_wp2_with (first
    | (go_at_call 114;refine (c0 W1.heap.size _ (by go_size) (by go_simp) (by go_simp) (by go_simp) (by go_simp)).mono ?_;rintro _ w2 ⟨rfl,hb2⟩
       replace HB:Below w.heap.size w w2:=later (HB.alloc HB.size _) hb2
       replace R:=(R.keep ((Below.refl _ _).alloc (Nat.le_refl _) _)).keep hb2
       replace X:=(X.keep ((Below.refl _ _).alloc (Nat.le_refl _) _)).keep hb2
       replace Y:=(Y.keep ((Below.refl _ _).alloc (Nat.le_refl _) _)).keep hb2
       replace Z:=(Z.keep ((Below.refl _ _).alloc (Nat.le_refl _) _)).keep hb2
       replace x0:=X.1
       replace x1:=X.2.1
       replace y0:=Y.1
       replace y1:=Y.2.1
       have w0:=Z.1
       have w1':=Z.2.1
       clear hb2)
    | (go_at_call 60;refine (empty_w _).mono ?_;rintro _ w3 ⟨rfl,hb1⟩;replace X:=X.keep hb1;replace Y:=Y.keep hb1;replace R:=R.keep hb1;replace HB:=later HB hb1;clear hb1;obtain⟨d0,d1,d2,d3,d4⟩:=R))
   all_goals
     refine bodyPost_ret (v:=.agg #[.float .f64 (infI 1),.float .f64 (infI (-1))]) (by simp [results,Tryz.results142,go_sem, *]) rfl ⟨rfl, ?_⟩
     repeat' (first | (with_reducible exact HB) | (with_reducible refine Below.setCell ?_ ?_ _) | go_size)
set_option maxHeartbeats 2000000 in
theorem div_b (xl xh yl yh m1 m2:Nat) (oL oH:Nat→Nat→Nat) (b3 b4:Bool) (h1:xl<18446744073709551616) (h2:xh<18446744073709551616) (h3:yl<18446744073709551616) (h4:yh<18446744073709551616) (c0:∀b W,b<W.heap.size→W.cell? ⟨b,0,none⟩=some (.float .f64 xl)→W.cell? ⟨b,1,none⟩=some (.float .f64 xh)→W.cell? ⟨b,2,none⟩=some (.float .f64 yl)→W.cell? ⟨b,3,none⟩=some (.float .f64 yh)→Calls Tryz.prog 114 #[.slice (some ⟨b,0,none⟩) 2 2] W fun e w'=>e=.returned (.bool false)∧Below W.heap.size W w')
   (cz:(∀w,Calls Tryz.prog 98 #[.float .f64 0] w fun e w'=>e=.returned (.agg #[.float .f64 0,.float .f64 0])∧Below w.heap.size w w'))
   (oy:FloatKind.f64.format.order yl 0=some .lt) (hy:FloatKind.f64.format.order yh 0=some .lt∨FloatKind.f64.format.order yh 0=some .eq) (ex1:(FloatKind.f64.format.order xl 0==some .eq)=b3) (ex2:(FloatKind.f64.format.order xh 0==some .eq)=b4) (hx:b3=false∨b3=true∧b4=false)
   (cM:∀a b,a<18446744073709551616→b<18446744073709551616→∀w,Calls Tryz.prog 154 #[.agg #[.float .f64 a,.float .f64 b]] w fun e w'=>e=.returned (.agg #[.float .f64 (oL a b),.float .f64 (oH a b)])∧Below w.heap.size w w') (c1:(∀w,Calls Tryz.prog 153 #[.agg #[.float .f64 (oL xl xh),.float .f64 (oH xl xh)],.agg #[.float .f64 (oL yl yh),.float .f64 (oH yl yh)]] w fun e w'=>e=.returned (.agg #[.float .f64 m1,.float .f64 m2])∧Below w.heap.size w w')) (w:World) :
   Calls Tryz.prog 142 #[.agg #[.float .f64 xl,.float .f64 xh],.agg #[.float .f64 yl,.float .f64 yh]] w fun e w'=>e=.returned (.agg #[.float .f64 m1,.float .f64 m2])∧Below w.heap.size w w':=by
 rcases hy with oy2 | oy2 <;> rcases hx with rfl | ⟨rfl,rfl⟩
 all_goals
   go_enter Tryz.func142,Tryz.ntmps142
   go_upto_region 2 with
    (go_at_call 98;refine (cz _).mono ?_;rintro _ w1 ⟨rfl,hb1⟩
     have R:Has2 w1 (w.heap.size+1+1) (.float .f64 0) (.float .f64 0):=Has2.keep ⟨by go_simp,by go_simp,by go_simp,by go_simp,by go_size⟩ hb1
     have X:Has2 w1 w.heap.size (.float .f64 xl) (.float .f64 xh):=Has2.keep ⟨by go_simp,by go_simp,by go_simp,by go_simp,by go_size⟩ hb1
     have Y:Has2 w1 (w.heap.size+1) (.float .f64 yl) (.float .f64 yh):=Has2.keep ⟨by go_simp,by go_simp,by go_simp,by go_simp,by go_size⟩ hb1
     have HB:Below w.heap.size w w1:=later (by go_grown) hb1)
   clear hb1 cz
   have Z:Has2 (w1.alloc (Obj.cells #[Value.float FloatKind.f64 0,Value.float FloatKind.f64 0] 43)) w1.heap.size (.float .f64 0) (.float .f64 0):=⟨by go_simp,by go_simp,by go_simp,by go_simp,by go_size⟩
   have BL:Below w1.heap.size w1 (w1.alloc (Obj.cells #[Value.float FloatKind.f64 0,Value.float FloatKind.f64 0] 43)):=(Below.refl _ _).alloc (Nat.le_refl _) _
   replace X:=X.keep BL
   replace Y:=Y.keep BL
   replace R:=R.keep BL
   replace HB:=later HB BL
   clear BL
   generalize w1.heap.size=zb at *
   generalize (w1.alloc (Obj.cells #[Value.float FloatKind.f64 0,Value.float FloatKind.f64 0] 43))=W1 at *
   have x0:=X.1
   have x1:=X.2.1
   have y0:=Y.1
   have y1:=Y.2.1
   have ne1:w.heap.size+1+1≠w.heap.size:=by omega
   have ne2:w.heap.size≠w.heap.size+1+1:=by omega
   go_upto_region 9 with
    (go_at_call 114;refine (c0 W1.heap.size _ (by go_size) (by go_simp) (by go_simp) (by go_simp) (by go_simp)).mono ?_;rintro _ w2 ⟨rfl,hb2⟩
     replace HB:Below w.heap.size w w2:=later (HB.alloc HB.size _) hb2
     replace R:=(R.keep ((Below.refl _ _).alloc (Nat.le_refl _) _)).keep hb2
     replace X:=(X.keep ((Below.refl _ _).alloc (Nat.le_refl _) _)).keep hb2
     replace Y:=(Y.keep ((Below.refl _ _).alloc (Nat.le_refl _) _)).keep hb2
     replace Z:=(Z.keep ((Below.refl _ _).alloc (Nat.le_refl _) _)).keep hb2
     replace x0:=X.1
     replace x1:=X.2.1
     replace y0:=Y.1
     replace y1:=Y.2.1
     have w0:=Z.1
     have w1':=Z.2.1
     clear hb2)
   have X:Has2 w2.drew w.heap.size (.float .f64 xl) (.float .f64 xh):=X
   have Y:Has2 w2.drew (w.heap.size+1) (.float .f64 yl) (.float .f64 yh):=Y
   have R:Has2 w2.drew (w.heap.size+1+1) (.float .f64 0) (.float .f64 0):=R
   have HB:Below w.heap.size w w2.drew:=HB.drew
   go_region_held3 (fun w'=>w'.cell? ⟨w.heap.size,0,none⟩=some (.float .f64 xl)∧w'.cell? ⟨w.heap.size,1,none⟩=some (.float .f64 xh)∧w'.cell? ⟨w.heap.size+1,0,none⟩=some (.float .f64 yl)∧w'.cell? ⟨w.heap.size+1,1,none⟩=some (.float .f64 yh)) (first | exact⟨X.1,X.2.1,Y.1,Y.2.1⟩ | go_keep)
     (first
       | (go_at_call 154;refine (cM _ _ (by assumption) (by assumption) _).mono ?_;rintro _ w3 ⟨rfl,hb1⟩;replace X:=X.keep hb1;replace Y:=Y.keep hb1;replace R:=R.keep hb1;replace HB:=later HB hb1;clear hb1)
       | (go_at_call 153;refine (c1 _).mono ?_;rintro _ w3 ⟨rfl,hb1⟩;replace X:=X.keep hb1;replace Y:=Y.keep hb1;replace R:=R.keep hb1;replace HB:=later HB hb1;clear hb1;obtain⟨d0,d1,d2,d3,d4⟩:=R))
   all_goals
     go_wp2_with fail
     refine bodyPost_ret (v:=.agg #[.float .f64 m1,.float .f64 m2]) (by simp [results,Tryz.results142,go_sem, *]) rfl ⟨rfl, ?_⟩
     repeat' (first | (with_reducible exact HB) | (with_reducible refine Below.setCell ?_ ?_ _) | go_size)
set_option maxHeartbeats 2000000 in
theorem div_whole (xl xh yl yh:Nat) (b3 b4:Bool) (c0:∀b W,b<W.heap.size→W.cell? ⟨b,0,none⟩=some (.float .f64 xl)→W.cell? ⟨b,1,none⟩=some (.float .f64 xh)→W.cell? ⟨b,2,none⟩=some (.float .f64 yl)→W.cell? ⟨b,3,none⟩=some (.float .f64 yh)→Calls Tryz.prog 114 #[.slice (some ⟨b,0,none⟩) 2 2] W fun e w'=>e=.returned (.bool false)∧Below W.heap.size W w')
   (cz:(∀w,Calls Tryz.prog 98 #[.float .f64 0] w fun e w'=>e=.returned (.agg #[.float .f64 0,.float .f64 0])∧Below w.heap.size w w'))
   (oy:FloatKind.f64.format.order yl 0=some .lt) (oy2:FloatKind.f64.format.order yh 0=some .gt) (ex1:(FloatKind.f64.format.order xl 0==some .eq)=b3) (ex2:(FloatKind.f64.format.order xh 0==some .eq)=b4) (hx:b3=false∨b3=true∧b4=false)
    (w:World) :
   Calls Tryz.prog 142 #[.agg #[.float .f64 xl,.float .f64 xh],.agg #[.float .f64 yl,.float .f64 yh]] w fun e w'=>e=.returned (.agg #[.float .f64 (infI (-1)),.float .f64 (infI 1)])∧Below w.heap.size w w':=by
 rcases hx with rfl | ⟨rfl,rfl⟩
 all_goals
   go_enter Tryz.func142,Tryz.ntmps142
   go_upto_region 2 with
    (go_at_call 98;refine (cz _).mono ?_;rintro _ w1 ⟨rfl,hb1⟩
     have R:Has2 w1 (w.heap.size+1+1) (.float .f64 0) (.float .f64 0):=Has2.keep ⟨by go_simp,by go_simp,by go_simp,by go_simp,by go_size⟩ hb1
     have X:Has2 w1 w.heap.size (.float .f64 xl) (.float .f64 xh):=Has2.keep ⟨by go_simp,by go_simp,by go_simp,by go_simp,by go_size⟩ hb1
     have Y:Has2 w1 (w.heap.size+1) (.float .f64 yl) (.float .f64 yh):=Has2.keep ⟨by go_simp,by go_simp,by go_simp,by go_simp,by go_size⟩ hb1
     have HB:Below w.heap.size w w1:=later (by go_grown) hb1)
   clear hb1 cz
   have Z:Has2 (w1.alloc (Obj.cells #[Value.float FloatKind.f64 0,Value.float FloatKind.f64 0] 43)) w1.heap.size (.float .f64 0) (.float .f64 0):=⟨by go_simp,by go_simp,by go_simp,by go_simp,by go_size⟩
   have BL:Below w1.heap.size w1 (w1.alloc (Obj.cells #[Value.float FloatKind.f64 0,Value.float FloatKind.f64 0] 43)):=(Below.refl _ _).alloc (Nat.le_refl _) _
   replace X:=X.keep BL
   replace Y:=Y.keep BL
   replace R:=R.keep BL
   replace HB:=later HB BL
   clear BL
   generalize w1.heap.size=zb at *
   generalize (w1.alloc (Obj.cells #[Value.float FloatKind.f64 0,Value.float FloatKind.f64 0] 43))=W1 at *
   have x0:=X.1
   have x1:=X.2.1
   have y0:=Y.1
   have y1:=Y.2.1
   have ne1:w.heap.size+1+1≠w.heap.size:=by omega
   have ne2:w.heap.size≠w.heap.size+1+1:=by omega
   go_wp2_with (first
    | (go_at_call 114;refine (c0 W1.heap.size _ (by go_size) (by go_simp) (by go_simp) (by go_simp) (by go_simp)).mono ?_;rintro _ w2 ⟨rfl,hb2⟩
       replace HB:Below w.heap.size w w2:=later (HB.alloc HB.size _) hb2
       replace R:=(R.keep ((Below.refl _ _).alloc (Nat.le_refl _) _)).keep hb2
       replace X:=(X.keep ((Below.refl _ _).alloc (Nat.le_refl _) _)).keep hb2
       replace Y:=(Y.keep ((Below.refl _ _).alloc (Nat.le_refl _) _)).keep hb2
       replace Z:=(Z.keep ((Below.refl _ _).alloc (Nat.le_refl _) _)).keep hb2
       replace x0:=X.1
       replace x1:=X.2.1
       replace y0:=Y.1
       replace y1:=Y.2.1
       have w0:=Z.1
       have w1':=Z.2.1
       clear hb2)
    | (go_at_call 155;refine (whole_w _).mono ?_;rintro _ w3 ⟨rfl,hb1⟩;replace X:=X.keep hb1;replace Y:=Y.keep hb1;replace R:=R.keep hb1;replace HB:=later HB hb1;clear hb1;obtain⟨d0,d1,d2,d3,d4⟩:=R))
   all_goals
     refine bodyPost_ret (v:=.agg #[.float .f64 (infI (-1)),.float .f64 (infI 1)]) (by simp [results,Tryz.results142,go_sem, *]) rfl ⟨rfl, ?_⟩
     repeat' (first | (with_reducible exact HB) | (with_reducible refine Below.setCell ?_ ?_ _) | go_size)
end Go.Proofs.YtgfppdboogldlaaGreat
