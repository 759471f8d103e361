/- Which dimensions may be (unit.Right, and the document's). -/
import Derived.Test.YtbejmklkicoibaaKe09
namespace Go.Proofs.Ytbejmklkicoibaa
open Go.ChangeShapes Go.WideShapes Go.ChangeAt Go.RowKit
set_option maxHeartbeats 1000000 in
theorem uright_w (E:Nat->Int×Int) (hE:Dim64 E) (w:World) :
   Calls Try.prog 10 #[dimV E] w fun r w'=>r=.returned (.bool (drK E 7))/\Below w.heap.size w w':=by
 unfold dimV
 have X:HasDm (w.alloc (.cells #[.int .i64 (E 0).1,.int .i64 (E 0).2,.int .i64 (E 1).1,.int .i64 (E 1).2,.int .i64 (E 2).1,.int .i64 (E 2).2,.int .i64 (E 3).1,.int .i64 (E 3).2,.int .i64 (E 4).1,.int .i64 (E 4).2,.int .i64 (E 5).1,.int .i64 (E 5).2,.int .i64 (E 6).1,.int .i64 (E 6).2] 30)) w.heap.size E:=dim_new w E 30
 have HB:Below w.heap.size w (w.alloc (.cells #[.int .i64 (E 0).1,.int .i64 (E 0).2,.int .i64 (E 1).1,.int .i64 (E 1).2,.int .i64 (E 2).1,.int .i64 (E 2).2,.int .i64 (E 3).1,.int .i64 (E 3).2,.int .i64 (E 4).1,.int .i64 (E 4).2,.int .i64 (E 5).1,.int .i64 (E 5).2,.int .i64 (E 6).1,.int .i64 (E 6).2] 30)):=by go_grown
 obtain⟨x0,x1,x2,x3,x4,x5,x6,x7,x8,x9,x10,x11,x12,x13⟩:=X.cells
 have hi:∀k:Nat,k<7->∀W:World,(Instr.index 28 (.agg #[.int .i64 (E 0).1,.int .i64 (E 0).2,.int .i64 (E 1).1,.int .i64 (E 1).2,.int .i64 (E 2).1,.int .i64 (E 2).2,.int .i64 (E 3).1,.int .i64 (E 3).2,.int .i64 (E 4).1,.int .i64 (E 4).2,.int .i64 (E 5).1,.int .i64 (E 5).2,.int .i64 (E 6).1,.int .i64 (E 6).2]) (.int .i64 (k:Int))).run Try.prog W=.ok (.agg #[.int .i64 (E k).1,.int .i64 (E k).2]) W:=fun k hk W=>run_index_dim E k hk W
 obtain⟨R,hR⟩:∃R,Hid (drK E 7=R):=⟨_,rfl⟩
 rw [hR.out]
 go_enter Try.func10,Try.ntmps10
 go_upto_region 2 with fail
 generalize (w.alloc (.cells #[.int .i64 (E 0).1,.int .i64 (E 0).2,.int .i64 (E 1).1,.int .i64 (E 1).2,.int .i64 (E 2).1,.int .i64 (E 2).2,.int .i64 (E 3).1,.int .i64 (E 3).2,.int .i64 (E 4).1,.int .i64 (E 4).2,.int .i64 (E 5).1,.int .i64 (E 5).2,.int .i64 (E 6).1,.int .i64 (E 6).2] 30))=V1 at *
 clear x0 x1 x2 x3 x4 x5 x6 x7 x8 x9 x10 x11 x12 x13
 go_loopg [7] (7:Nat) (fun G s wx=>∃k:Nat,s=.int .i64 (k:Int)/\k<=7/\7<=k+G/\Below w.heap.size w wx/\HasDm wx w.heap.size E/\Hid (drK E k=true))
 case atStart=>exact⟨0,rfl,by omega,by omega,HB,X,rfl⟩
 case round =>
   clear X HB
   obtain⟨k,rfl,hk,hG,HB,X,HI⟩:=hrel
   by_cases c:k=7
   · subst c
     have e:Hid (true=R):=HI.out.symm.trans hR.out
     clear hR HI
     go_wp2_with fail
     go_ret
     exact⟨by have q:=e.out;subst q;rfl,HB⟩
   · have kl:(k:Int)<7:=by omega
     have kp:0<=(k:Int):=by omega
     have kn:k<7:=by omega
     have cr:=fun W=>rright_w11 (E k).1 (E k).2 (hE k kn).1 (hE k kn).2 W
     cases cb:rightR (E k).1 (E k).2
     · have e:Hid (false=R):=(drK_no cb 7 kn).symm.trans hR.out
       rw [cb] at cr
       clear cb hR HI
       have hik:=hi k kn
       go_wp2_with (first | (go_at_call 28;with_reducible refine (cr _).mono ?_;rintro _ VV ⟨rfl,hb1⟩))
       go_ret
       refine⟨by have q:=e.out;subst q;rfl, ?_⟩
       exact (by have:=HB.size;exact later (by repeat' (first | (with_reducible exact HB) | (with_reducible refine Below.setCell ?_ ?_ _) | (with_reducible refine Below.alloc ?_ ?_ _) | go_size)) hb1)
     · have HN:Hid (drK E (k+1)=true):=by unfold drK;rw [HI.out,cb];rfl
       rw [cb] at cr
       clear cb HI
       have hik:=hi k kn
       go_wp2_with (first | (go_at_call 28;with_reducible refine (cr _).mono ?_;rintro _ VV ⟨rfl,hb1⟩))
       (go_roundg (gk-1)
        case measure=>omega
        case rel=>exact⟨k+1,congrArg (Value.int .i64) (show (k:Int)+1=((k+1:Nat):Int) by omega),by omega,by omega,(by have:=HB.size;exact later (by repeat' (first | (with_reducible exact HB) | (with_reducible refine Below.setCell ?_ ?_ _) | (with_reducible refine Below.alloc ?_ ?_ _) | go_size)) hb1),(X.keep (later (by repeat' (first | (with_reducible exact Below.refl _ _) | (with_reducible refine Below.setCell ?_ ?_ _) | (with_reducible refine Below.alloc ?_ ?_ _) | go_size)) hb1)),HN⟩)
set_option maxHeartbeats 1000000 in
theorem dright_w (E:Nat->Int×Int) (hE:Dim64 E) (w:World) :
   Calls Try.prog 22 #[dimV E] w fun r w'=>r=.returned (.bool (drK E 7))/\Below w.heap.size w w':=by
 unfold dimV
 have X:HasDm (w.alloc (.cells #[.int .i64 (E 0).1,.int .i64 (E 0).2,.int .i64 (E 1).1,.int .i64 (E 1).2,.int .i64 (E 2).1,.int .i64 (E 2).2,.int .i64 (E 3).1,.int .i64 (E 3).2,.int .i64 (E 4).1,.int .i64 (E 4).2,.int .i64 (E 5).1,.int .i64 (E 5).2,.int .i64 (E 6).1,.int .i64 (E 6).2] 30)) w.heap.size E:=dim_new w E 30
 have HB:Below w.heap.size w (w.alloc (.cells #[.int .i64 (E 0).1,.int .i64 (E 0).2,.int .i64 (E 1).1,.int .i64 (E 1).2,.int .i64 (E 2).1,.int .i64 (E 2).2,.int .i64 (E 3).1,.int .i64 (E 3).2,.int .i64 (E 4).1,.int .i64 (E 4).2,.int .i64 (E 5).1,.int .i64 (E 5).2,.int .i64 (E 6).1,.int .i64 (E 6).2] 30)):=by go_grown
 obtain⟨x0,x1,x2,x3,x4,x5,x6,x7,x8,x9,x10,x11,x12,x13⟩:=X.cells
 obtain⟨R,hR⟩:∃R,Hid (drK E 7=R):=⟨_,rfl⟩
 rw [hR.out]
 go_enter Try.func22,Try.ntmps22
 go_upto_region 2 with fail
 generalize (w.alloc (.cells #[.int .i64 (E 0).1,.int .i64 (E 0).2,.int .i64 (E 1).1,.int .i64 (E 1).2,.int .i64 (E 2).1,.int .i64 (E 2).2,.int .i64 (E 3).1,.int .i64 (E 3).2,.int .i64 (E 4).1,.int .i64 (E 4).2,.int .i64 (E 5).1,.int .i64 (E 5).2,.int .i64 (E 6).1,.int .i64 (E 6).2] 30))=V1 at *
 clear x0 x1 x2 x3 x4 x5 x6 x7 x8 x9 x10 x11 x12 x13
 go_loopg [3] (7:Nat) (fun G s wx=>∃k:Nat,s=.int .i64 (k:Int)/\k<=7/\7<=k+G/\Below w.heap.size w wx/\HasDm wx w.heap.size E/\Hid (drK E k=true))
 case atStart=>exact⟨0,rfl,by omega,by omega,HB,X,rfl⟩
 case round =>
   clear X HB
   obtain⟨k,rfl,hk,hG,HB,X,HI⟩:=hrel
   by_cases c:k=7
   · subst c
     have e:Hid (true=R):=HI.out.symm.trans hR.out
     clear hR HI
     go_wp2_with fail
     go_ret
     exact⟨by have q:=e.out;subst q;rfl,HB⟩
   · have kl:(k:Int)<7:=by omega
     have kp:0<=(k:Int):=by omega
     have kn:k<7:=by omega
     have cr:=fun W=>right11_w (E k).1 (E k).2 (hE k kn).1 (hE k kn).2 W
     cases cb:rightR (E k).1 (E k).2
     · have e:Hid (false=R):=(drK_no cb 7 kn).symm.trans hR.out
       rw [cb] at cr
       clear cb hR HI
       have g0:=X.c0 k kn
       have g1:=X.c1 k kn
       go_wp2_with (first | (go_at_call 42;with_reducible refine (cr _).mono ?_;rintro _ VV ⟨rfl,hb1⟩))
       go_ret
       refine⟨by have q:=e.out;subst q;rfl, ?_⟩
       exact later HB hb1
     · have HN:Hid (drK E (k+1)=true):=by unfold drK;rw [HI.out,cb];rfl
       rw [cb] at cr
       clear cb HI
       have g0:=X.c0 k kn
       have g1:=X.c1 k kn
       go_wp2_with (first | (go_at_call 42;with_reducible refine (cr _).mono ?_;rintro _ VV ⟨rfl,hb1⟩))
       (go_roundg (gk-1)
        case measure=>omega
        case rel=>exact⟨k+1,congrArg (Value.int .i64) (show (k:Int)+1=((k+1:Nat):Int) by omega),by omega,by omega,later HB hb1,X.keep hb1,HN⟩)
end Go.Proofs.Ytbejmklkicoibaa
