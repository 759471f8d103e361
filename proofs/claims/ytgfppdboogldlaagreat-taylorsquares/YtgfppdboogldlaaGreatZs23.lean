/- taylor: sums of products of coefficients. taylor: a product's coefficient; what an operation of sums and products asks. -/
import Derived.Test.YtgfppdboogldlaaGreatZs18
import Derived.Test.YtgfppdboogldlaaGreatZs22
import Derived.Test.YtgfppdboogldlaaGreatZs17
namespace Go.Proofs.YtgfppdboogldlaaGreat
open Go.ChangeShapes Go.WideShapes Go.ChangeAt Go.RowKit
set_option maxHeartbeats 1000000 in
theorem tprod1_w (n nb Ca Cb:Nat) (A B:Option Addr) (X Y:Nat→Nat×Nat) (i m:Nat) (kk:Int) (hk:kk-(i:Int)=(m:Int)) (_:(i:Int)≤kk) (k1:kk≤1000) (ha:i<n) (hb:m<nb) (p:Nat×Nat) (c1:∀w,Calls Tryz.prog 149 #[.agg #[.float .f64 (X i).1,.float .f64 (X i).2],.agg #[.float .f64 (Y m).1,.float .f64 (Y m).2]] w fun e w'=>e=.returned (.agg #[.float .f64 p.1,.float .f64 p.2])∧Below w.heap.size w w')
   (bw b1 b2 b3 b4:Nat) (w:World) (U:WithPl w bw) (B1:HasI w b1 (.pointer (some ⟨bw,0,none⟩))) (B2:HasI w b2 (.slice A n Ca)) (B3:HasI w b3 (.slice B nb Cb)) (B4:HasI w b4 (.int .i64 kk)) (Ua:Ivs w A n X) (Ub:Ivs w B nb Y) :
   Calls Tryz.prog 107 #[.int .i64 (i:Int),.pointer (some ⟨b1,0,none⟩),.pointer (some ⟨b2,0,none⟩),.pointer (some ⟨b3,0,none⟩),.pointer (some ⟨b4,0,none⟩)] w fun e w'=>e=.returned (.agg #[.float .f64 p.1,.float .f64 p.2])∧Below w.heap.size w w':=by
 have R:Has2 (w.alloc (.cells #[.float .f64 0,.float .f64 0] 43)) w.heap.size (.float .f64 0) (.float .f64 0):=has2_new _ _ _ _
 have HB:Below w.heap.size w (w.alloc (.cells #[.float .f64 0,.float .f64 0] 43)):=by go_grown
 have cm:=fun W=>pmul_w _ _ _ c1 W
 replace U:=U.keep HB
 replace B1:=B1.keep HB
 replace B2:=B2.keep HB
 replace B3:=B3.keep HB
 replace B4:=B4.keep HB
 obtain⟨xa,oa,rfl,la,ea0,ea1, -⟩:=(Ua.keep HB) i ha
 obtain⟨xb,ob,rfl,lb,eb0,eb1, -⟩:=(Ub.keep HB) m hb
 have lta:(i:Int)<(n:Int):=by omega
 have ltb:(m:Int)<(nb:Int):=by omega
 go_enter Tryz.func107,Tryz.ntmps107
 go_upto_region 1 with fail
 generalize (w.alloc (.cells #[.float .f64 0,.float .f64 0] 43))=V1 at *
 have ku:=fun n:Behind V1=>n.cell U.1 U.2
 have kb1:=fun n:Behind V1=>n.cell B1.1 B1.2
 have kb2:=fun n:Behind V1=>n.cell B2.1 B2.2
 have kb3:=fun n:Behind V1=>n.cell B3.1 B3.2
 have kb4:=fun n:Behind V1=>n.cell B4.1 B4.2
 have ka0:=fun n:Behind V1=>n.cell ea0 la
 have ka1:=fun n:Behind V1=>n.cell ea1 la
 have kc0:=fun n:Behind V1=>n.cell eb0 lb
 have kc1:=fun n:Behind V1=>n.cell eb1 lb
 clear c1 U B1 B2 B3 B4 ea0 ea1 eb0 eb1 Ua Ub
 refine tail_behind 17 (by kernel_rfl) (by kernel_rfl) ?_
 simp only [List.take_succ_cons,List.take_zero,List.drop_succ_cons,List.drop_zero]
 repeat (go_big_quiet_step (first | (go_at_call 136;with_reducible refine Behind.call (cm _))))
 refine wpQuiet_nil ?_
 rintro _ ⟨m',rfl⟩
 obtain⟨W,hb1⟩:=m'
 dsimp only
 skip
 replace R:=R.keep hb1;replace HB:=later HB hb1;clear hb1
 obtain⟨k0,k1,k2,k3,k4⟩:=id R
 go_wp2_with fail
 refine bodyPost_ret (v:=.agg #[.float .f64 p.1,.float .f64 p.2]) (by simp [results,Tryz.results107,go_sem, *]) rfl ⟨rfl, ?_⟩;repeat' (first | (with_reducible exact HB) | (with_reducible refine Below.setCell ?_ ?_ _) | go_size)
set_option maxHeartbeats 2000000 in
theorem tsum_w (S Pf:Nat→Nat×Nat) (last b b1 b2 b3 b4:Nat) (hl:last≤1000) (w:World) (U:WithPl w b)
   (c0:∀w,Calls Tryz.prog 98 #[.float .f64 (floatOfInt .f64 0)] w fun e w'=>e=.returned (.agg #[.float .f64 (S 0).1,.float .f64 (S 0).2])∧Below w.heap.size w w') (ca:∀i,i≤last→∀w,Calls Tryz.prog 141 #[.agg #[.float .f64 (S i).1,.float .f64 (S i).2],.agg #[.float .f64 (Pf i).1,.float .f64 (Pf i).2]] w fun e w'=>e=.returned (.agg #[.float .f64 (S (i+1)).1,.float .f64 (S (i+1)).2])∧Below w.heap.size w w')
   (cf:∀i,i≤last→∀W,Below w.heap.size w W→Calls Tryz.prog 107 #[.int .i64 (i:Int),.pointer (some ⟨b1,0,none⟩),.pointer (some ⟨b2,0,none⟩),.pointer (some ⟨b3,0,none⟩),.pointer (some ⟨b4,0,none⟩)] W fun e w'=>e=.returned (.agg #[.float .f64 (Pf i).1,.float .f64 (Pf i).2])∧Below W.heap.size W w') :
   Calls Tryz.prog 106 #[.pointer (some ⟨b,0,none⟩),.int .i64 0,.int .i64 (last:Int),.func (.func 107) #[] #[.pointer (some ⟨b1,0,none⟩),.pointer (some ⟨b2,0,none⟩),.pointer (some ⟨b3,0,none⟩),.pointer (some ⟨b4,0,none⟩)]] w fun e w'=>e=.returned (.agg #[.float .f64 (S (last+1)).1,.float .f64 (S (last+1)).2])∧Below w.heap.size w w':=by
 have R:Has2 (w.alloc (.cells #[.float .f64 0,.float .f64 0] 43)) w.heap.size (.float .f64 0) (.float .f64 0):=has2_new _ _ _ _
 have HB:Below w.heap.size w (w.alloc (.cells #[.float .f64 0,.float .f64 0] 43)):=by go_grown
 have cw:=fun W (u:WithPl W b)=>twhole_w 0 (S 0) c0 b W u
 have hbw:=U.2
 replace U:=U.keep HB
 clear c0
 go_enter Tryz.func106,Tryz.ntmps106
 go_upto_region 1 with fail
 generalize (w.alloc (.cells #[.float .f64 0,.float .f64 0] 43))=V0 at *
 go_upto_region 2 with (first | (go_at_call 79;(with_reducible refine (cw _ U).mono ?_);rintro _ W1 ⟨rfl,hb1⟩;replace U:=U.keep hb1;replace R:=R.keep hb1;replace HB:=later HB hb1;clear hb1))
 have xl:w.heap.size<W1.heap.size:=R.2.2.2.2
 have X:Has2 (W1.alloc (.cells #[.float .f64 (S 0).1,.float .f64 (S 0).2] 43)) W1.heap.size (.float .f64 (S 0).1) (.float .f64 (S 0).2):=has2_new _ _ _ _
 have hb1:Below W1.heap.size W1 (W1.alloc (.cells #[.float .f64 (S 0).1,.float .f64 (S 0).2] 43)):=Below.alloc (Below.refl _ _) (Nat.le_refl _) _
 replace U:=U.keep hb1
 replace R:=R.keep hb1
 replace HB:=later HB hb1
 clear hb1 cw
 generalize (W1.alloc (.cells #[.float .f64 (S 0).1,.float .f64 (S 0).2] 43))=V2 at *
 generalize W1.heap.size=xb at *
 go_wp2_with fail
 go_loopg [10] (last+1) (fun G s10 wx=>Below w.heap.size w wx∧WithPl wx b∧∃k:Nat,k+G=last+1∧s10=.int .i64 (k:Int)∧Has2 wx xb (.float .f64 (S k).1) (.float .f64 (S k).2)∧Has2 wx w.heap.size (.float .f64 0) (.float .f64 0))
 case atStart=>exact⟨HB,U,0,by omega,rfl,X,R⟩
 case round =>
   clear X R HB U
   obtain⟨HB,U,k,hk,rfl,X,R⟩:=hrel
   by_cases ck:k≤last
   · have lk:(k:Int)≤(last:Int):=by omega
     have ca':=fun W=>padd_w _ _ _ (ca k ck) W
     have cf':=fun n:Behind wr=>cf k ck n.W (later HB n.bel)
     clear ca cf
     go_upto_region 5 with fail
     have ku:=fun n:Behind wr=>n.cell U.1 U.2
     have kx0:=fun n:Behind wr=>n.cell X.1 X.2.2.2.2
     have kx1:=fun n:Behind wr=>n.cell X.2.1 X.2.2.2.2
     refine tail_behind 11 (by kernel_rfl) (by kernel_rfl) ?_
     simp only [List.take_succ_cons,List.take_zero,List.drop_succ_cons,List.drop_zero]
     repeat (go_big_quiet_step (first | (go_at_call 107;with_reducible refine Behind.call (cf' _)) | (go_at_call 132;with_reducible refine Behind.call (ca' _))))
     refine wpQuiet_nil ?_
     rintro _ ⟨m',rfl⟩
     obtain⟨W,hb1⟩:=m'
     dsimp only
     clear ku kx0 kx1
     replace U:=U.keep hb1
     replace X:=X.keep hb1;replace R:=R.keep hb1;replace HB:=later HB hb1;clear hb1
     obtain⟨x0,x1,x2,x3,x4⟩:=id X
     go_wp2_with fail
     obtain⟨g,rfl⟩:∃g,gk=g+1:=⟨gk-1,by omega⟩
     go_roundg g
     case measure=>omega
     case rel =>
       refine⟨?_,(U.far (by omega) _).far (by omega) _,k+1,by omega,by go_num,X.put _ _,R.far (by omega) _ _⟩
       repeat' (first | (with_reducible exact HB) | (with_reducible refine Below.setCell ?_ ?_ _) | go_size)
   · have lk:¬(k:Int)≤(last:Int):=by omega
     obtain rfl:k=last+1:=by omega
     obtain⟨x0,x1,x2,x3,x4⟩:=id X
     obtain⟨r0,r1,r2,r3,r4⟩:=id R
     go_wp2_with fail
     refine bodyPost_ret (v:=.agg #[.float .f64 (S (last+1)).1,.float .f64 (S (last+1)).2]) (by simp [results,Tryz.results106,go_sem, *]) rfl ⟨rfl, ?_⟩
     repeat' (first | (with_reducible exact HB) | (with_reducible refine Below.setCell ?_ ?_ _) | go_size)
theorem hasI_new (w:World) (x:Value) (T:TypeId):HasI (w.alloc (.cells #[x] T)) w.heap.size x:=⟨by go_simp,by go_size⟩
set_option maxHeartbeats 2000000 in
theorem tproduct_w (n nb Ca Cb:Nat) (A B:Option Addr) (X Y S Pf:Nat→Nat×Nat) (k b:Nat) (hk:k≤1000) (ha:k<n) (hb:k<nb) (w:World) (U:WithPl w b) (Ua:Ivs w A n X) (Ub:Ivs w B nb Y)
   (c0:∀w,Calls Tryz.prog 98 #[.float .f64 (floatOfInt .f64 0)] w fun e w'=>e=.returned (.agg #[.float .f64 (S 0).1,.float .f64 (S 0).2])∧Below w.heap.size w w') (ca:∀i,i≤k→∀w,Calls Tryz.prog 141 #[.agg #[.float .f64 (S i).1,.float .f64 (S i).2],.agg #[.float .f64 (Pf i).1,.float .f64 (Pf i).2]] w fun e w'=>e=.returned (.agg #[.float .f64 (S (i+1)).1,.float .f64 (S (i+1)).2])∧Below w.heap.size w w') (cm:∀i,i≤k→∀w,Calls Tryz.prog 149 #[.agg #[.float .f64 (X i).1,.float .f64 (X i).2],.agg #[.float .f64 (Y (k-i)).1,.float .f64 (Y (k-i)).2]] w fun e w'=>e=.returned (.agg #[.float .f64 (Pf i).1,.float .f64 (Pf i).2])∧Below w.heap.size w w') :
   Calls Tryz.prog 89 #[.pointer (some ⟨b,0,none⟩),.int .i64 (k:Int),.slice A n Ca,.slice B nb Cb] w fun e w'=>e=.returned (.agg #[.float .f64 (S (k+1)).1,.float .f64 (S (k+1)).2])∧Below w.heap.size w w':=by
 have hmf:∀(fn:Fn) (first cap:Array Value) (w:World),(Instr.makeFunc fn first cap).run Tryz.prog w=.ok (.func fn first cap) w:=fun _ _ _ _=>rfl
 obtain⟨v1,hv1⟩:∃v1,v1=w.alloc (.cells #[.pointer (some ⟨b,0,none⟩)] 81):=⟨_,rfl⟩
 obtain⟨v2,hv2⟩:∃v2,v2=v1.alloc (.cells #[.int .i64 (k:Int)] 3):=⟨_,rfl⟩
 obtain⟨v3,hv3⟩:∃v3,v3=v2.alloc (.cells #[.slice A n Ca] 26):=⟨_,rfl⟩
 obtain⟨v4,hv4⟩:∃v4,v4=v3.alloc (.cells #[.slice B nb Cb] 26):=⟨_,rfl⟩
 obtain⟨v5,hv5⟩:∃v5,v5=v4.alloc (.cells #[.float .f64 0,.float .f64 0] 43):=⟨_,rfl⟩
 have K1:Below w.heap.size w v1:=by rw [hv1];exact Below.alloc (Below.refl _ _) (Nat.le_refl _) _
 have K2:Below v1.heap.size v1 v2:=by rw [hv2];exact Below.alloc (Below.refl _ _) (Nat.le_refl _) _
 have K3:Below v2.heap.size v2 v3:=by rw [hv3];exact Below.alloc (Below.refl _ _) (Nat.le_refl _) _
 have K4:Below v3.heap.size v3 v4:=by rw [hv4];exact Below.alloc (Below.refl _ _) (Nat.le_refl _) _
 have K5:Below v4.heap.size v4 v5:=by rw [hv5];exact Below.alloc (Below.refl _ _) (Nat.le_refl _) _
 have z1:v1.heap.size=w.heap.size+1:=by rw [hv1];simp
 have z2:v2.heap.size=w.heap.size+2:=by rw [hv2];simp;omega
 have z3:v3.heap.size=w.heap.size+3:=by rw [hv3];simp;omega
 have z4:v4.heap.size=w.heap.size+4:=by rw [hv4];simp;omega
 have B1:HasI v5 w.heap.size (.pointer (some ⟨b,0,none⟩)):=by
   have h:HasI v1 w.heap.size (.pointer (some ⟨b,0,none⟩)):=by rw [hv1];exact hasI_new _ _ _
   exact (((h.keep K2).keep K3).keep K4).keep K5
 have B4:HasI v5 (w.heap.size+1) (.int .i64 (k:Int)):=by
   have h:HasI v2 v1.heap.size (.int .i64 (k:Int)):=by rw [hv2];exact hasI_new _ _ _
   rw [z1] at h
   exact ((h.keep K3).keep K4).keep K5
 have B2:HasI v5 (w.heap.size+2) (.slice A n Ca):=by
   have h:HasI v3 v2.heap.size (.slice A n Ca):=by rw [hv3];exact hasI_new _ _ _
   rw [z2] at h
   exact (h.keep K4).keep K5
 have B3:HasI v5 (w.heap.size+3) (.slice B nb Cb):=by
   have h:HasI v4 v3.heap.size (.slice B nb Cb):=by rw [hv4];exact hasI_new _ _ _
   rw [z3] at h
   exact h.keep K5
 have R:Has2 v5 (w.heap.size+4) (.float .f64 0) (.float .f64 0):=by
   have h:Has2 v5 v4.heap.size (.float .f64 0) (.float .f64 0):=by rw [hv5];exact has2_new _ _ _ _
   rw [z4] at h
   exact h
 have HB:Below w.heap.size w v5:=later (later (later (later K1 K2) K3) K4) K5
 replace U:=U.keep HB
 replace Ua:=Ua.keep HB
 replace Ub:=Ub.keep HB
 have cs:=tsum_w S Pf k b w.heap.size (w.heap.size+2) (w.heap.size+3) (w.heap.size+1) hk v5 U c0 ca (fun i hi W hW =>
   tprod1_w n nb Ca Cb A B X Y i (k-i) (k:Int) (by omega) (by omega) (by omega) (by omega) (by omega) (Pf i) (cm i hi) b w.heap.size (w.heap.size+2) (w.heap.size+3) (w.heap.size+1) W (U.keep hW) (B1.keep hW) (B2.keep hW) (B3.keep hW) (B4.keep hW) (Ua.keep hW) (Ub.keep hW))
 clear K1 K2 K3 K4 K5 z1 z2 z3 z4 c0 ca cm Ua Ub U B2 B3
 obtain⟨e1, -⟩:=B1
 obtain⟨e4, -⟩:=B4
 go_enter Tryz.func89,Tryz.ntmps89
 go_upto_region 1 with fail
 rw [←hv1,←hv2,←hv3,←hv4,←hv5]
 clear hv1 hv2 hv3 hv4 hv5
 go_wp2_with (go_at_call 106;(with_reducible refine cs.mono ?_);rintro _ VV ⟨rfl,hb1⟩;replace R:=R.keep hb1;replace HB:=later HB hb1;clear hb1;obtain⟨r0,r1,r2,r3,r4⟩:=id R)
 refine bodyPost_ret (v:=.agg #[.float .f64 (S (k+1)).1,.float .f64 (S (k+1)).2]) (by simp [results,Tryz.results89,go_sem, *]) rfl ⟨rfl, ?_⟩;repeat' (first | (with_reducible exact HB) | (with_reducible refine Below.setCell ?_ ?_ _) | go_size)
end Go.Proofs.YtgfppdboogldlaaGreat
