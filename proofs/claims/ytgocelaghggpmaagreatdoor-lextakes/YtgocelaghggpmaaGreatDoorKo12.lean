/- The program's number of digits and a power of ten (rat.decimal). -/
import Derived.Test.YtgocelaghggpmaaGreatDoorKo11
namespace Go.Proofs.YtgocelaghggpmaaGreatDoor
open Go.ChangeShapes Go.WideShapes Go.ChangeAt Go.RowKit
theorem ButB.put {b c:Nat} {w w':World} (h:ButB b w w') (hc:w.heap.size≤c) (o:Nat) (v:Value):ButB b w (w'.setCell ⟨c,o,none⟩ v):=by
 have k:=(Below.refl c w').setCell (p:=⟨c,o,none⟩) (Nat.le_refl _) v
 refine⟨k.os.trans h.os,k.tape.trans h.tape,k.output.trans h.output,by simp only [World.size_setCell];exact h.size,fun i hi hne=>?_⟩
 rw [←h.block i hi hne]
 exact Below.heap_setCell _ _ _ _ (show i≠c by omega)
def PInt (m:Nat) (e:Ending):Prop:=(m<9223372036854775808∧e=.returned (.tuple #[.int .i64 (m:Int),.nilIface]))∨(9223372036854775808≤m∧∃(z:Int) (T:TypeId) (p:Option Addr),e=.returned (.tuple #[.int .i64 z,.iface T (.pointer p)]))
set_option maxHeartbeats 4000000 in
theorem decimal_w (bl N cap:Nat) (E:Int) (f:Nat→Nat) (hk:E≤100000) (hk0:-100000≤E) (hN:N≤1000) (w:World) (B:Byts w bl (N+1) f) (D:DgN f (N+1))
   (cp:∀W g,ButB bl w W→DgN g (N+1)→Calls Tryz.prog 76 #[.string ⟨(textN g (N+1)).toArray⟩,.int .i64 10,.int .i64 64] W fun e w'=>PInt (vlN g (N+1)) e∧Below W.heap.size W w') :
   Calls Tryz.prog 62 #[.slice (some ⟨bl,0,none⟩) (N+1) cap,.int .i64 E] w fun r w'=>r=.returned (.tuple #[.agg #[.int .i64 (decV (vlN f (N+1)) E).1,.int .i64 (decV (vlN f (N+1)) E).2.1],.int .i64 (decV (vlN f (N+1)) E).2.2])∧ButB bl w w':=by
 have cd2:∀(W:World) (g:Nat→Nat),Byts W bl (N+1) g→DgN g (N+1)→Calls Tryz.prog 75 #[.slice (some ⟨bl,0,none⟩) (N+1) cap,.int .u8 2,.int .i64 (-E)] W fun r w'=>∃(m:Int) (h:Nat→Nat),r=.returned (.int .i64 m)∧ButB bl W w'∧Byts w' bl (N+1) h∧OutN g h 2 (N+1) (-E) m∧(m≤0∨vlN h (N+1)%2≠0):=fun W g G D=>divideOut_w bl N cap 2 (-E) g (Or.inl rfl) (by omega) (by omega) hN W G D
 have cd5:∀(W:World) (g:Nat→Nat),Byts W bl (N+1) g→DgN g (N+1)→Calls Tryz.prog 75 #[.slice (some ⟨bl,0,none⟩) (N+1) cap,.int .u8 5,.int .i64 (-E)] W fun r w'=>∃(m:Int) (h:Nat→Nat),r=.returned (.int .i64 m)∧ButB bl W w'∧Byts w' bl (N+1) h∧OutN g h 5 (N+1) (-E) m∧(m≤0∨vlN h (N+1)%5≠0):=fun W g G D=>divideOut_w bl N cap 5 (-E) g (Or.inr rfl) (by omega) (by omega) hN W G D
 have HB0:Below w.heap.size w (w.alloc (.cells #[.int .i64 0,.int .i64 0] 33)):=by go_grown
 have X0:Has2 (w.alloc (.cells #[.int .i64 0,.int .i64 0] 33)) w.heap.size (.int .i64 0) (.int .i64 0):=⟨by go_simp,by go_simp,by go_simp,by go_simp,by go_size⟩
 have hne:w.heap.size≠bl:=by have:=B.lt;omega
 obtain⟨G,hG⟩:∃G,Hid (decV (vlN f (N+1)) E=G):=⟨_,rfl⟩
 rw [hG.out]
 go_enter Tryz.func62,Tryz.ntmps62
 have B0:=B.keep HB0
 have K0:ButB bl w _:=(ButB.refl bl w).later HB0
 go_wp2_with fail
 generalize w.alloc (.cells #[.int .i64 0,.int .i64 0] 33)=W0 at *
 (with_reducible refine (cd2 W0 f B0 D).mono ?_)
 rintro _ W1 ⟨t,g,rfl,k1,B1,O2,c2⟩
 have X1:=k1.has2 X0 hne
 have K1:=K0.trans k1
 have t1:=O2.le
 have t2:=O2.lo
 have HO2:Hid _:=O2
 have HC2:Hid _:=c2
 clear k1 X0 K0 B0 HB0 c2 O2
 go_wp2_with fail
 (with_reducible refine (cd5 W1 g B1 HO2.out.dg).mono ?_)
 rintro _ W2 ⟨u,h,rfl,k1,B2,O5,c5⟩
 have X2:=k1.has2 X1 hne
 have K2:=K1.trans k1
 have u1:=O5.le
 have u2:=O5.lo
 have HD:Hid (leftV (vlN h (N+1)) E t u=G):=(dec_is HO2.out O5 HC2.out c5).trans hG.out
 have DH:=O5.dg
 clear k1 X1 K1 B1 HO2 HC2 O5 c5 cd2 cd5 hG
 have hcv:=conv_text (cap:=cap) B2 DH
 have hcp:=cp W2 h K2 DH
 clear cp
 generalize vlN h (N+1)=m at *
 generalize (textN h (N+1)).toArray=S at *
 go_wp2_with fail
 (with_reducible refine hcp.mono ?_)
 rintro _ W3 ⟨hP,hb⟩
 have X3:=X2.keep hb
 have K3:=K2.later hb
 clear X2 K2 hb hcp hcv B2
 rcases hP with ⟨hm,rfl⟩ | ⟨hm,z,T,p,rfl⟩
 · obtain⟨nh,nl,S1⟩:=sg_ex ((grN 10 E.toNat m:Nat):Int)
   obtain⟨th,tl,S2⟩:=sg_ex ((grN 2 t.toNat 1:Nat):Int)
   obtain⟨dh,dl,S3⟩:=sg_ex ((grN 5 u.toNat (grN 2 t.toNat 1):Nat):Int)
   have l2:=grN_lt (f:=2) (by omega) t.toNat 1 (by decide)
   have e:mdV false nh nl dh dl=G:=by
     rw [mdV_is S1 S3 (grN_lt (by omega) _ _ (by omega)) (grN_lt (by omega) _ _ l2),left_grown hm]
     exact HD.out
   have c1:∀W,Calls Tryz.prog 79 #[.int .i64 (m:Int)] W fun r w'=>r=.returned (.int .u64 (m:Int))∧W=w':=fun W=>ramount_w (m:Int) (by omega) (by omega) W
   have c2:∀W,Calls Tryz.prog 78 #[.agg #[.int .u64 0,.int .u64 (m:Int)],.int .u64 10,.int .i64 E] W fun r w'=>r=.returned (.agg #[.int .u64 (nh:Int),.int .u64 (nl:Int)])∧Below W.heap.size W w':=fun W=>grown_w 0 m 10 m nh nl E (by omega) (by decide) (by omega) ⟨by decide,by omega,by omega⟩ S1 W
   have c3:∀W,Calls Tryz.prog 78 #[.agg #[.int .u64 0,.int .u64 1],.int .u64 2,.int .i64 t] W fun r w'=>r=.returned (.agg #[.int .u64 (th:Int),.int .u64 (tl:Int)])∧Below W.heap.size W w':=fun W=>grown_w 0 1 2 1 th tl t (by omega) (by decide) (by decide) ⟨by decide,by decide,by decide⟩ S2 W
   have c4:∀W,Calls Tryz.prog 78 #[.agg #[.int .u64 (th:Int),.int .u64 (tl:Int)],.int .u64 5,.int .i64 u] W fun r w'=>r=.returned (.agg #[.int .u64 (dh:Int),.int .u64 (dl:Int)])∧Below W.heap.size W w':=fun W=>grown_w th tl 5 (grN 2 t.toNat 1) dh dl u (by omega) (by decide) l2 S2 S3 W
   have c5:=fun W=>made_w false nh nl dh dl W
   rw [e] at c5
   obtain⟨g1,g2,g3⟩:=G
   clear S1 S2 S3 l2 e HD hm
   obtain⟨x0,x1,x2,x3,x4⟩:=id X3
   go_wp2_with (first
     | (go_at_call 79;(with_reducible refine (c1 _).mono ?_);rintro _ W4 ⟨rfl,rfl⟩)
     | (go_at_call 77;(with_reducible refine (c5 _).mono ?_);rintro _ W7 ⟨rfl,hb1⟩;replace X3:=X3.keep hb1;replace K3:=K3.later hb1;clear hb1 x0 x1 x2 x3 x4;obtain⟨x0,x1,x2,x3,x4⟩:=id X3)
     | (go_at_call 78;(with_reducible refine (c2 _).mono ?_);rintro _ W5 ⟨rfl,hb1⟩;replace X3:=X3.keep hb1;replace K3:=K3.later hb1;clear hb1 x0 x1 x2 x3 x4;obtain⟨x0,x1,x2,x3,x4⟩:=id X3)
     | (go_at_call 78;(with_reducible refine (c3 _).mono ?_);rintro _ W5 ⟨rfl,hb1⟩;replace X3:=X3.keep hb1;replace K3:=K3.later hb1;clear hb1 x0 x1 x2 x3 x4;obtain⟨x0,x1,x2,x3,x4⟩:=id X3)
     | (go_at_call 78;(with_reducible refine (c4 _).mono ?_);rintro _ W5 ⟨rfl,hb1⟩;replace X3:=X3.keep hb1;replace K3:=K3.later hb1;clear hb1 x0 x1 x2 x3 x4;obtain⟨x0,x1,x2,x3,x4⟩:=id X3))
   refine bodyPost_ret (v:=.tuple #[.agg #[.int .i64 g1,.int .i64 g2],.int .i64 g3]) (by simp [results,Tryz.results62,go_sem, *]) rfl ⟨rfl, ?_⟩
   repeat' (first | (with_reducible exact K3) | (with_reducible refine ButB.put ?_ (by go_size) _ _))
 · have e:=HD.out
   rw [left_over hm] at e
   subst e
   obtain⟨x0,x1,x2,x3,x4⟩:=id X3
   go_wp2_with fail
   refine bodyPost_ret (v:=.tuple #[.agg #[.int .i64 0,.int .i64 0],.int .i64 3]) (by simp [results,Tryz.results62,go_sem, *]) rfl ⟨rfl, ?_⟩
   repeat' (first | (with_reducible exact K3) | (with_reducible refine ButB.put ?_ (by go_size) _ _))
end Go.Proofs.YtgocelaghggpmaaGreatDoor
