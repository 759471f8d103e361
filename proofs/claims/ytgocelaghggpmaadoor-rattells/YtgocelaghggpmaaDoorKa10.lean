/- The program's number of digits and a power of ten (rat.decimal). The program's reading of a fraction (rat.readFraction). -/
import Derived.Test.YtgocelaghggpmaaDoorKa09
import Derived.Test.YtgocelaghggpmaaDoorKa07
namespace Go.Proofs.YtgocelaghggpmaaDoor
open Go.ChangeShapes Go.WideShapes Go.ChangeAt Go.RowKit
theorem ButB.put {b c:Nat} {w w':World} (h:ButB b w w') (hc:w.heap.size≤c) (o:Nat) (v:Value):ButB b w (w'.setCell ⟨c,o,none⟩ v):=by
 have k:=(Below.refl c w').setCell (p:=⟨c,o,none⟩) (Nat.le_refl _) v
 refine⟨k.os.trans h.os,k.tape.trans h.tape,k.output.trans h.output,by simp only [World.size_setCell];exact h.size,fun i hi hne=>?_⟩
 rw [←h.block i hi hne]
 exact Below.heap_setCell _ _ _ _ (show i≠c by omega)
def PInt (m:Nat) (e:Ending):Prop:=(m<9223372036854775808∧e=.returned (.tuple #[.int .i64 (m:Int),.nilIface]))∨(9223372036854775808≤m∧∃(z:Int) (T:TypeId) (p:Option Addr),e=.returned (.tuple #[.int .i64 z,.iface T (.pointer p)]))
set_option maxHeartbeats 4000000 in
theorem decimal_w (bl N cap:Nat) (E:Int) (f:Nat→Nat) (hk:E≤100000) (hk0:-100000≤E) (hN:N≤1000) (w:World) (B:Byts w bl (N+1) f) (D:DgN f (N+1))
   (cp:∀W g,ButB bl w W→DgN g (N+1)→Calls Tryd.prog 49 #[.string ⟨(textN g (N+1)).toArray⟩,.int .i64 10,.int .i64 64] W fun e w'=>PInt (vlN g (N+1)) e∧Below W.heap.size W w') :
   Calls Tryd.prog 22 #[.slice (some ⟨bl,0,none⟩) (N+1) cap,.int .i64 E] w fun r w'=>r=.returned (.tuple #[.agg #[.int .i64 (decV (vlN f (N+1)) E).1,.int .i64 (decV (vlN f (N+1)) E).2.1],.int .i64 (decV (vlN f (N+1)) E).2.2])∧ButB bl w w':=by
 have cd2:∀(W:World) (g:Nat→Nat),Byts W bl (N+1) g→DgN g (N+1)→Calls Tryd.prog 48 #[.slice (some ⟨bl,0,none⟩) (N+1) cap,.int .u8 2,.int .i64 (-E)] W fun r w'=>∃(m:Int) (h:Nat→Nat),r=.returned (.int .i64 m)∧ButB bl W w'∧Byts w' bl (N+1) h∧OutN g h 2 (N+1) (-E) m∧(m≤0∨vlN h (N+1)%2≠0):=fun W g G D=>divideOut_w bl N cap 2 (-E) g (Or.inl rfl) (by omega) (by omega) hN W G D
 have cd5:∀(W:World) (g:Nat→Nat),Byts W bl (N+1) g→DgN g (N+1)→Calls Tryd.prog 48 #[.slice (some ⟨bl,0,none⟩) (N+1) cap,.int .u8 5,.int .i64 (-E)] W fun r w'=>∃(m:Int) (h:Nat→Nat),r=.returned (.int .i64 m)∧ButB bl W w'∧Byts w' bl (N+1) h∧OutN g h 5 (N+1) (-E) m∧(m≤0∨vlN h (N+1)%5≠0):=fun W g G D=>divideOut_w bl N cap 5 (-E) g (Or.inr rfl) (by omega) (by omega) hN W G D
 have HB0:Below w.heap.size w (w.alloc (.cells #[.int .i64 0,.int .i64 0] 23)):=by go_grown
 have X0:Has2 (w.alloc (.cells #[.int .i64 0,.int .i64 0] 23)) w.heap.size (.int .i64 0) (.int .i64 0):=⟨by go_simp,by go_simp,by go_simp,by go_simp,by go_size⟩
 have hne:w.heap.size≠bl:=by have:=B.lt;omega
 obtain⟨G,hG⟩:∃G,Hid (decV (vlN f (N+1)) E=G):=⟨_,rfl⟩
 rw [hG.out]
 go_enter Tryd.func22,Tryd.ntmps22
 have B0:=B.keep HB0
 have K0:ButB bl w _:=(ButB.refl bl w).later HB0
 go_wp2_with fail
 generalize w.alloc (.cells #[.int .i64 0,.int .i64 0] 23)=W0 at *
 (with_reducible refine (cd2 W0 f B0 D).mono ?_)
 rintro _ W1 ⟨t,g,rfl,k1,B1,O2,c2⟩
 have X1:=k1.has2 X0 hne
 have K1:=K0.trans k1
 have t1:=O2.le
 have t2:=O2.lo
 have HO2:Hid _:=O2
 have HC2:Hid _:=c2
 clear k1 X0 K0 B0 HB0 c2 O2
 go_wp2_with fail
 (with_reducible refine (cd5 W1 g B1 HO2.out.dg).mono ?_)
 rintro _ W2 ⟨u,h,rfl,k1,B2,O5,c5⟩
 have X2:=k1.has2 X1 hne
 have K2:=K1.trans k1
 have u1:=O5.le
 have u2:=O5.lo
 have HD:Hid (leftV (vlN h (N+1)) E t u=G):=(dec_is HO2.out O5 HC2.out c5).trans hG.out
 have DH:=O5.dg
 clear k1 X1 K1 B1 HO2 HC2 O5 c5 cd2 cd5 hG
 have hcv:=conv_text (cap:=cap) B2 DH
 have hcp:=cp W2 h K2 DH
 clear cp
 generalize vlN h (N+1)=m at *
 generalize (textN h (N+1)).toArray=S at *
 go_wp2_with fail
 (with_reducible refine hcp.mono ?_)
 rintro _ W3 ⟨hP,hb⟩
 have X3:=X2.keep hb
 have K3:=K2.later hb
 clear X2 K2 hb hcp hcv B2
 rcases hP with ⟨hm,rfl⟩ | ⟨hm,z,T,p,rfl⟩
 · obtain⟨nh,nl,S1⟩:=sg_ex ((grN 10 E.toNat m:Nat):Int)
   obtain⟨th,tl,S2⟩:=sg_ex ((grN 2 t.toNat 1:Nat):Int)
   obtain⟨dh,dl,S3⟩:=sg_ex ((grN 5 u.toNat (grN 2 t.toNat 1):Nat):Int)
   have l2:=grN_lt (f:=2) (by omega) t.toNat 1 (by decide)
   have e:mdV false nh nl dh dl=G:=by
     rw [mdV_is S1 S3 (grN_lt (by omega) _ _ (by omega)) (grN_lt (by omega) _ _ l2),left_grown hm]
     exact HD.out
   have c1:∀W,Calls Tryd.prog 52 #[.int .i64 (m:Int)] W fun r w'=>r=.returned (.int .u64 (m:Int))∧W=w':=fun W=>ramount_w (m:Int) (by omega) (by omega) W
   have c2:∀W,Calls Tryd.prog 51 #[.agg #[.int .u64 0,.int .u64 (m:Int)],.int .u64 10,.int .i64 E] W fun r w'=>r=.returned (.agg #[.int .u64 (nh:Int),.int .u64 (nl:Int)])∧Below W.heap.size W w':=fun W=>grown_w 0 m 10 m nh nl E (by omega) (by decide) (by omega) ⟨by decide,by omega,by omega⟩ S1 W
   have c3:∀W,Calls Tryd.prog 51 #[.agg #[.int .u64 0,.int .u64 1],.int .u64 2,.int .i64 t] W fun r w'=>r=.returned (.agg #[.int .u64 (th:Int),.int .u64 (tl:Int)])∧Below W.heap.size W w':=fun W=>grown_w 0 1 2 1 th tl t (by omega) (by decide) (by decide) ⟨by decide,by decide,by decide⟩ S2 W
   have c4:∀W,Calls Tryd.prog 51 #[.agg #[.int .u64 (th:Int),.int .u64 (tl:Int)],.int .u64 5,.int .i64 u] W fun r w'=>r=.returned (.agg #[.int .u64 (dh:Int),.int .u64 (dl:Int)])∧Below W.heap.size W w':=fun W=>grown_w th tl 5 (grN 2 t.toNat 1) dh dl u (by omega) (by decide) l2 S2 S3 W
   have c5:=fun W=>made_w false nh nl dh dl W
   rw [e] at c5
   obtain⟨g1,g2,g3⟩:=G
   clear S1 S2 S3 l2 e HD hm
   obtain⟨x0,x1,x2,x3,x4⟩:=id X3
   go_wp2_with (first
     | (go_at_call 52;(with_reducible refine (c1 _).mono ?_);rintro _ W4 ⟨rfl,rfl⟩)
     | (go_at_call 50;(with_reducible refine (c5 _).mono ?_);rintro _ W7 ⟨rfl,hb1⟩;replace X3:=X3.keep hb1;replace K3:=K3.later hb1;clear hb1 x0 x1 x2 x3 x4;obtain⟨x0,x1,x2,x3,x4⟩:=id X3)
     | (go_at_call 51;(with_reducible refine (c2 _).mono ?_);rintro _ W5 ⟨rfl,hb1⟩;replace X3:=X3.keep hb1;replace K3:=K3.later hb1;clear hb1 x0 x1 x2 x3 x4;obtain⟨x0,x1,x2,x3,x4⟩:=id X3)
     | (go_at_call 51;(with_reducible refine (c3 _).mono ?_);rintro _ W5 ⟨rfl,hb1⟩;replace X3:=X3.keep hb1;replace K3:=K3.later hb1;clear hb1 x0 x1 x2 x3 x4;obtain⟨x0,x1,x2,x3,x4⟩:=id X3)
     | (go_at_call 51;(with_reducible refine (c4 _).mono ?_);rintro _ W5 ⟨rfl,hb1⟩;replace X3:=X3.keep hb1;replace K3:=K3.later hb1;clear hb1 x0 x1 x2 x3 x4;obtain⟨x0,x1,x2,x3,x4⟩:=id X3))
   refine bodyPost_ret (v:=.tuple #[.agg #[.int .i64 g1,.int .i64 g2],.int .i64 g3]) (by simp [results,Tryd.results22,go_sem, *]) rfl ⟨rfl, ?_⟩
   repeat' (first | (with_reducible exact K3) | (with_reducible refine ButB.put ?_ (by go_size) _ _))
 · have e:=HD.out
   rw [left_over hm] at e
   subst e
   obtain⟨x0,x1,x2,x3,x4⟩:=id X3
   go_wp2_with fail
   refine bodyPost_ret (v:=.tuple #[.agg #[.int .i64 0,.int .i64 0],.int .i64 3]) (by simp [results,Tryd.results22,go_sem, *]) rfl ⟨rfl, ?_⟩
   repeat' (first | (with_reducible exact K3) | (with_reducible refine ButB.put ?_ (by go_size) _ _))
set_option maxHeartbeats 2000000 in
theorem frac_none (s:ByteArray) (h:s.toList.isEmpty=true∨(s.toList.isEmpty=false∧∃h0:0<s.size,¬s[0].toNat=46)) (w:World) :
   Calls Tryd.prog 20 #[.string s] w fun e w'=>e=.returned (.tuple #[.string ⟨#[]⟩,.string s,.bool true])∧w=w':=by
 rcases h with he | ⟨he,h0,h2⟩
 · go_enter Tryd.func20,Tryd.ntmps20
   go_wp2_with fail
   refine bodyPost_ret (v:=.tuple #[.string ⟨#[]⟩,.string s,.bool true]) (by simp [results,Tryd.results20,go_sem, *]) rfl ⟨rfl,rfl⟩
 · have z:(0:Int)<(s.size:Int):=by omega
   have h2':((s[0].toNat:Int) != 46)=true:=by rw [bne_iff_ne];omega
   go_enter Tryd.func20,Tryd.ntmps20
   go_wp2_with fail
   refine bodyPost_ret (v:=.tuple #[.string ⟨#[]⟩,.string s,.bool true]) (by simp [results,Tryd.results20,go_sem, *]) rfl ⟨rfl,rfl⟩
set_option maxHeartbeats 2000000 in
theorem frac_some (s a b:ByteArray) (q:Bool) (he:s.toList.isEmpty=false) (h0:0<s.size) (h2:s[0].toNat=46) (hq:a.toList.isEmpty=!q)
   (c:∀W,Calls Tryd.prog 19 #[.string (s.extract 1 s.size),.int .i64 40] W fun e w'=>e=.returned (.tuple #[.string a,.string b])∧Below W.heap.size W w') (w:World) :
   Calls Tryd.prog 20 #[.string s] w fun e w'=>e=.returned (.tuple #[.string a,.string b,.bool q])∧Below w.heap.size w w':=by
 have z:(0:Int)<(s.size:Int):=by omega
 have z1:(1:Int)≤(s.size:Int):=by omega
 have h2':((s[0].toNat:Int) != 46)=false:=by rw [bne_eq_false_iff_eq];omega
 go_enter Tryd.func20,Tryd.ntmps20
 go_wp2_with (go_at_call 19;(with_reducible refine (c _).mono ?_);rintro _ W1 ⟨rfl,hb1⟩)
 refine bodyPost_ret (v:=.tuple #[.string a,.string b,.bool q]) (by simp [results,Tryd.results20,go_sem, *]) rfl ⟨rfl,hb1⟩
theorem empty_is (s:ByteArray):s.toList.isEmpty=decide (s.size=0):=by
 rw [ByteArray.toList_eq]
 cases h:s.data.toList with
 | nil =>
   have:s.size=0:=by
     have:s.data.size=0:=by rw [←Array.length_toList,h];rfl
     exact this
   simp [this]
 | cons a l =>
   have:s.size≠0:=by
     have:s.data.size=l.length+1:=by rw [←Array.length_toList,h];rfl
     show s.data.size≠0
     omega
   simp [this]
structure Frac where
 d:ByteArray
 r:ByteArray
 ok:Bool
def headB (s:ByteArray) (c:Nat):Bool:=match s.data.toList with
 | []=>false
 | a :: _=>a.toNat==c
theorem head_none {s:ByteArray} {c:Nat} (h:s.size=0):headB s c=false:=by
 unfold headB
 have:s.data.toList=[]:=by
   have:s.data.size=0:=h
   rw [←Array.length_toList] at this
   exact List.eq_nil_of_length_eq_zero this
 rw [this]
theorem head_some {s:ByteArray} {c:Nat} (h:0<s.size):headB s c=(s[0].toNat==c):=by
 unfold headB
 have e:=byte_drop (s:=s) (k:=0) h
 rw [List.drop_zero] at e
 rw [e]
def fracB (s:ByteArray):Frac:=if headB s 46 then ⟨(s.extract 1 s.size).extract 0 (ldN (s.extract 1 s.size) 40),(s.extract 1 s.size).extract (ldN (s.extract 1 s.size) 40) (s.extract 1 s.size).size,decide (ldN (s.extract 1 s.size) 40≠0)⟩ else ⟨⟨#[]⟩,s,true⟩
theorem upto_le (s:ByteArray):uptoN s 0≤s.size:=by
 unfold uptoN
 have h:=(List.takeWhile_sublist isDg (l:=s.data.toList.drop 0)).length_le
 have e:(s.data.toList.drop 0).length=s.size:=by rw [List.drop_zero];simp
 omega
theorem ldN_le (s:ByteArray) (lim:Nat):ldN s lim≤s.size:=by
 unfold ldN
 have:=upto_le s
 omega
theorem readFraction_w (s:ByteArray) (hs:(s.size:Int)≤9223372036854775807) (w:World) :
   Calls Tryd.prog 20 #[.string s] w fun e w'=>e=.returned (.tuple #[.string (fracB s).d,.string (fracB s).r,.bool (fracB s).ok])∧Below w.heap.size w w':=by
 by_cases z:s.size=0
 · have e:fracB s=⟨⟨#[]⟩,s,true⟩:=by unfold fracB;rw [head_none z];rfl
   rw [e]
   exact (frac_none s (Or.inl (by rw [empty_is,decide_eq_true z])) w).mono fun _ _ ⟨h1,h2⟩=>⟨h1,by rw [h2];exact Below.refl _ _⟩
 · have h0:0<s.size:=by omega
   by_cases c:s[0].toNat=46
   · have e:fracB s=⟨(s.extract 1 s.size).extract 0 (ldN (s.extract 1 s.size) 40),(s.extract 1 s.size).extract (ldN (s.extract 1 s.size) 40) (s.extract 1 s.size).size,decide (ldN (s.extract 1 s.size) 40≠0)⟩:=by unfold fracB;rw [head_some h0,c];rfl
     rw [e]
     have sz:(s.extract 1 s.size).size=s.size-1:=by rw [ByteArray.size_extract];omega
     refine frac_some s _ _ _ (by rw [empty_is,decide_eq_false z]) h0 c ?_ (fun W=>leading_w (s.extract 1 s.size) 40 (by omega) (by rw [sz];omega) W) w
     rw [empty_is,ByteArray.size_extract]
     have l:=ldN_le (s.extract 1 s.size) 40
     by_cases q:ldN (s.extract 1 s.size) 40=0
     · rw [decide_eq_true (by rw [q];omega),decide_eq_false (by omega)];rfl
     · rw [decide_eq_false (by omega),decide_eq_true q];rfl
   · have e:fracB s=⟨⟨#[]⟩,s,true⟩:=by
       unfold fracB
       rw [head_some h0,beq_eq_false_iff_ne.2 c];rfl
     rw [e]
     exact (frac_none s (Or.inr ⟨by rw [empty_is,decide_eq_false z],h0,c⟩) w).mono fun _ _ ⟨h1,h2⟩=>⟨h1,by rw [h2];exact Below.refl _ _⟩
end Go.Proofs.YtgocelaghggpmaaDoor
