/- The reference's numbers of stage 11: the number that digits write. -/
import Derived.Test.YtgocelaghggpmaaGreatDoorKo04
import Derived.Test.YtgocelaghggpmaaGreatDoorKo07
import Derived.Deep.RegionWith
namespace Go.Proofs.YtgocelaghggpmaaGreatDoor
open Go.ChangeShapes Go.WideShapes Go.ChangeAt Go.RowKit
def valN (l:List UInt8):Nat:=l.foldl (fun n c=>n*10+(c.toNat-48)) 0
theorem valN_snoc (l:List UInt8) (c:UInt8):valN (l++[c])=valN l*10+(c.toNat-48):=by
 unfold valN
 rw [List.foldl_append]
 rfl
theorem byte_take {s:ByteArray} {k:Nat} (h:k<s.size):s.data.toList.take (k+1)=s.data.toList.take k++[s[k]]:=by
 rw [List.take_succ_eq_append_getElem (by simpa using h)];rfl
set_option maxHeartbeats 4000000 in
theorem value_w (s:ByteArray) (hs:s.size≤200) (hd:∀i (h:i<s.size),isDg s[i]=true) (w:World) :
   Calls Tryz.prog 35 #[.string s] w fun e w'=>(∃v,e=.returned v∧BigIs w' v (valN s.data.toList))∧Below w.heap.size w w':=by
 have HD:Hid (∀i (h:i<s.size),isDg s[i]=true):=hd
 clear hd
 have HB:Below w.heap.size w (w.alloc (.cells #[] 70)):=by go_grown
 have Q0:BigIs (w.alloc (.cells #[] 70)) (.slice (some ⟨w.heap.size,0,none⟩) 0 0) 0:=⟨[],Digs.nil,trimmed_nil,rfl,(own_empty w).row⟩
 have c10:∀W,Calls Tryz.prog 36 #[.int .u64 10] W fun e w'=>(∃v',e=.returned v'∧BigIs w' v' 10)∧Below W.heap.size W w':=fun W=>of_w 10 (by omega) W
 go_enter Tryz.func35,Tryz.ntmps35
 go_upto_region 2 with fail
 generalize w.alloc (.cells #[] 70)=V1 at *
 go_upto_region 3 with fail
 go_loopg [3,4] s.size (fun G s3 s4 wx=>∃i:Nat,s4=.int .i64 (i:Int)∧i≤s.size∧i+G=s.size∧Below w.heap.size w wx∧BigIs wx s3 (valN (s.data.toList.take i))∧Hid (valN (s.data.toList.take i)<2^(4*i)))
 case atStart=>exact⟨0,rfl,by omega,by omega,HB,Q0,by show _<_;rw [List.take_zero];decide⟩
 case round =>
   clear HB Q0
   obtain⟨i,rfl,hi,hG,HB,N,H⟩:=hrel
   obtain⟨o3,k3,u3,rfl, -⟩:=N.shape
   by_cases c:i<s.size
   · have ci:(i:Int)<(s.size:Int):=by omega
     have dg:=HD.out i c
     have e1:=byte_take c
     have h1:=H.out
     have h2:=valN_snoc (s.data.toList.take i) s[i]
     rw [←e1] at h2
     unfold isDg at dg
     simp only [Bool.and_eq_true,decide_eq_true_eq] at dg
     obtain⟨d1,d2⟩:=dg
     generalize hc:s[i].toNat=b at *
     obtain⟨D,hD⟩:∃D:Nat,D=b-48:=⟨_,rfl⟩
     rw [←hD] at h2
     have w1:IntKind.u8.wrap ((b:Int)-48)=(D:Int):=by simp only [IntKind.wrap,IntKind.bits,IntKind.signed];simp;omega
     have w2:IntKind.u64.wrap (D:Int)=(D:Int):=by rw [IntKind.wrap_u64];omega
     have cD:=fun W=>of_w D (by omega) W
     have p1:valN (s.data.toList.take i)<2^(4*i+4):=pow_up h1
     have p10:10<2^(4*i+4):=Nat.lt_of_lt_of_le (show 10<2^4 by decide) (Nat.pow_le_pow_right (by omega) (by omega))
     have p2:valN (s.data.toList.take i)*10+D<2^(4*i+4):=by
       rw [Nat.pow_add]
       have:(2:Nat)^4=16:=rfl
       omega
     have cb:=fun W u v (p:BigIs W u (valN (s.data.toList.take i))) (q:BigIs W v 10)=>by_w u v (valN (s.data.toList.take i)) 10 (4*i+4) (by omega) p1 p10 W p q
     have cp:=fun W u v (p:BigIs W u (valN (s.data.toList.take i)*10)) (q:BigIs W v D)=>plus_w u v (valN (s.data.toList.take i)*10) D (4*i+4) (by omega) (by omega) (Nat.lt_of_le_of_lt (by omega) p10) W p q
     have H2:Hid (valN (s.data.toList.take (i+1))<2^(4*(i+1))):=by
       show _<_
       rw [h2,show 4*(i+1)=4*i+4 by omega]
       exact p2
     have H3:Hid (valN (s.data.toList.take (i+1))=valN (s.data.toList.take i)*10+D):=h2
     clear h1 h2 e1 p1 p2 p10 H HD hD
     generalize valN (s.data.toList.take i)=m at *
     generalize m*10=m10 at *
     go_upto_region 5 with fail
     have HD2:Below wr.heap.size wr wr.drew:=(Below.refl _ _).drew
     replace N:=N.keep HD2
     replace HB:=later HB HD2
     clear HD2
     go_region_with (first
       | (go_at_call_of 36 (Value.int .u64 10);(with_reducible refine (c10 _).mono ?_);rintro _ W1 ⟨⟨v1,rfl,T⟩,hb1⟩;obtain⟨o1,k1,u1,rfl, -⟩:=T.shape;replace N:=N.keep hb1;replace HB:=later HB hb1;clear hb1)
       | (go_at_call 38;(with_reducible refine (cb _ _ _ N T).mono ?_);rintro _ W2 ⟨⟨v2,rfl,M⟩,hb1⟩;obtain⟨o2,k2,u2,rfl, -⟩:=M.shape;replace HB:=later HB hb1;clear hb1)
       | (go_at_call 36;(with_reducible refine (cD _).mono ?_);rintro _ W3 ⟨⟨v3,rfl,E⟩,hb1⟩;obtain⟨o4,k4,u4,rfl, -⟩:=E.shape;replace M:=M.keep hb1;replace HB:=later HB hb1;clear hb1)
       | (go_at_call 51;(with_reducible refine (cp _ _ _ M E).mono ?_);rintro _ W4 ⟨⟨v4,rfl,S⟩,hb1⟩;replace HB:=later HB hb1;clear hb1))
     all_goals
       rw [←H3.out] at S
       go_wp2_with fail
       (go_roundg (s.size-i-1)
        case measure=>omega
        case rel=>exact⟨i+1,by go_num,by omega,by omega,HB,S,H2⟩)
   · have ci:¬(i:Int)<(s.size:Int):=by omega
     have e:s.data.toList.take i=s.data.toList:=List.take_of_length_le (by simp;omega)
     rw [e] at N
     clear H HD e
     go_wp2_with fail
     go_ret
     exact⟨⟨_,rfl,N⟩,HB⟩
end Go.Proofs.YtgocelaghggpmaaGreatDoor
