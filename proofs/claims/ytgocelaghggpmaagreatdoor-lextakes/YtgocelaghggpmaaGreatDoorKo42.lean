/- LexTakes: the law's walk. -/
import Derived.Test.YtgocelaghggpmaaGreatDoorKo41
import Derived.Test.YtgocelaghggpmaaGreatDoorKo34
namespace Go.Proofs.YtgocelaghggpmaaGreatDoor
open Go.ChangeShapes Go.WideShapes Go.ChangeAt Go.RowKit Go.Maps
set_option maxHeartbeats 4000000 in
set_option maxRecDepth 20000 in
theorem like_t (A B:Option Addr) (n C1 C2:Nat) (hn:n≤100000) (Z:Nat→Tk) (w:World) (hZ:Tks w A n Z) (hY:Tks w B n Z) :
   Calls Tryz.prog 6 #[.slice A n C1,.slice B n C2,.bool true] w fun e w'=>e=.returned (.bool true)∧Below w.heap.size w w':=by
 have HZ:Hid _:=hZ
 have HY:Hid _:=hY
 have hni:(n:Int)≤100000:=by omega
 clear hZ hY
 go_enter Tryz.func6,Tryz.ntmps6
 go_upto_region 4 with fail
 go_loopg [15] n (fun G s15 wx=>∃i:Nat,s15=.int .i64 (i:Int)∧i≤n∧i+G=n∧Below w.heap.size w wx)
 case atStart=>exact⟨0,rfl,by omega,by omega,Below.refl _ _⟩
 case round =>
   obtain⟨i,rfl,hi,hG,HB⟩:=hrel
   by_cases c:i<n
   · have ci:(i:Int)<(n:Int):=by omega
     obtain⟨b,o,rfl,hb,a0,a1,a2,a3,a4⟩:=Tks.keep HZ.out HB i c
     obtain⟨b',o',rfl,hb',b0,b1,b2,b3,b4⟩:=Tks.keep HY.out HB i c
     clear HZ HY
     generalize (Z i).k=zk at *
     generalize (Z i).s=zs at *
     generalize (Z i).n=zn at *
     generalize (Z i).d=zd at *
     generalize (Z i).a=za at *
     go_upto_region 6 with fail
     go_quiet (fail)
     clear a0 a1 a2 a3 a4 b0 b1 b2 b3 b4
     replace HB:=later HB (below_drewN wr nq)
     go_wp2_with fail
     (go_roundg (n-i-1)
      case measure=>omega
      case rel=>exact⟨i+1,by go_num,by omega,by omega,HB⟩)
   · have ci:¬(i:Int)<(n:Int):=by omega
     clear HZ HY
     go_wp2_with fail
     go_ret
     exact⟨rfl,HB⟩
set_option maxHeartbeats 1000000 in
theorem word_w (s:ByteArray) (hs:s.size≤maxLen) (w:World) (T:SpT w) :
   Calls Tryz.prog 7 #[.string s] w fun e w'=>e=.returned (.bool (wordB s.data.toList))∧Below w.heap.size w w':=by
 have ct:=teller_w w T
 have cw:=fun B W (h:WordsAt W B)=>isWord_w s hs B W h
 clear T
 go_enter Tryz.func7,Tryz.ntmps7
 go_wp2_with (first
   | (go_at_call 18;(with_reducible refine ct.mono ?_);rintro _ W1 ⟨B,rfl,hw,HB⟩;have cw1:=cw B W1 hw)
   | (go_at_call 42;(with_reducible refine cw1.mono ?_);rintro _ W2 ⟨rfl,hb1⟩))
 go_ret
 exact⟨rfl,later HB hb1⟩
def noKX:Tk:=⟨0,⟨#[]⟩,0,0,0⟩
theorem lexF_few (s:ByteArray):∀g p T,T.length≤4000→(lexF s g p T).t.length≤4001
 | 0,p,T,h=>by
   show (T++[_]).length≤4001
   rw [List.length_append];simp;omega
 | g+1,p,T,h=>by
   unfold lexF
   by_cases c1:p<s.size
   · rw [if_pos c1]
     by_cases c2:T.length=4000
     · rw [if_pos c2];exact Nat.zero_le _
     · rw [if_neg c2]
       by_cases c3:(firstV (s.extract p s.size)).e≠0
       · rw [if_pos c3];exact Nat.zero_le _
       · rw [if_neg c3]
         exact lexF_few s g _ _ (by rw [List.length_append];simp;omega)
   · rw [if_neg c1]
     show (T++[_]).length≤4001
     rw [List.length_append];simp;omega
theorem lex_few (s:ByteArray):(lexV s).t.length≤4001:=by
 unfold lexV
 by_cases c:20000<s.size
 · rw [if_pos c];exact Nat.zero_le _
 · rw [if_neg c];exact lexF_few s _ _ _ (by simp)
set_option maxHeartbeats 4000000 in
set_option maxRecDepth 20000 in
theorem lexTakes_core (s v:ByteArray) (E:Int) (P:Nat) (T:List Tk) (b:Bool) (hl:T.length≤4001) (w:World)
   (c0:Calls Tryz.prog 4 #[.string s] w fun r w'=>∃v,r=.returned (.tuple #[v,.int .i64 E,.int .i64 (P:Int)])∧OwnK w.heap.size w' v T∧Below w.heap.size w w')
   (c1:∀W,Calls Tryz.prog 5 #[.string s] W fun r w'=>∃v,r=.returned (.tuple #[v,.int .i64 E,.int .i64 (P:Int)])∧OwnK W.heap.size w' v T∧Below W.heap.size W w')
   (c2:∀W,Below w.heap.size w W→Calls Tryz.prog 7 #[.string v] W fun e w'=>e=.returned (.bool b)∧Below W.heap.size W w')
   (c3:∀W,Calls Tryz.prog 8 #[.string v] W fun e w'=>e=.returned (.bool b)∧W=w') :
   Calls Tryz.prog 3 #[.string s,.string v] w fun e w'=>e=.returned (.bool true)∧Below w.heap.size w w':=by
 go_enter Tryz.func3,Tryz.ntmps3
 go_upto_region 2 with (go_at_call 4;(with_reducible refine c0.mono ?_);rintro _ W1 ⟨v1,rfl,own1,HB⟩;obtain⟨A1,C1,rfl,tk1⟩:=ownK_tks own1 noKX)
 clear c0 own1
 go_upto_region 3 with (go_at_call 5;(with_reducible refine (c1 _).mono ?_);rintro _ W2 ⟨v2,rfl,own2,hb1⟩;obtain⟨A2,C2,rfl,tk2⟩:=ownK_tks own2 noKX)
 clear c1 own2
 replace tk1:=Tks.keep tk1 hb1
 replace HB:=later HB hb1
 have cL:=like_t A1 A2 T.length C1 C2 (by omega) _ W2 tk1 tk2
 clear tk1 tk2 hb1
 go_wp2_with (first
   | (go_at_call 6;(with_reducible refine cL.mono ?_);rintro _ W3 ⟨rfl,hb1⟩;replace HB:=later HB hb1;clear hb1;have c2':=c2 _ HB)
   | (go_at_call 7;(with_reducible refine c2'.mono ?_);rintro _ W4 ⟨rfl,hb1⟩;replace HB:=later HB hb1;clear hb1)
   | (go_at_call 8;(with_reducible refine (c3 _).mono ?_);rintro _ W5 ⟨rfl,rfl⟩))
 go_ret
 exact⟨by cases b <;> rfl,HB⟩
theorem lexTakes_w (s v:ByteArray) (hs:(s.size:Int)≤9223372036854775807) (hv:(v.size:Int)≤4611686018427387904) (w:World) (T1:SpT w) (T2:ErrR w) :
   Calls Tryz.prog 3 #[.string s,.string v] w fun e w'=>e=.returned (.bool true)∧Below w.heap.size w w' :=
 lexTakes_core s v _ _ _ _ (lex_few s) w (lex_w s hs w T1 T2) (fun W=>rLex_w s hs W) (fun W hb=>word_w v (by unfold maxLen;omega) W (T1.on hb)) (fun W=>rWord_w v hv W)
end Go.Proofs.YtgocelaghggpmaaGreatDoor
