/- The reference's matrix without its first row and a column: the walk. The walks of the reference's Index and At. -/
import Derived.Test.YtfdomcnaaadedaaZs18
import Derived.Test.YtfdomcnaaadedaaZs02
namespace Go.Proofs.Ytfdomcnaaadedaa
open Go.ChangeShapes Go.WideShapes Go.ChangeAt Go.RowKit
theorem RowsQ.keep {B:Nat} {w w2:World} {Z:Nat→Nat→Nv} {j M k:Nat} {vs:List Value} (h:RowsQ B w Z j M k vs) (hb:Below w.heap.size w w2):RowsQ B w2 Z j M k vs:=by
 refine⟨h.1,fun r hr=>?_⟩
 obtain⟨A,C,h1,h2⟩:=h.2 r hr
 exact⟨A,C,h1,h2.keep hb⟩
theorem RowsQ.push {B:Nat} {w w2:World} {Z:Nat→Nat→Nv} {j M k:Nat} {vs:List Value} (hk:1≤k) (h:RowsQ B w Z j M k vs) (hw:∀u T,OwnQ B w u T→OwnQ B w2 u T) {A:Option Addr} {C:Nat} (hn:OwnQ B w (.slice A (cutL (Z k) j M).length C) (cutL (Z k) j M)):RowsQ B w2 Z j M (k+1) (vs++[.slice A (cutL (Z k) j M).length C]):=by
 have hl:=h.1
 refine⟨by rw [List.length_append,hl];simp;omega,fun r hr=>?_⟩
 by_cases c:r<k-1
 · obtain⟨A',C',h1,h2⟩:=h.2 r c
   exact⟨A',C',by rw [List.getElem?_append_left (by omega)];exact h1,hw _ _ h2⟩
 · obtain rfl:r=k-1:=by omega
   rw [show k-1+1=k by omega]
   exact⟨A,C,by rw [List.getElem?_append_right (by omega),hl,Nat.sub_self];rfl,hw _ _ hn⟩
theorem OwnS.form {B:Nat} {w:World} {v:Value} {vs:List Value} (h:OwnS B w v vs):∃A C,v=.slice A vs.length C:=by
 rcases h.2 with ⟨rfl,hn⟩ | ⟨g,cap,cur,rfl, -⟩
 · exact⟨none,0,by rw [hn]⟩
 · exact⟨_,_,rfl⟩
def WoAns (w:World) (Z:Nat→Nat→Nv) (j M N:Nat) (e:Ending) (w':World):Prop:=∃v vs,e=.returned v∧OwnS w.heap.size w' v vs∧RowsQ w.heap.size w' Z j M N vs∧Below w.heap.size w w'
set_option maxHeartbeats 4000000 in
theorem without_w (A:Option Addr) (N M C:Nat) (RA:Nat→Option Addr) (RC:Nat→Nat) (Z:Nat→Nat→Nv) (j:Nat) (hN:N≤1000) (hM:M≤1000) (hM0:0<M) (w:World) (H:Nrs w A N RA (fun _=>M) RC Z) :
   Calls Try.prog 26 #[.slice A N C,.int .i64 0,.int .i64 (j:Int)] w fun e w'=>WoAns w Z j M N e w':=by
 have HH:Hid _:=H
 have Ni:(N:Int)≤1000:=by omega
 have Mi:(M:Int)≤1000:=by omega
 have HB0:Below w.heap.size w (w.alloc (.cells #[] 54)):=by go_grown
 have own0:=ownS_empty w
 clear H
 go_enter Try.func26,Try.ntmps26
 go_upto_region 3 with fail
 generalize w.alloc (.cells #[] 54)=V0 at *
 go_loopg [7,16] N (fun G s7 s16 wx=>∃(k:Nat) (vs:List Value),s16=.int .i64 (k:Int)∧k≤N∧k+G=N∧OwnS w.heap.size wx s7 vs∧RowsQ w.heap.size wx Z j M k vs∧Below w.heap.size w wx)
 case atStart=>exact⟨0,[],rfl,by omega,by omega,own0,⟨rfl,fun r hr=>by omega⟩,HB0⟩
 case round =>
   clear own0 HB0
   obtain⟨k,vs,rfl,hk,hG,own,rows,HB⟩:=hrel
   obtain⟨A7,C7,rfl⟩:=own.form
   by_cases c:k<N
   · have ci:(k:Int)<(N:Int):=by omega
     obtain⟨b,o,eA,hb,cr,nus⟩:=HH.out k c
     subst eA
     replace cr:=keepsC HB cr hb
     replace nus:=nus.keep HB
     by_cases k0:k=0
     · have k0i:((k:Int)==0)=true:=by rw [beq_iff_eq];omega
       have k1:Hid (k=0):=k0
       clear HH nus k0
       go_wp2_with fail
       (go_roundg (N-k-1)
        case measure=>omega
        case rel=>exact⟨k+1,vs,by go_num,by omega,by omega,own,⟨by have:=k1.out;have:=rows.1;omega,fun r hr=>by have:=k1.out;omega⟩,HB⟩)
     · have k0i:((k:Int)==0)=false:=by rw [beq_eq_false_iff_ne];omega
       obtain⟨rb,ro,eR⟩:∃rb ro,RA k=some ⟨rb,ro,none⟩:=by
         obtain⟨rb,ro,e, -⟩:=nus 0 hM0
         exact⟨rb,ro,e⟩
       rw [eR] at cr nus
       clear eR
       go_upto_region 8 with fail
       have h2:Below wr.heap.size wr (wr.alloc (.cells #[] 33)):=by go_grown
       have q0:=ownQ_empty wr
       have nus2:Hid _:=nus
       clear nus cr HH
       generalize wr.alloc (.cells #[] 33)=V1 at *
       go_loopg [10,27] M (fun G s10 s27 wx=>∃i:Nat,s27=.int .i64 (i:Int)∧i≤M∧i+G=M∧OwnQ wr.heap.size wx s10 (cutL (Z k) j i)∧Below wr.heap.size wr wx)
       case atStart=>exact⟨0,rfl,by omega,by omega,q0,h2⟩
       case round =>
         clear q0 h2
         obtain⟨i,rfl,hi,hGi,q,HBi⟩:=hrel
         obtain⟨A10,C10,rfl⟩:=q.form
         by_cases c2:i<M
         · have c2i:(i:Int)<(M:Int):=by omega
           obtain⟨b',o',eA,hb',x0,x1,x2⟩:=Nus.keep nus2.out HBi i c2
           cases eA
           have cl:(cutL (Z k) j i).length≤1000:=by rw [cutL_len];split <;> omega
           clear nus2
           go_upto_region 10 with fail
           have h3:Below wr.heap.size wr (wr.alloc (.cells #[.bool (Z k i).g,.slice (Z k i).a (Z k i).l (Z k i).c,.int .i64 (Z k i).e] 33)):=by go_grown
           have Y:Has3 (wr.alloc (.cells #[.bool (Z k i).g,.slice (Z k i).a (Z k i).l (Z k i).c,.int .i64 (Z k i).e] 33)) wr.heap.size (.bool (Z k i).g) (.slice (Z k i).a (Z k i).l (Z k i).c) (.int .i64 (Z k i).e):=⟨by go_simp,by go_simp,by go_simp,by go_simp,by go_simp,by go_simp,by go_size⟩
           replace q:=q.keep h3
           replace HBi:=later HBi h3
           clear h3 x0 x1 x2
           generalize wr.alloc (.cells #[.bool (Z k i).g,.slice (Z k i).a (Z k i).l (Z k i).c,.int .i64 (Z k i).e] 33)=V2 at *
           by_cases e:i=j
           · have ne:((i:Int) != (j:Int))=false:=by rw [bne_eq_false_iff_eq];omega
             have ce:Hid (cutL (Z k) j (i+1)=cutL (Z k) j i):=by show _=_;rw [e];exact cutL_here _ _
             clear Y
             go_wp2_with fail
             (go_roundg (M-i-1)
              case measure=>omega
              case rel=>exact⟨i+1,by go_num,by omega,by omega,by rw [ce.out];exact q,HBi⟩)
           · have ne:((i:Int) != (j:Int))=true:=by rw [bne_iff_ne];omega
             have cs:=cutL_step (Z k) e
             obtain⟨y0,y1,y2,y3,y4,y5,y6⟩:=id Y
             go_wp2_with (at_builtin;refine wpList_pushQ (by rfl) _ _ (by rfl) _ (cutL (Z k) j i) (Z k i) (by rfl) (by rfl) q (by omega) HBi.size HBi ?_;intro v' w' own' HB2 _ _ _ _)
             rw [←cs] at own'
             (go_roundg (M-i-1)
              case measure=>omega
              case rel=>exact⟨i+1,by go_num,by omega,by omega,own',HB2⟩)
         · have c2i:¬(i:Int)<(M:Int):=by omega
           obtain rfl:i=M:=by omega
           have hvl:vs.length≤1000:=by have:=rows.1;omega
           replace own:=own.keep HBi
           replace rows:=rows.keep HBi
           have sz:=HB.size
           have q2:=q.base sz
           replace HB:=later HB HBi
           clear nus2
           go_wp2_with (at_builtin;refine wpList_pushS (by rfl) _ _ (by rfl) _ vs A10 (cutL (Z k) j i).length C10 (by rfl) (by rfl) own (by omega) HB.size HB ?_;intro v' w' own' HB2 _ _ kp _)
           (go_roundg (N-k-1)
            case measure=>omega
            case rel=>exact⟨k+1,_,by go_num,by omega,by omega,own',rows.push (by omega) kp q2,HB2⟩)
   · have ci:¬(k:Int)<(N:Int):=by omega
     obtain rfl:k=N:=by omega
     clear HH
     go_wp2_with fail
     go_ret
     exact⟨_,vs,rfl,own,rows,HB⟩
theorem index_w (x:Nat) (hx:x<18446744073709551616) (w:World) :
   Calls Try.prog 79 #[.float .f64 x] w fun e w'=>e=.returned (.int .i64 (key x))∧w=w':=by
 unfold key
 by_cases h:x<9223372036854775808
 · have h':((x:Int)/9223372036854775808==1)=false:=by simp;omega
   rw [if_pos h]
   have hw:wrap64 (x:Int)=x:=by rw [wrap64];omega
   go_enter Try.func79,Try.ntmps79
   go_wp2
   all_goals (go_ret;exact⟨rfl,rfl⟩)
 · have h':((x:Int)/9223372036854775808==1)=true:=by simp;omega
   rw [if_neg h]
   go_enter Try.func79,Try.ntmps79
   go_wp2
   all_goals (go_ret;refine⟨?_,rfl⟩)
   all_goals
     show Ending.returned (Value.int IntKind.i64 _)=_
     congr 2
     omega
end Go.Proofs.Ytfdomcnaaadedaa
