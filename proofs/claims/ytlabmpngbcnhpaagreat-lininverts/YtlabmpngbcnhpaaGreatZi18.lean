/- The reference's matrix without its first row and a column. The reference's matrix without its first row and a column: the walk. The walks of the reference's Index and At. -/
import Derived.Test.YtlabmpngbcnhpaaGreatZi08
import Derived.Test.YtlabmpngbcnhpaaGreatZi17
import Derived.Test.YtlabmpngbcnhpaaGreatZi02
namespace Go.Proofs.YtlabmpngbcnhpaaGreat
open Go.ChangeShapes Go.WideShapes Go.ChangeAt Go.RowKit
def Nus (w:World) (A:Option Addr) (n:Nat) (Z:Nat→Nv):Prop :=
 ∀i,i<n→∃b o,A=some ⟨b,o,none⟩∧b<w.heap.size∧w.cell? ⟨b,o+i*3,none⟩=some (.bool (Z i).g)∧w.cell? ⟨b,o+i*3+1,none⟩=some (.slice (Z i).a (Z i).l (Z i).c)∧w.cell? ⟨b,o+i*3+2,none⟩=some (.int .i64 (Z i).e)
theorem Nus.keep {w w2:World} {A:Option Addr} {n:Nat} {Z:Nat→Nv} (h:Nus w A n Z) (hb:Below w.heap.size w w2):Nus w2 A n Z:=fun i hi=>by
 obtain⟨b,o,e,l,c0,c1,c2⟩:=h i hi
 exact⟨b,o,e,Nat.lt_of_lt_of_le l hb.size,keepsC hb c0 l,keepsC hb c1 l,keepsC hb c2 l⟩
def Nrs (w:World) (A:Option Addr) (N:Nat) (RA:Nat→Option Addr) (RL RC:Nat→Nat) (Z:Nat→Nat→Nv):Prop :=
 ∀r,r<N→∃b o,A=some ⟨b,o,none⟩∧b<w.heap.size∧w.cell? ⟨b,o+r,none⟩=some (.slice (RA r) (RL r) (RC r))∧Nus w (RA r) (RL r) (Z r)
theorem Nrs.keep {w w2:World} {A:Option Addr} {N:Nat} {RA:Nat→Option Addr} {RL RC:Nat→Nat} {Z:Nat→Nat→Nv} (h:Nrs w A N RA RL RC Z) (hb:Below w.heap.size w w2):Nrs w2 A N RA RL RC Z:=fun r hr=>by
 obtain⟨b,o,e,l,c,V⟩:=h r hr
 exact⟨b,o,e,Nat.lt_of_lt_of_le l hb.size,keepsC hb c l,V.keep hb⟩
theorem nvCells_at (T:List Nv) (i:Nat) (z:Nv) (h:T[i]?=some z):(nvCells T)[i*3]?=some (.bool z.g)∧(nvCells T)[i*3+1]?=some (.slice z.a z.l z.c)∧(nvCells T)[i*3+2]?=some (.int .i64 z.e):=by
 induction T generalizing i with
 | nil=>simp at h
 | cons q t ih =>
   have e:nvCells (q :: t)=.bool q.g :: .slice q.a q.l q.c :: .int .i64 q.e :: nvCells t:=rfl
   rw [e]
   cases i with
   | zero =>
     simp at h
     subst h
     exact⟨rfl,rfl,rfl⟩
   | succ i =>
     have h':t[i]?=some z:=by simpa using h
     have:=ih i h'
     rw [show (i+1)*3=i*3+3 by omega,show i*3+3+1=(i*3+1)+3 by omega,show i*3+3+2=(i*3+2)+3 by omega]
     simpa using this
theorem ownQ_nus {B:Nat} {w:World} {v:Value} {T:List Nv} (h:OwnQ B w v T) (d:Nv):∃A C,v=.slice A T.length C∧Nus w A T.length (fun i=>T.getD i d):=by
 have h':w.ownsRow B 56 3 v T.length (nvCells T):=h
 rcases h'.2 with ⟨rfl,hn⟩ | ⟨g,cap,cur,rfl, -⟩
 · rw [hn]
   exact⟨none,0,rfl,fun i hi=>by omega⟩
 · refine⟨_,cap,rfl,fun i hi=>?_⟩
   have hl:=(World.ownsRow.lt h g rfl).2
   have hg:T[i]?=some (T.getD i d):=by simp [List.getD,hi]
   obtain⟨a,b,c⟩:=nvCells_at T i _ hg
   refine⟨g,0,rfl,hl, ?_, ?_, ?_⟩
   · rw [Nat.zero_add,World.ownsRow.cellAt h (i*3) (by omega)];exact a
   · rw [Nat.zero_add,World.ownsRow.cellAt h (i*3+1) (by omega)];exact b
   · rw [Nat.zero_add,World.ownsRow.cellAt h (i*3+2) (by omega)];exact c
def cutL (Z:Nat→Nv) (j c:Nat):List Nv:=((List.range c).filter (fun l=>l≠j)).map Z
theorem cutL_here (Z:Nat→Nv) (j:Nat):cutL Z j (j+1)=cutL Z j j:=by
 unfold cutL
 rw [List.range_succ,List.filter_append]
 simp
theorem cutL_step (Z:Nat→Nv) {j c:Nat} (h:c≠j):cutL Z j (c+1)=cutL Z j c++[Z c]:=by
 unfold cutL
 rw [List.range_succ,List.filter_append,List.map_append]
 simp [h]
theorem cutL_len (Z:Nat→Nv) (j:Nat):∀c,(cutL Z j c).length=if j<c then c-1 else c:=by
 intro c
 induction c with
 | zero=>rfl
 | succ c ih =>
   by_cases h:c=j
   · subst h
     rw [cutL_here,ih,if_neg (by omega),if_pos (by omega)]
     omega
   · rw [cutL_step Z h,List.length_append,ih]
     simp only [List.length_cons,List.length_nil]
     split <;> split <;> omega
def RowsQ (B:Nat) (w:World) (Z:Nat→Nat→Nv) (j M k:Nat) (vs:List Value):Prop:=vs.length=k-1∧∀r,r<k-1→∃A C,vs[r]?=some (.slice A (cutL (Z (r+1)) j M).length C)∧OwnQ B w (.slice A (cutL (Z (r+1)) j M).length C) (cutL (Z (r+1)) j M)
theorem RowsQ.keep {B:Nat} {w w2:World} {Z:Nat→Nat→Nv} {j M k:Nat} {vs:List Value} (h:RowsQ B w Z j M k vs) (hb:Below w.heap.size w w2):RowsQ B w2 Z j M k vs:=by
 refine⟨h.1,fun r hr=>?_⟩
 obtain⟨A,C,h1,h2⟩:=h.2 r hr
 exact⟨A,C,h1,h2.keep hb⟩
theorem RowsQ.push {B:Nat} {w w2:World} {Z:Nat→Nat→Nv} {j M k:Nat} {vs:List Value} (hk:1≤k) (h:RowsQ B w Z j M k vs) (hw:∀u T,OwnQ B w u T→OwnQ B w2 u T) {A:Option Addr} {C:Nat} (hn:OwnQ B w (.slice A (cutL (Z k) j M).length C) (cutL (Z k) j M)):RowsQ B w2 Z j M (k+1) (vs++[.slice A (cutL (Z k) j M).length C]):=by
 have hl:=h.1
 refine⟨by rw [List.length_append,hl];simp;omega,fun r hr=>?_⟩
 by_cases c:r<k-1
 · obtain⟨A',C',h1,h2⟩:=h.2 r c
   exact⟨A',C',by rw [List.getElem?_append_left (by omega)];exact h1,hw _ _ h2⟩
 · obtain rfl:r=k-1:=by omega
   rw [show k-1+1=k by omega]
   exact⟨A,C,by rw [List.getElem?_append_right (by omega),hl,Nat.sub_self];rfl,hw _ _ hn⟩
theorem OwnS.form {B:Nat} {w:World} {v:Value} {vs:List Value} (h:OwnS B w v vs):∃A C,v=.slice A vs.length C:=by
 rcases h.2 with ⟨rfl,hn⟩ | ⟨g,cap,cur,rfl, -⟩
 · exact⟨none,0,by rw [hn]⟩
 · exact⟨_,_,rfl⟩
def WoAns (w:World) (Z:Nat→Nat→Nv) (j M N:Nat) (e:Ending) (w':World):Prop:=∃v vs,e=.returned v∧OwnS w.heap.size w' v vs∧RowsQ w.heap.size w' Z j M N vs∧Below w.heap.size w w'
set_option maxHeartbeats 4000000 in
theorem without_w (A:Option Addr) (N M C:Nat) (RA:Nat→Option Addr) (RC:Nat→Nat) (Z:Nat→Nat→Nv) (j:Nat) (hN:N≤1000) (hM:M≤1000) (hM0:0<M) (w:World) (H:Nrs w A N RA (fun _=>M) RC Z) :
   Calls Tryz.prog 30 #[.slice A N C,.int .i64 0,.int .i64 (j:Int)] w fun e w'=>WoAns w Z j M N e w':=by
 have HH:Hid _:=H
 have Ni:(N:Int)≤1000:=by omega
 have Mi:(M:Int)≤1000:=by omega
 have HB0:Below w.heap.size w (w.alloc (.cells #[] 83)):=by go_grown
 have own0:=ownS_empty w
 clear H
 go_enter Tryz.func30,Tryz.ntmps30
 go_upto_region 3 with fail
 generalize w.alloc (.cells #[] 83)=V0 at *
 go_loopg [7,16] N (fun G s7 s16 wx=>∃(k:Nat) (vs:List Value),s16=.int .i64 (k:Int)∧k≤N∧k+G=N∧OwnS w.heap.size wx s7 vs∧RowsQ w.heap.size wx Z j M k vs∧Below w.heap.size w wx)
 case atStart=>exact⟨0,[],rfl,by omega,by omega,own0,⟨rfl,fun r hr=>by omega⟩,HB0⟩
 case round =>
   clear own0 HB0
   obtain⟨k,vs,rfl,hk,hG,own,rows,HB⟩:=hrel
   obtain⟨A7,C7,rfl⟩:=own.form
   by_cases c:k<N
   · have ci:(k:Int)<(N:Int):=by omega
     obtain⟨b,o,eA,hb,cr,nus⟩:=HH.out k c
     subst eA
     replace cr:=keepsC HB cr hb
     replace nus:=nus.keep HB
     by_cases k0:k=0
     · have k0i:((k:Int)==0)=true:=by rw [beq_iff_eq];omega
       have k1:Hid (k=0):=k0
       clear HH nus k0
       go_wp2_with fail
       (go_roundg (N-k-1)
        case measure=>omega
        case rel=>exact⟨k+1,vs,by go_num,by omega,by omega,own,⟨by have:=k1.out;have:=rows.1;omega,fun r hr=>by have:=k1.out;omega⟩,HB⟩)
     · have k0i:((k:Int)==0)=false:=by rw [beq_eq_false_iff_ne];omega
       obtain⟨rb,ro,eR⟩:∃rb ro,RA k=some ⟨rb,ro,none⟩:=by
         obtain⟨rb,ro,e, -⟩:=nus 0 hM0
         exact⟨rb,ro,e⟩
       rw [eR] at cr nus
       clear eR
       go_upto_region 8 with fail
       have h2:Below wr.heap.size wr (wr.alloc (.cells #[] 56)):=by go_grown
       have q0:=ownQ_empty wr
       have nus2:Hid _:=nus
       clear nus cr HH
       generalize wr.alloc (.cells #[] 56)=V1 at *
       go_loopg [10,27] M (fun G s10 s27 wx=>∃i:Nat,s27=.int .i64 (i:Int)∧i≤M∧i+G=M∧OwnQ wr.heap.size wx s10 (cutL (Z k) j i)∧Below wr.heap.size wr wx)
       case atStart=>exact⟨0,rfl,by omega,by omega,q0,h2⟩
       case round =>
         clear q0 h2
         obtain⟨i,rfl,hi,hGi,q,HBi⟩:=hrel
         obtain⟨A10,C10,rfl⟩:=q.form
         by_cases c2:i<M
         · have c2i:(i:Int)<(M:Int):=by omega
           obtain⟨b',o',eA,hb',x0,x1,x2⟩:=Nus.keep nus2.out HBi i c2
           cases eA
           have cl:(cutL (Z k) j i).length≤1000:=by rw [cutL_len];split <;> omega
           clear nus2
           go_upto_region 10 with fail
           have h3:Below wr.heap.size wr (wr.alloc (.cells #[.bool (Z k i).g,.slice (Z k i).a (Z k i).l (Z k i).c,.int .i64 (Z k i).e] 56)):=by go_grown
           have Y:Has3 (wr.alloc (.cells #[.bool (Z k i).g,.slice (Z k i).a (Z k i).l (Z k i).c,.int .i64 (Z k i).e] 56)) wr.heap.size (.bool (Z k i).g) (.slice (Z k i).a (Z k i).l (Z k i).c) (.int .i64 (Z k i).e):=⟨by go_simp,by go_simp,by go_simp,by go_simp,by go_simp,by go_simp,by go_size⟩
           replace q:=q.keep h3
           replace HBi:=later HBi h3
           clear h3 x0 x1 x2
           generalize wr.alloc (.cells #[.bool (Z k i).g,.slice (Z k i).a (Z k i).l (Z k i).c,.int .i64 (Z k i).e] 56)=V2 at *
           by_cases e:i=j
           · have ne:((i:Int) != (j:Int))=false:=by rw [bne_eq_false_iff_eq];omega
             have ce:Hid (cutL (Z k) j (i+1)=cutL (Z k) j i):=by show _=_;rw [e];exact cutL_here _ _
             clear Y
             go_wp2_with fail
             (go_roundg (M-i-1)
              case measure=>omega
              case rel=>exact⟨i+1,by go_num,by omega,by omega,by rw [ce.out];exact q,HBi⟩)
           · have ne:((i:Int) != (j:Int))=true:=by rw [bne_iff_ne];omega
             have cs:=cutL_step (Z k) e
             obtain⟨y0,y1,y2,y3,y4,y5,y6⟩:=id Y
             go_wp2_with (at_builtin;refine wpList_pushQ (by rfl) _ _ (by rfl) _ (cutL (Z k) j i) (Z k i) (by rfl) (by rfl) q (by omega) HBi.size HBi ?_;intro v' w' own' HB2 _ _ _ _)
             rw [←cs] at own'
             (go_roundg (M-i-1)
              case measure=>omega
              case rel=>exact⟨i+1,by go_num,by omega,by omega,own',HB2⟩)
         · have c2i:¬(i:Int)<(M:Int):=by omega
           obtain rfl:i=M:=by omega
           have hvl:vs.length≤1000:=by have:=rows.1;omega
           replace own:=own.keep HBi
           replace rows:=rows.keep HBi
           have sz:=HB.size
           have q2:=q.base sz
           replace HB:=later HB HBi
           clear nus2
           go_wp2_with (at_builtin;refine wpList_pushS (by rfl) _ _ (by rfl) _ vs A10 (cutL (Z k) j i).length C10 (by rfl) (by rfl) own (by omega) HB.size HB ?_;intro v' w' own' HB2 _ _ kp _)
           (go_roundg (N-k-1)
            case measure=>omega
            case rel=>exact⟨k+1,_,by go_num,by omega,by omega,own',rows.push (by omega) kp q2,HB2⟩)
   · have ci:¬(k:Int)<(N:Int):=by omega
     obtain rfl:k=N:=by omega
     clear HH
     go_wp2_with fail
     go_ret
     exact⟨_,vs,rfl,own,rows,HB⟩
theorem index_w (x:Nat) (hx:x<18446744073709551616) (w:World) :
   Calls Tryz.prog 116 #[.float .f64 x] w fun e w'=>e=.returned (.int .i64 (key x))∧w=w':=by
 unfold key
 by_cases h:x<9223372036854775808
 · have h':((x:Int)/9223372036854775808==1)=false:=by simp;omega
   rw [if_pos h]
   have hw:wrap64 (x:Int)=x:=by rw [wrap64];omega
   go_enter Tryz.func116,Tryz.ntmps116
   go_wp2
   all_goals (go_ret;exact⟨rfl,rfl⟩)
 · have h':((x:Int)/9223372036854775808==1)=true:=by simp;omega
   rw [if_neg h]
   go_enter Tryz.func116,Tryz.ntmps116
   go_wp2
   all_goals (go_ret;refine⟨?_,rfl⟩)
   all_goals
     show Ending.returned (Value.int IntKind.i64 _)=_
     congr 2
     omega
theorem at_w (i:Int) (h1:-9223372036854775807≤i) (h2:i≤9223372036854775807) (w:World) :
   Calls Tryz.prog 131 #[.int .i64 i] w fun e w'=>e=.returned (.float .f64 (ofKey i))∧w=w':=by
 unfold ofKey
 by_cases h:i<0
 · rw [if_pos h]
   go_enter Tryz.func131,Tryz.ntmps131
   go_wp2
   all_goals (go_ret;refine⟨?_,rfl⟩)
   all_goals
     show Ending.returned (Value.float FloatKind.f64 _)=_
     congr 2
     omega
 · rw [if_neg h]
   go_enter Tryz.func131,Tryz.ntmps131
   go_wp2
   all_goals (go_ret;exact⟨rfl,rfl⟩)
end Go.Proofs.YtlabmpngbcnhpaaGreat
