/- The program's division of digits by 2 or 5 (rat.divideOut). Regions that draw their order and make a pair of words beside quiet operations. The product of two quotients (rat.times): walked over letters. The sum of two quotients (rat.sum): walked over letters. Products and sums of quotients (rat.times, rat.sum): what they answer is the exact one in its form. -/
import Derived.Test.YtgocelaghggpmaaDoorKa07
import Derived.Test.YtgocelaghggpmaaDoorKa05
import Derived.Deep.Quiet
import Derived.StillTail
namespace Go.Proofs.YtgocelaghggpmaaDoor
open Go.ChangeShapes Go.WideShapes Go.ChangeAt Go.RowKit
def vlN (f:Nat→Nat):Nat→Nat
 | 0=>0
 | k+1=>10*vlN f k+(f k-48)
theorem vlN_congr {f g:Nat→Nat}:∀{k:Nat},(∀j,j<k→f j=g j)→vlN f k=vlN g k
 | 0,_=>rfl
 | k+1,h=>by
   unfold vlN
   rw [vlN_congr (fun j hj=>h j (by omega)),h k (by omega)]
def DgN (f:Nat→Nat) (n:Nat):Prop:=∀j,j<n→48≤f j∧f j≤57
def setN (f:Nat→Nat) (i v:Nat):Nat→Nat:=fun j=>if j=i then v else f j
theorem setN_self (f:Nat→Nat) (i v:Nat):setN f i v i=v:=by unfold setN;rw [if_pos rfl]
theorem setN_ne (f:Nat→Nat) (i v j:Nat) (h:j≠i):setN f i v j=f j:=by unfold setN;rw [if_neg h]
structure DivI (f g:Nat→Nat) (by' n i r:Nat):Prop where
 lt:r<by'
 val:vlN f i=by'*vlN g i+r
 same:∀j,i≤j→g j=f j
 dg:DgN g n
theorem divI_start {f:Nat→Nat} {b n:Nat} (hb:0<b) (h:DgN f n):DivI f f b n 0 0:=⟨hb,by simp [vlN],fun _ _=>rfl,h⟩
theorem divI_step {f g:Nat→Nat} {b n i r:Nat} (hb:0<b) (hi:i<n) (D:DivI f g b n i r) :
   DivI f (setN g i (48+(10*r+(f i-48))/b)) b n (i+1) ((10*r+(f i-48))%b):=by
 have hd:=D.dg i hi
 rw [D.same i (Nat.le_refl _)] at hd
 have hr:=D.lt
 have hq:(10*r+(f i-48))/b<10:=(Nat.div_lt_iff_lt_mul hb).2 (by
   have:10*r+(f i-48)≤10*r+9:=by omega
   have:10*(r+1)≤10*b:=Nat.mul_le_mul_left _ (by omega)
   omega)
 refine⟨Nat.mod_lt _ hb, ?_,fun j hj=>?_,fun j hj=>?_⟩
 · unfold vlN
   rw [setN_self,vlN_congr (f:=setN g i _) (g:=g) (fun j hj=>setN_ne _ _ _ _ (by omega)),D.val]
   have:=Nat.div_add_mod (10*r+(f i-48)) b
   generalize (10*r+(f i-48))/b=q at *
   generalize (10*r+(f i-48))%b=m at *
   rw [show 48+q-48=q by omega]
   generalize vlN g i=v at *
   rw [Nat.mul_add b (10*v) q,Nat.mul_left_comm b 10 v]
   omega
 · rw [setN_ne _ _ _ _ (by omega)]
   exact D.same j (by omega)
 · by_cases e:j=i
   · subst e
     rw [setN_self]
     generalize (10*r+(f j-48))/b=q at *
     omega
   · rw [setN_ne _ _ _ _ e]
     exact D.dg j hj
theorem vlN_last {f:Nat→Nat} {n b:Nat} (hn:0<n) (hb:10%b=0):vlN f n%b=(f (n-1)-48)%b:=by
 obtain⟨k,rfl⟩:∃k,n=k+1:=⟨n-1,by omega⟩
 show (10*vlN f k+(f k-48))%b=_
 rw [Nat.add_mod,Nat.mul_mod,hb,Nat.zero_mul,Nat.zero_mod,Nat.zero_add,Nat.mod_mod]
 rfl
theorem divI_end {f g:Nat→Nat} {b n r:Nat} (hn:0<n) (hb:10%b=0) (hl:(f (n-1)-48)%b=0) (D:DivI f g b n n r):r=0∧vlN f n=b*vlN g n:=by
 have h:=vlN_last (f:=f) hn hb
 rw [hl,D.val,Nat.mul_add_mod,Nat.mod_eq_of_lt D.lt] at h
 exact⟨h,by rw [D.val,h,Nat.add_zero]⟩
structure Byts (w:World) (b n:Nat) (f:Nat→Nat):Prop where
 cell:∀j,j<n→w.cell? ⟨b,j,none⟩=some (.int .u8 (f j:Int))
 free:∀j,j<n→w.frozen? ⟨b,j,none⟩=false
 lt:b<w.heap.size
theorem Byts.set {w:World} {b n:Nat} {f:Nat→Nat} (h:Byts w b n f) (i v:Nat):Byts (w.setCell ⟨b,i,none⟩ (.int .u8 (v:Int))) b n (setN f i v):=by
 refine⟨fun j hj=>?_,fun j hj=>?_, ?_⟩
 · by_cases e:j=i
   · subst e
     have:=h.cell j hj
     have:=h.free j hj
     rw [setN_self]
     go_simp
   · rw [setN_ne _ _ _ _ e]
     have h1:=h.cell j hj
     have h2:i≠j:=fun q=>e q.symm
     go_simp
 · have:=h.free j hj
   go_simp
 · simp only [World.size_setCell];exact h.lt
structure ButB (b:Nat) (w w':World):Prop where
 os:w'.os=w.os
 tape:w'.tape=w.tape
 output:w'.output=w.output
 size:w.heap.size≤w'.heap.size
 block:∀k,k<w.heap.size→k≠b→w'.heap[k]?=w.heap[k]?
theorem ButB.refl (b:Nat) (w:World):ButB b w w:=⟨rfl,rfl,rfl,Nat.le_refl _,fun _ _ _=>rfl⟩
theorem ButB.set {b:Nat} {w w':World} (h:ButB b w w') (o:Nat) (v:Value):ButB b w (w'.setCell ⟨b,o,none⟩ v):=by
 have k:=(Below.refl b w').setCell (p:=⟨b,o,none⟩) (Nat.le_refl _) v
 refine⟨k.os.trans h.os,k.tape.trans h.tape,k.output.trans h.output,by simp only [World.size_setCell];exact h.size,fun i hi hne=>?_⟩
 rw [←h.block i hi hne]
 exact Below.heap_setCell _ _ _ _ hne
structure OutN (f g:Nat→Nat) (b n:Nat) (k m:Int):Prop where
 le:m≤k
 lo:0≤m∨m=k
 val:vlN f n=b^(k-m).toNat*vlN g n
 dg:DgN g n
theorem outN_step {f g h:Nat→Nat} {b n:Nat} {k m:Int} (O:OutN f g b n k m) (hm:0<m) (e:vlN g n=b*vlN h n) (dg:DgN h n):OutN f h b n k (m-1):=by
 refine⟨by have:=O.le;omega,Or.inl (by omega), ?_,dg⟩
 rw [O.val,e,show (k-(m-1)).toNat=(k-m).toNat+1 by have:=O.le;omega,Nat.pow_succ,Nat.mul_assoc]
set_option maxHeartbeats 8000000 in
theorem divideOut_w (bl N cap b:Nat) (k:Int) (f:Nat→Nat) (hb:b=2∨b=5) (hk:k≤100000) (hk0:-100000≤k) (hN:N≤1000) (w:World) (B:Byts w bl (N+1) f) (D:DgN f (N+1)) :
   Calls Tryd.prog 48 #[.slice (some ⟨bl,0,none⟩) (N+1) cap,.int .u8 (b:Int),.int .i64 k] w fun r w'=>∃(m:Int) (g:Nat→Nat),r=.returned (.int .i64 m)∧ButB bl w w'∧Byts w' bl (N+1) g∧OutN f g b (N+1) k m∧(m≤0∨vlN g (N+1)%b≠0):=by
 have hb0:0<b:=by omega
 have hb5:b≤5:=by omega
 have hb10:Hid (10%b=0):=by rcases hb with e | e <;> subst e <;> rfl
 have O0:OutN f f b (N+1) k k:=⟨Int.le_refl _,Or.inr rfl,by rw [Int.sub_self];simp,D⟩
 have bz:¬(b:Int)=0:=by omega
 clear hb D
 go_enter Tryd.func48,Tryd.ntmps48
 go_upto_region 1 with fail
 go_loopg [2] k.toNat (fun G s2 wx=>∃(m:Int) (g:Nat→Nat),s2=.int .i64 m∧m.toNat≤G∧ButB bl w wx∧Byts wx bl (N+1) g∧Hid (OutN f g b (N+1) k m))
 case atStart=>exact⟨k,f,rfl,Nat.le_refl _,ButB.refl _ _,B,O0⟩
 case round =>
   clear B O0
   obtain⟨m,g,rfl,hG,HB,B,HO⟩:=hrel
   have mk:=HO.out.le
   by_cases cm:0<m
   · have hc:=B.cell N (by omega)
     have hd:=HO.out.dg N (by omega)
     obtain⟨x,hx⟩:∃x,Hid (x=g N-48):=⟨_,rfl⟩
     have f1:IntKind.u8.wrap ((g N:Int)-48)=(x:Int):=by have:=hx.out;rw [IntKind.wrap_u8];omega
     have f2:=rem_u64 x b
     have f3:(x:Int)%(b:Int)=((x%b:Nat):Int):=by omega
     have f4:(g N:Int)-48=(x:Int):=by have:=hx.out;omega
     have f5:(x:Int)≤9:=by omega
     by_cases cx:x%b=0
     · rw [cx] at f2 f3
       have CX:Hid (x%b=0):=cx
       clear cx
       go_upto_region 4 with fail
       clear hc f1 f2 f3 f4 f5
       go_loopg [7,27] (N+1) (fun G s7 s27 wx=>∃(i r:Nat) (h:Nat→Nat),s27=.int .i64 (i:Int)∧s7=.int .u8 (r:Int)∧i+G=N+1∧r<b∧ButB bl w wx∧Byts wx bl (N+1) h∧Hid (DivI g h b (N+1) i r))
       case atStart=>exact⟨0,0,g,rfl,rfl,by omega,hb0,HB,B,divI_start hb0 HO.out.dg⟩
       case round =>
         clear B HB
         obtain⟨i,r,h,rfl,rfl,hiG,hr,HB,B,HD⟩:=hrel
         by_cases ci:i<N+1
         · have hc:=B.cell i ci
           have hfz:=B.free i ci
           have hdi:=HD.out.dg i ci
           have hsame:=HD.out.same i (Nat.le_refl _)
           have HD2:Hid _:=divI_step hb0 ci HD.out
           have B2:=fun v=>B.set i v
           have HB2:=fun v=>HB.set i v
           rw [←hsame] at HD2
           clear hsame HD
           generalize h i=d at *
           obtain⟨y,hy⟩:∃y,Hid (10*r+(d-48)=y):=⟨_,rfl⟩
           rw [hy.out] at HD2
           have hy1:y≤49:=by have:=hy.out;omega
           have hq1:y/b≤49:=Nat.le_trans (Nat.div_le_self _ _) hy1
           have g1:(10:Int)*r+d-48=(y:Int):=by have:=hy.out;omega
           have g2:=rem_u64 y b
           have g3:=quo_u64 y b
           generalize y/b=q at *
           generalize y%b=z at *
           have hci:(i:Int)<(N:Int)+1:=by omega
           clear hy ci
           go_wp2_with fail
           have B3:=B2 (48+q)
           have HB3:=HB2 (.int .u8 (48+(q:Int)))
           rw [show ((48+q:Nat):Int)=48+(q:Int) by omega] at B3
           go_roundg (gk-1)
           case measure=>omega
           case rel=>exact⟨i+1,z,_,by go_num,rfl,by omega,HD2.out.lt,HB3,B3,HD2⟩
         · have e:i=N+1:=by omega
           subst e
           have hE:=divI_end (by omega) hb10.out (by have:=CX.out;rw [hx.out] at this;exact this) HD.out
           have HO2:Hid _:=outN_step HO.out cm hE.2 HD.out.dg
           clear hE HD
           have hci:¬(N:Int)+1<(N:Int)+1:=by omega
           go_wp2_with fail
           go_roundg (m-1).toNat
           case measure=>omega
           case rel=>exact⟨m-1,h,by go_num,by omega,HB,B,HO2⟩
     · have hz:¬((x%b:Nat):Int)=0:=by omega
       have HV:Hid (vlN g (N+1)%b≠0):=by
         show _≠_
         rw [vlN_last (by omega) hb10.out]
         have:=hx.out
         show (g N-48)%b≠0
         rw [←this]
         exact cx
       have hz2:(((x%b:Nat):Int)==0)=false:=by simpa using hz
       generalize x%b=z at *
       go_wp2_with fail
       all_goals
         go_ret
         exact⟨m,g,rfl,HB,B,HO.out,Or.inr HV.out⟩
   · have cm':¬m>0:=by omega
     go_wp2_with fail
     all_goals
       go_ret
       first | exact⟨m,g,rfl,HB,B,HO.out,Or.inl (by omega)⟩ | exact⟨m,rfl,HB,g,B,HO.out,Or.inl (by omega)⟩ | exact⟨m,rfl,HB,g,B,HO.out⟩
theorem grewW (w:World) (o:Obj):Below w.heap.size w (w.alloc o):=by go_grown
theorem ofV_low {g:Bool} {n d G:Nat} (hG:0<G) (hd:0<d) (h:Nat.gcd n d=1):ofV g (n*G) (d*G)=if n<9223372036854775808∧d<9223372036854775808 then (sgnd g n,(d:Int),0) else (0,0,3):=by
 have e63:(2:Nat)^63=9223372036854775808:=by decide
 unfold ofV
 by_cases c:n=0
 · subst c
   rw [Nat.gcd_zero_left] at h
   subst h
   rw [Nat.zero_mul,if_pos rfl,if_pos ⟨by decide,by decide⟩]
   cases g <;> rfl
 · rw [if_neg (Nat.mul_ne_zero c (by omega)),Nat.gcd_mul_right,h,Nat.one_mul,Nat.mul_div_cancel _ hG,Nat.mul_div_cancel _ hG]
   by_cases b:n<9223372036854775808∧d<9223372036854775808
   · rw [if_pos b,if_pos ⟨bitsN_le (by rw [e63];exact b.1),bitsN_le (by rw [e63];exact b.2)⟩]
   · rw [if_neg b,if_neg fun q=>b ⟨by rw [←e63];exact bitsN_lt q.1,by rw [←e63];exact bitsN_lt q.2⟩]
theorem mdV_is {g:Bool} {nh nl dh dl n d:Nat} (S1:Sg nh nl (n:Int)) (S2:Sg dh dl (d:Int)) (h1:n<340282366920938463463374607431768211456) (h2:d<340282366920938463463374607431768211456):mdV g nh nl dh dl=if n<9223372036854775808∧d<9223372036854775808 then (sgnd g n,(d:Int),0) else (0,0,3):=by
 obtain⟨r1,r2⟩:=sg_room S1 h1
 obtain⟨r3,r4⟩:=sg_room S2 h2
 unfold mdV
 rw [r1,r3]
 by_cases c:n<9223372036854775808∧d<9223372036854775808
 · rw [if_pos c,decide_eq_true c.1,decide_eq_true c.2,if_pos (by rfl),(r2 c.1).2,(r4 c.2).2]
 · rw [if_neg c,if_neg]
   intro q
   rw [Bool.and_eq_true,decide_eq_true_eq,decide_eq_true_eq] at q
   exact c q
end Go.Proofs.YtgocelaghggpmaaDoor
