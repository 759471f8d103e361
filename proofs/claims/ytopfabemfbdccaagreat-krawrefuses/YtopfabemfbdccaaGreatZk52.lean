/- KrawRefuses: the law's walk. -/
import Derived.Test.YtopfabemfbdccaaGreatZk51
import Derived.Test.YtopfabemfbdccaaGreatZk16
import Derived.Deep.AppendLies
import Derived.Deep.RegionLaw
namespace Go.Proofs.YtopfabemfbdccaaGreat
open Go.ChangeShapes Go.WideShapes Go.ChangeAt Go.RowKit
theorem step_appI {B:Nat} {w:World} {ops:Array Oper} {o:Oper} {a:Act} {K:Act->World->Prop} {Q:Exit->Act->World->Prop} {E:Prop} (hgd:o.guard=none) (s x:Operand)
  (ho:o.op=.call { callee:=.builtin .append,args:=#[s,x],argTypes:=#[46,46] }) (v:Value) (xs:List (Nat×Nat)) (X0:Option Addr) (m D:Nat) (Y:Nat->Nat×Nat) (hs:a.eval s=v) (hx:a.eval x=.slice X0 m D)
  (hown:OwnI B w v xs) (VY:Ivs w X0 m Y) (hl:xs.length+m<=1000) (hB:B<=w.heap.size)
  (h:∀v' w',OwnI B w' v' (xs++(List.range m).map Y)->Below B w w'->w.heap.size<=w'.heap.size->K (a.put o.dst v') w') :
  if Region.wanted o (yielded ops a.tmps)=true then Oper.wp Tryz.prog o a w K Q else E:=by
 obtain⟨i0,hi,hz0,hz1,hz2⟩:=info_parts Tryz.infoIval
 by_cases m0:m=0
 ·subst m0
  have hf:∃b l c,v=.slice b l c/\l<=c:=by
   rcases hown.2 with ⟨rfl, -⟩ | ⟨g,cap,cur,rfl, -, -,hc, -⟩
   ·exact⟨none,0,0,rfl,Nat.le_refl _⟩
   ·exact⟨_,_,_,rfl,hc⟩
  obtain⟨b,l,c,rfl,hc⟩:=hf
  have hr:=fun ty=>run_append_none (P:=Tryz.prog) 46 ty 24 i0 Tryz.underlying46 hi b l c hc X0 D w
  rw [if_pos (by simp [Region.wanted,hgd])]
  unfold Oper.wp
  simp [execOp,ho,resolve,invoke,builtin,hs,hx,hr,Result.andThen]
  exact h _ _ (by simpa using hown) (Below.refl _ _) (Nat.le_refl _)
 ·obtain⟨b,o',rfl, -⟩:=VY 0 (by omega)
  have hlen:(ivCells ((List.range m).map Y)).length=m*2:=by rw [ivCells_len,List.length_map,List.length_range]
  refine step_append_lies w hgd s x 46 ho B 24 i0 (.agg #[.float .f64 0,.float .f64 0]) 2 16 Tryz.underlying46 hi hz0 hz1 hz2 rfl (by decide) v xs.length (ivCells xs) hs hown ⟨b,o',none⟩ m D (ivCells ((List.range m).map Y)) hx hlen (ivCells_cells VY) (ivCells_one _) (by omega) (by unfold maxLen;omega) (by omega) hB w.heap.size rfl ?_
  intro g cap w' h1 h2 _ _
  refine h _ w' ?_ ((Below.refl B w).grown h2 hB (fun k hk=>(World.ownsRow.lt hown k hk).1)) h2.size
  unfold OwnI
  have e:ivCells (xs++(List.range m).map Y)=ivCells xs++ivCells ((List.range m).map Y):=by simp [ivCells]
  rw [e,List.length_append,List.length_map,List.length_range]
  exact h1
theorem cat_img {B:Nat} {w:World} {u:Value} {n m:Nat} {X Y:Nat->Nat×Nat} (h:OwnI B w u ((List.range n).map X++(List.range m).map Y)) (n1:1<=n) (hX:∀i,i<n->W2 (X i)) (hY:∀i,i<m->W2 (Y i)):∃g C,u=.slice (some ⟨g,0,none⟩) (n+m) C/\Ivs w (some ⟨g,0,none⟩) (n+m) (catI n X Y):=by
 have hlen:((List.range n).map X++(List.range m).map Y).length=n+m:=by rw [List.length_append,List.length_map,List.length_map,List.length_range,List.length_range]
 obtain⟨g,C',ev,hI, -⟩:=ownI_img h (by rw [hlen];omega)
 rw [hlen] at ev hI
 refine⟨g,C',ev,(hI.congr fun i hi=>?_).ivs fun i hi=>?_⟩
 ·unfold catI
  by_cases c:i<n
  ·rw [if_pos c];simp [List.getD,List.getElem?_append,c]
  ·have hm:i-n<m:=by omega
   rw [if_neg c];simp [List.getD,List.getElem?_append,c,hm]
 ·unfold catI
  split
  ·exact hX i (by assumption)
  ·exact hY _ (by omega)
set_option maxHeartbeats 2000000 in
theorem kl_long (v:Int) (A:Option Addr) (n C:Nat) (D:Option Addr) (m E:Nat) (AX:Option Addr) (nx CX:Nat) (AP:Option Addr) (np CP:Nat) (h:(n:Int)>200\/((nx:Int)>10/\(nx:Int)<=24)) (w:World):Calls Tryz.prog 4 #[tapeV v A n C D m E,.slice AX nx CX,.slice AP np CP] w fun e w'=>e=.returned (.bool true)/\Below w.heap.size w w':=by
 have T:=hasT_new w v A n C D m E
 have HB:Below w.heap.size w (w.alloc (.cells #[.int .i64 v,.slice A n C,.slice D m E] 45)):=by go_grown
 unfold tapeV at *
 by_cases q1:(n:Int)>200
 ·go_enter Tryz.func4,Tryz.ntmps4
  go_upto_region 1 with fail
  generalize (w.alloc (.cells #[.int .i64 v,.slice A n C,.slice D m E] 45))=V1 at *
  obtain⟨t0,t1,t2,tl⟩:=id T
  go_wp2_with fail
  go_ret
  exact⟨rfl,HB⟩
 ·obtain⟨q2,q3⟩:(nx:Int)>10/\(nx:Int)<=24:=by omega
  go_enter Tryz.func4,Tryz.ntmps4
  go_upto_region 1 with fail
  generalize (w.alloc (.cells #[.int .i64 v,.slice A n C,.slice D m E] 45))=V1 at *
  obtain⟨t0,t1,t2,tl⟩:=id T
  go_wp2_with fail
  go_ret
  exact⟨rfl,HB⟩
set_option maxHeartbeats 4000000 in
theorem kl_tape (v:Int) (A:Option Addr) (n C:Nat) (D:Option Addr) (m E:Nat) (AX:Option Addr) (nx CX:Nat) (AP:Option Addr) (np CP:Nat) (h:¬(n:Int)>200) (h2:(nx:Int)>10->¬(nx:Int)<=24) (w:World) (cS:∀W,Below w.heap.size w W->Calls Tryz.prog 26 #[tapeV v A n C D m E,.slice AX nx CX,.slice AP np CP] W fun e w'=>e=.returned (.tuple #[.slice none 0 0,.int .i64 50])/\Below W.heap.size W w') (cR:∀W,Below w.heap.size w W->Calls Tryz.prog 27 #[tapeV v A n C D m E] W fun e w'=>e=.returned (.bool false)/\Below W.heap.size W w'):Calls Tryz.prog 4 #[tapeV v A n C D m E,.slice AX nx CX,.slice AP np CP] w fun e w'=>e=.returned (.bool true)/\Below w.heap.size w w':=by
 have T:=hasT_new w v A n C D m E
 have HB:Below w.heap.size w (w.alloc (.cells #[.int .i64 v,.slice A n C,.slice D m E] 45)):=by go_grown
 unfold tapeV at *
 by_cases q1:(nx:Int)>10
 ·have q2:=h2 q1
  clear h2
  go_enter Tryz.func4,Tryz.ntmps4
  go_upto_region 1 with fail
  generalize (w.alloc (.cells #[.int .i64 v,.slice A n C,.slice D m E] 45))=V1 at *
  obtain⟨t0,t1,t2,tl⟩:=id T
  go_wp2_with (first
   | (go_at_call 26;(with_reducible refine (cS _ HB).mono ?_);rintro _ W1 ⟨rfl,hb1⟩;replace HB:=later HB hb1;replace T:=T.keep hb1;clear t0 t1 t2 tl hb1;obtain⟨t0,t1,t2,tl⟩:=id T)
   | (go_at_call 27;(with_reducible refine (cR _ HB).mono ?_);rintro _ W2 ⟨rfl,hb1⟩;replace HB:=later HB hb1;replace T:=T.keep hb1;clear t0 t1 t2 tl hb1;obtain⟨t0,t1,t2,tl⟩:=id T))
  go_ret
  exact⟨rfl,HB⟩
 ·clear h2
  go_enter Tryz.func4,Tryz.ntmps4
  go_upto_region 1 with fail
  generalize (w.alloc (.cells #[.int .i64 v,.slice A n C,.slice D m E] 45))=V1 at *
  obtain⟨t0,t1,t2,tl⟩:=id T
  go_wp2_with (first
   | (go_at_call 26;(with_reducible refine (cS _ HB).mono ?_);rintro _ W1 ⟨rfl,hb1⟩;replace HB:=later HB hb1;replace T:=T.keep hb1;clear t0 t1 t2 tl hb1;obtain⟨t0,t1,t2,tl⟩:=id T)
   | (go_at_call 27;(with_reducible refine (cR _ HB).mono ?_);rintro _ W2 ⟨rfl,hb1⟩;replace HB:=later HB hb1;replace T:=T.keep hb1;clear t0 t1 t2 tl hb1;obtain⟨t0,t1,t2,tl⟩:=id T))
  go_ret
  exact⟨rfl,HB⟩
set_option maxHeartbeats 4000000 in
theorem kl_may (v:Int) (A:Option Addr) (n C:Nat) (D:Option Addr) (m E:Nat) (AX:Option Addr) (nx CX:Nat) (AP:Option Addr) (np CP:Nat) (h:¬(n:Int)>200) (h2:(nx:Int)>10->¬(nx:Int)<=24) (w:World) (cS:∀W,Below w.heap.size w W->Calls Tryz.prog 26 #[tapeV v A n C D m E,.slice AX nx CX,.slice AP np CP] W fun e w'=>e=.returned (.tuple #[.slice none 0 0,.int .i64 1])/\Below W.heap.size W w') (cR:∀W,Below w.heap.size w W->Calls Tryz.prog 27 #[tapeV v A n C D m E] W fun e w'=>e=.returned (.bool true)/\Below W.heap.size W w') (cM:∀W,Below w.heap.size w W->Calls Tryz.prog 28 #[tapeV v A n C D m E,.slice AX nx CX,.slice AP np CP] W fun e w'=>e=.returned (.bool false)/\Below W.heap.size W w'):Calls Tryz.prog 4 #[tapeV v A n C D m E,.slice AX nx CX,.slice AP np CP] w fun e w'=>e=.returned (.bool true)/\Below w.heap.size w w':=by
 have T:=hasT_new w v A n C D m E
 have HB:Below w.heap.size w (w.alloc (.cells #[.int .i64 v,.slice A n C,.slice D m E] 45)):=by go_grown
 unfold tapeV at *
 by_cases q1:(nx:Int)>10
 ·have q2:=h2 q1
  clear h2
  go_enter Tryz.func4,Tryz.ntmps4
  go_upto_region 1 with fail
  generalize (w.alloc (.cells #[.int .i64 v,.slice A n C,.slice D m E] 45))=V1 at *
  obtain⟨t0,t1,t2,tl⟩:=id T
  go_wp2_with (first
   | (go_at_call 26;(with_reducible refine (cS _ HB).mono ?_);rintro _ W1 ⟨rfl,hb1⟩;replace HB:=later HB hb1;replace T:=T.keep hb1;clear t0 t1 t2 tl hb1;obtain⟨t0,t1,t2,tl⟩:=id T)
   | (go_at_call 27;(with_reducible refine (cR _ HB).mono ?_);rintro _ W2 ⟨rfl,hb1⟩;replace HB:=later HB hb1;replace T:=T.keep hb1;clear t0 t1 t2 tl hb1;obtain⟨t0,t1,t2,tl⟩:=id T)
   | (go_at_call 28;(with_reducible refine (cM _ HB).mono ?_);rintro _ W3 ⟨rfl,hb1⟩;replace HB:=later HB hb1;replace T:=T.keep hb1;clear t0 t1 t2 tl hb1;obtain⟨t0,t1,t2,tl⟩:=id T))
  go_ret
  exact⟨rfl,HB⟩
 ·clear h2
  go_enter Tryz.func4,Tryz.ntmps4
  go_upto_region 1 with fail
  generalize (w.alloc (.cells #[.int .i64 v,.slice A n C,.slice D m E] 45))=V1 at *
  obtain⟨t0,t1,t2,tl⟩:=id T
  go_wp2_with (first
   | (go_at_call 26;(with_reducible refine (cS _ HB).mono ?_);rintro _ W1 ⟨rfl,hb1⟩;replace HB:=later HB hb1;replace T:=T.keep hb1;clear t0 t1 t2 tl hb1;obtain⟨t0,t1,t2,tl⟩:=id T)
   | (go_at_call 27;(with_reducible refine (cR _ HB).mono ?_);rintro _ W2 ⟨rfl,hb1⟩;replace HB:=later HB hb1;replace T:=T.keep hb1;clear t0 t1 t2 tl hb1;obtain⟨t0,t1,t2,tl⟩:=id T)
   | (go_at_call 28;(with_reducible refine (cM _ HB).mono ?_);rintro _ W3 ⟨rfl,hb1⟩;replace HB:=later HB hb1;replace T:=T.keep hb1;clear t0 t1 t2 tl hb1;obtain⟨t0,t1,t2,tl⟩:=id T))
  go_ret
  exact⟨rfl,HB⟩
def BothAns (w:World) (nx:Nat) (X:Nat->Nat×Nat) (vz:Value) (er f:Int):Prop :=
 (f≠0/\er=f/\vz=.slice none 0 0)\/(f=0/\(er=70\/er=71)/\vz=.slice none 0 0)\/(f=0/\er=0/\∃A C Z,vz=.slice A nx C/\Ivs w A nx Z/\Kept nx X Z)
theorem BothAns.keep {w w2:World} {nx:Nat} {X:Nat->Nat×Nat} {vz:Value} {er f:Int} (h:BothAns w nx X vz er f) (hb:Below w.heap.size w w2):BothAns w2 nx X vz er f:=by
 rcases h with h | h | ⟨a,b,A,C,Z,e,V,K⟩
 ·exact Or.inl h
 ·exact Or.inr (Or.inl h)
 ·exact Or.inr (Or.inr ⟨a,b,A,C,Z,e,V.keep hb,K⟩)
set_option maxRecDepth 8000 in
set_option maxHeartbeats 16000000 in
theorem kl_good (v:Int) (A:Option Addr) (n C:Nat) (D:Option Addr) (m E:Nat) (AX:Option Addr) (nx CX:Nat) (AP:Option Addr) (np CP:Nat) (X P:Nat->Nat×Nat) (h:¬(n:Int)>200) (h2:¬(nx:Int)>10) (n1:1<=nx) (hp:np<=64) (hX:∀i,i<nx->hsB (X i).1 (X i).2=true) (w:World) (VX:Ivs w AX nx X) (VP:Ivs w AP np P) (ff:Int)
  (cS:∀W,Below w.heap.size w W->Calls Tryz.prog 26 #[tapeV v A n C D m E,.slice AX nx CX,.slice AP np CP] W fun e w'=>(∃vz er,e=.returned (.tuple #[vz,.int .i64 er])/\BothAns w' nx X vz er ff)/\Below W.heap.size W w')
  (cR:∀W,Below w.heap.size w W->Calls Tryz.prog 27 #[tapeV v A n C D m E] W fun e w'=>e=.returned (.bool true)/\Below W.heap.size W w') (cM:∀W,Below w.heap.size w W->Calls Tryz.prog 28 #[tapeV v A n C D m E,.slice AX nx CX,.slice AP np CP] W fun e w'=>e=.returned (.bool true)/\Below W.heap.size W w')
  (cG:∀W g C',Below w.heap.size w W->Ivs W (some ⟨g,0,none⟩) (nx+np) (catI nx X P)->Calls Tryz.prog 29 #[tapeV v A n C D m E,.slice (some ⟨g,0,none⟩) (nx+np) C'] W fun e w'=>(∃vb vd,e=.returned (.tuple #[vb,vd,.int .i64 ff]))/\Below W.heap.size W w'):Calls Tryz.prog 4 #[tapeV v A n C D m E,.slice AX nx CX,.slice AP np CP] w fun e w'=>e=.returned (.bool true)/\Below w.heap.size w w':=by
 have T:=hasT_new w v A n C D m E
 have HB:Below w.heap.size w (w.alloc (.cells #[.int .i64 v,.slice A n C,.slice D m E] 45)):=by go_grown
 unfold tapeV at *
 have wX:=ivs_words VX
 have wP:=ivs_words VP
 obtain⟨b,o,rfl⟩:=ivs_some VX n1
 go_enter Tryz.func4,Tryz.ntmps4
 go_upto_region 1 with fail
 generalize (w.alloc (.cells #[.int .i64 v,.slice A n C,.slice D m E] 45))=V1 at *
 obtain⟨t0,t1,t2,tl⟩:=id T
 go_upto_region 4 with (go_at_call 26;(with_reducible refine (cS _ HB).mono ?_);rintro _ W1 ⟨⟨vz,er,rfl,hA⟩,hb1⟩;replace HB:=later HB hb1;replace T:=T.keep hb1;clear t0 t1 t2 tl hb1;obtain⟨t0,t1,t2,tl⟩:=id T)
 go_upto_region 8 with (first
  | (go_at_call 27;(with_reducible refine (cR _ HB).mono ?_);rintro _ W2 ⟨rfl,hb1⟩;replace hA:=hA.keep hb1;replace HB:=later HB hb1;replace T:=T.keep hb1;clear t0 t1 t2 tl hb1;obtain⟨t0,t1,t2,tl⟩:=id T)
  | (go_at_call 28;(with_reducible refine (cM _ HB).mono ?_);rintro _ W3 ⟨rfl,hb1⟩;replace hA:=hA.keep hb1;replace HB:=later HB hb1;replace T:=T.keep hb1;clear t0 t1 t2 tl hb1;obtain⟨t0,t1,t2,tl⟩:=id T))
 clear cS cR cM
 have hsz:=HB.size
 go_cut [9,10,11] from 56 to 66 (fun s9 s10 s11 wx=>s11=.int .i64 ff/\Below W3.heap.size W3 wx)
 case first =>
  have hE:OwnI W3.heap.size (W3.alloc (.cells #[] 24)).drew (.slice (some ⟨W3.heap.size,0,none⟩) 0 0) []:=ownI_empty W3
  have hb0:Below W3.heap.size W3 (W3.alloc (.cells #[] 24)).drew:=by go_grown
  go_region_law
   (first
    | (refine step_appI (B:=W3.heap.size) (by rfl) (.tmp 58) (.tmp 59) (by rfl) _ [] (some ⟨b,o,none⟩) nx CX X (by rfl) (by rfl) hE ((VX.keep HB).keep hb0) (by simp;omega) hb0.size ?_;intro va Wa oa ba _;simp only [List.nil_append] at oa;have hbA:=hb0.trans ba;have Ta:=T.keep hbA;obtain⟨a0,a1,a2,al⟩:=id Ta)
    | (refine step_appI (B:=W3.heap.size) (by rfl) (.tmp 60) (.tmp 61) (by rfl) _ ((List.range nx).map X) AP np CP P (by rfl) (by rfl) oa ((VP.keep HB).keep hbA) (by simp;omega) hbA.size ?_;intro vq Wb ob bb _;have hbB:=hbA.trans bb;have Tb:=T.keep hbB;obtain⟨e0,e1,e2,el⟩:=id Tb;obtain⟨g,C',rfl,VI⟩:=cat_img ob n1 wX wP)
    | (go_simp;go_at_call 29;(with_reducible refine (cG _ g C' (later HB hbB) VI).mono ?_);rintro _ Wc ⟨⟨vb',vd',rfl⟩,hb1⟩))
  all_goals
   go_wp2_with fail
   go_meet
   exact⟨rfl,later hbB hb1⟩
 case rest =>
  obtain⟨rfl,HC⟩:=hcut
  replace hA:=hA.keep HC
  replace HB:=later HB HC
  clear cG HC T t0 t1 t2 tl hsz
  rcases hA with ⟨hf,rfl,rfl⟩ | ⟨rfl,he,rfl⟩ | ⟨rfl,rfl,A',C',Z,rfl,VZ,KZ⟩
  ·have hne:(er != 0)=true:=by simp [hf]
   go_wp2_with fail
   go_ret
   exact⟨rfl,HB⟩
  ·rcases he with rfl | rfl
   all_goals
    go_wp2_with fail
    go_ret
    exact⟨rfl,HB⟩
  ·obtain⟨b2,o2,rfl⟩:=ivs_some VZ n1
   go_wp2_with fail
   obtain⟨w1,rfl⟩:∃w1,w1=wc:=⟨_,rfl⟩
   go_loopg [92] nx (fun G s92 wx=>Below w1.heap.size w1 wx/\∃i:Nat,i+G=nx/\s92=.int .i64 (i:Int))
   case atStart=>exact⟨Below.refl _ _,0,by omega,rfl⟩
   case round =>
    obtain⟨H1,i,hi,rfl⟩:=hrel
    by_cases ci:i=nx
    ·subst ci
     go_wp2_with fail
     go_ret
     exact⟨rfl,later HB H1⟩
    ·have hlt:(i:Int)<(nx:Int):=by omega
     obtain⟨bz,oz,hZ,hbz,z0,z1,l0,l1⟩:=(VZ.keep H1) i (by omega)
     obtain⟨bx,ox,hXa,hbx,x0,x1,m0,m1⟩:=((VX.keep HB).keep H1) i (by omega)
     simp only [Option.some.injEq,Addr.mk.injEq,and_true] at hZ hXa
     obtain⟨rfl,rfl⟩:=hZ
     obtain⟨rfl,rfl⟩:=hXa
     have c1:=fun w=>none_w (Z i).1 (Z i).2 l0 l1 w
     have c2:=fun w=>rinside_w (Z i).1 (Z i).2 (X i).1 (X i).2 l0 l1 m0 m1 w
     obtain⟨k1,k2,k3⟩:=KZ i (by omega)
     rw [hs_iff.2 k1,Bool.not_true] at c1
     rw [inside_iff.2 fun _=>⟨hs_iff.1 (hX i (by omega)),k2,k3⟩] at c2
     go_upto_region 16 with fail
     have y0:=fun n:Behind wr=>n.cell z0 hbz
     have y1:=fun n:Behind wr=>n.cell z1 hbz
     have y2:=fun n:Behind wr=>n.cell x0 hbx
     have y3:=fun n:Behind wr=>n.cell x1 hbx
     refine region_behind (by kernel_rfl) (by kernel_rfl) ?_
     repeat (go_big_quiet_step (first | (go_at_call 30;with_reducible refine Behind.call (c1 _)) | (go_at_call 31;with_reducible refine Behind.call (c2 _))))
     refine wpQuiet_nil ?_
     rintro _ ⟨q,rfl⟩
     obtain⟨W,hb1⟩:=q
     dsimp only
     clear y0 y1 y2 y3 x0 x1 z0 z1 c1 c2
     replace H1:=later H1 hb1
     clear hb1
     go_wp2_with fail
     go_roundg (nx-i-1)
     case measure=>omega
     case rel=>exact⟨H1,i+1,by omega,by go_num⟩
theorem krawRefuses_all (v:Int) (A:Option Addr) (n C:Nat) (D:Option Addr) (m E:Nat) (O:Nat->Opw) (Y:Nat->Int) (AX:Option Addr) (nx CX:Nat) (X:Nat->Nat×Nat) (AP:Option Addr) (np CP:Nat) (P:Nat->Nat×Nat) (hn:n<=9223372036854775807) (hm:m<=9223372036854775807) (hx:nx<=9223372036854775807) (hp:np<=9223372036854775807) (w:World) (VO:Ops w A n O) (VY:Ins w D m Y) (VX:Ivs w AX nx X) (VP:Ivs w AP np P):Calls Tryz.prog 4 #[tapeV v A n C D m E,.slice AX nx CX,.slice AP np CP] w fun e w'=>e=.returned (.bool true)/\Below w.heap.size w w':=by
 by_cases h:(n:Int)>200\/((nx:Int)>10/\(nx:Int)<=24)
 ·exact kl_long v A n C D m E AX nx CX AP np CP h w
 have h1:¬(n:Int)>200:=fun q=>h (Or.inl q)
 have h2:(nx:Int)>10->¬(nx:Int)<=24:=fun q r=>h (Or.inr ⟨q,r⟩)
 have cS:=fun W (q:Below w.heap.size w W)=>solve_w v A n C D m E O Y AX nx CX X AP np CP P hn hm hx hp W (VO.keep q) (VY.keep q) (VX.keep q) (VP.keep q)
 have cR:=fun W (q:Below w.heap.size w W)=>rright_t v A n C D m E O Y W (VO.keep q) (VY.keep q)
 have cM:=fun W (q:Below w.heap.size w W)=>lmay_w v A n C D m E AX nx CX X AP np CP P hx hp W (VX.keep q) (VP.keep q)
 have c0:rightT v n O m Y=false\/rightT v n O m Y=true:=by cases rightT v n O m Y <;> simp
 rcases c0 with hr | hr
 ·rw [hr] at cR
  refine kl_tape v A n C D m E AX nx CX AP np CP h1 h2 w (fun W q=>(cS W q).mono ?_) cR
  rintro e w' ⟨⟨vz,er,rfl,hA⟩,hb⟩
  refine⟨?_,hb⟩
  rcases hA with ⟨-,rfl,rfl⟩ | ⟨e, -⟩ | ⟨e, -⟩ | ⟨e, -⟩
  ·rfl
  ·rw [hr] at e;cases e
  ·rw [hr] at e;cases e
  ·rw [hr] at e;cases e
 ·rw [hr] at cR
  have c1:mayQ v m nx X np P=false\/mayQ v m nx X np P=true:=by cases mayQ v m nx X np P <;> simp
  rcases c1 with hq | hq
  ·rw [hq] at cM
   refine kl_may v A n C D m E AX nx CX AP np CP h1 h2 w (fun W q=>(cS W q).mono ?_) cR cM
   rintro e w' ⟨⟨vz,er,rfl,hA⟩,hb⟩
   refine⟨?_,hb⟩
   rcases hA with ⟨e, -⟩ | ⟨-, -,rfl,rfl⟩ | ⟨-,e, -⟩ | ⟨-,e, -⟩
   ·rw [hr] at e;cases e
   ·rfl
   ·rw [hq] at e;cases e
   ·rw [hq] at e;cases e
  ·rw [hq] at cM
   have hra:=right_all hr
   obtain⟨x1,x2,rfl,hv,bx,bp⟩:=mayQ_is hq ⟨hra.1.1,hra.1.2.1⟩ hp
   have hX:∀i,i<m->hsB (X i).1 (X i).2=true:=fun i hi=>bd_hs (bx i hi)
   have Q:Qn w v A n D m AP np O Y P:=⟨VO,VY,VP,hr,hv,x1,x2,fun i hi=>bd_hs (bp i hi)⟩
   have h3:¬(m:Int)>10:=fun q=>h2 q (by omega)
   have hp64:np<=64:=by have:=hra.1.2.1;omega
   have key:∃ff,(ff=0/\∀j,j<n->errG O (catI m X P) (m+np) j=0)\/(ff≠0/\FirstG O (catI m X P) (m+np) n ff):=by
    by_cases c:∀j,j<n->errG O (catI m X P) (m+np) j=0
    ·exact⟨0,Or.inl ⟨rfl,c⟩⟩
    ·have:∀k,k<=n->(∀j,j<k->errG O (catI m X P) (m+np) j=0)\/∃ff,ff≠0/\FirstG O (catI m X P) (m+np) n ff:=by
      intro k
      induction k with
      | zero=>exact fun _=>Or.inl fun j hj=>absurd hj (by omega)
      | succ k ih =>
       intro hk
       rcases ih (by omega) with q | q
       ·by_cases z:errG O (catI m X P) (m+np) k=0
        ·left
         intro j hj
         rcases Nat.lt_or_ge j k with r | r
         ·exact q j r
         ·rw [show j=k by omega];exact z
        ·exact Or.inr ⟨_,z,k,by omega,q,z,rfl⟩
       ·exact Or.inr q
     rcases this n (Nat.le_refl _) with q | ⟨ff,q1,q2⟩
     ·exact absurd q c
     ·exact⟨ff,Or.inr ⟨q1,q2⟩⟩
   obtain⟨ff,hff⟩:=key
   refine kl_good v A n C D m E AX m CX AP np CP X P h1 h3 x1 hp64 hX w VX VP ff (fun W q=>(cS W q).mono ?_) cR cM (fun W g C' q U=>(kgrad_w (Q.keep q) (some ⟨g,0,none⟩) C' U hX).mono ?_)
   ·rintro e w' ⟨⟨vz,er,rfl,hA⟩,hb⟩
    refine⟨⟨vz,er,rfl, ?_⟩,hb⟩
    rcases hA with ⟨e, -⟩ | ⟨-,e, -⟩ | ⟨-, -,hF,rfl⟩ | ⟨-, -,hz,hS⟩
    ·rw [hr] at e;cases e
    ·rw [hq] at e;cases e
    ·rcases hff with ⟨-,z⟩ | ⟨n0,hG⟩
     ·obtain⟨k,k1, -,k3, -⟩:=hF
      exact absurd (z k k1) k3
     ·exact Or.inl ⟨n0,hF.same hG,rfl⟩
    ·rcases hff with ⟨rfl,z⟩ | ⟨n0,hG⟩
     ·rcases hS with ⟨A',C',Z,rfl,rfl,VZ,KZ⟩ | ⟨rfl,he⟩
      ·exact Or.inr (Or.inr ⟨rfl,rfl,A',C',Z,rfl,VZ,KZ⟩)
      ·exact Or.inr (Or.inl ⟨rfl,he,rfl⟩)
     ·obtain⟨k,k1, -,k3, -⟩:=hG
      exact absurd (hz k k1) k3
   ·rintro e w' ⟨⟨vb,vd,er,rfl,hA⟩,hb⟩
    refine⟨⟨vb,vd, ?_⟩,hb⟩
    have ee:er=ff:=by
     rcases hA with ⟨g',h',SA,SC, -, -,rfl, -, -, -,hz⟩ | ⟨-, -,hF⟩
     ·rcases hff with ⟨rfl,z⟩ | ⟨n0,hG⟩
      ·rfl
      ·obtain⟨k,k1, -,k3, -⟩:=hG
       exact absurd (hz k k1) k3
     ·rcases hff with ⟨rfl,z⟩ | ⟨n0,hG⟩
      ·obtain⟨k,k1, -,k3, -⟩:=hF
       exact absurd (z k k1) k3
      ·exact hF.same hG
    rw [ee]
end Go.Proofs.YtopfabemfbdccaaGreat
