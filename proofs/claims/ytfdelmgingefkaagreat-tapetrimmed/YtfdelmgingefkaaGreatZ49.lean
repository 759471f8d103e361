/- Trimming: the program's Trim. -/
import Derived.Test.YtfdelmgingefkaaGreatZ48
namespace Go.Proofs.YtfdelmgingefkaaGreat
open Go.ChangeShapes Go.WideShapes Go.ChangeAt Go.RowKit
theorem mov_ok {pl:Nat→Int} {o:Opw} (h:o.ok):(movO pl o).ok:=by
 unfold Opw.ok movO
 obtain⟨a,b⟩:=h
 constructor
 · show (if o.k=1 then o.lo else 0)<_
   split
   · exact a
   · omega
 · show (if o.k=1 then o.hi else 0)<_
   split
   · exact b
   · omega
theorem trim_facts {X:Nat→Opw} {nd:Nat→Bool} {n:Nat} (h:∀i,i<n→(X i).ok):∀i,i≤n→(∀t∈(trimS X nd i).1,t.ok)∧(trimS X nd i).1.length≤i
 | 0,_=>⟨by simp [trimS],by simp [trimS]⟩
 | i+1,hi=>by
   obtain⟨a,b⟩:=trim_facts h i (by omega)
   have m:=mov_ok (pl:=(trimS X nd i).2) (h i (by omega))
   unfold trimS
   split
   · split
     · exact⟨a,by show (trimS X nd i).1.length≤_;omega⟩
     · refine⟨fun t ht=>?_,by simp;omega⟩
       rcases List.mem_append.1 ht with q | q
       · exact a t q
       · rw [List.mem_singleton.1 q];exact m
   · exact⟨a,by omega⟩
structure St (w wx:World) (bR bT g bM bP S0 n:Nat) (xv xa xd vO:Value) (nd:Nat→Bool) (T:List Opw) (pl:Nat→Int):Prop where
 HB:Below w.heap.size w wx
 t:Tap3 wx w.heap.size xv xa xd
 r:Tap3 wx bR (.int .i64 0) (.slice none 0 0) (.slice none 0 0)
 tr:Tap3 wx bT xv vO (.slice none 0 0)
 nd:Cel wx g n (fun i=>.bool (nd i))
 mp:wx.heap[bM]?=some (.map (entO T) T.length)
 pl:Cel wx bP n (fun i=>.int .i64 (pl i))
 ow:OwnO S0 wx vO T
 sz:S0≤wx.heap.size
theorem heap_lt {w:World} {r:Nat} {o:Obj} (h:w.heap[r]?=some o):r<w.heap.size:=(Array.getElem?_eq_some_iff.1 h).1
theorem St.keep {w wx w2:World} {bR bT g bM bP S0 n:Nat} {xv xa xd vO:Value} {nd:Nat→Bool} {T:List Opw} {pl:Nat→Int} (s:St w wx bR bT g bM bP S0 n xv xa xd vO nd T pl) (hb:Below wx.heap.size wx w2):St w w2 bR bT g bM bP S0 n xv xa xd vO nd T pl :=
 ⟨later s.HB hb,s.t.keep hb,s.r.keep hb,s.tr.keep hb,s.nd.keep hb,(hb.block bM (heap_lt s.mp)).trans s.mp,s.pl.keep hb,own_keep s.ow hb,Nat.le_trans s.sz hb.size⟩
def Ord (b0 bR bT g bM bP S0:Nat):Prop:=b0<bR∧bR<bT∧bT<g∧g<bM∧bM<bP∧bP<S0
theorem cel_upd {w:World} {g n i:Nat} {pl:Nat→Int} (h:Cel w g n (fun j=>.int .i64 (pl j))) (hi:i<n) (z:Int):Cel (w.setCell ⟨g,i,none⟩ (.int .i64 z)) g n (fun j=>.int .i64 (updI pl i z j)):=by
 refine (h.set i (.int .i64 z) hi).congr fun j _=>?_
 unfold updI
 by_cases e:j=i
 · simp [e]
 · simp [e]
theorem St.setP {w wx:World} {bR bT g bM bP S0 n i:Nat} {xv xa xd vO:Value} {nd:Nat→Bool} {T:List Opw} {pl:Nat→Int} (s:St w wx bR bT g bM bP S0 n xv xa xd vO nd T pl) (o:Ord w.heap.size bR bT g bM bP S0) (hi:i<n) (z:Int) :
   St w (wx.setCell ⟨bP,i,none⟩ (.int .i64 z)) bR bT g bM bP S0 n xv xa xd vO nd T (updI pl i z):=by
 obtain⟨o0,o1,o2,o3,o4,o5⟩:=o
 exact⟨Below.setCell s.HB (by show w.heap.size≤bP;omega) _,s.t.far (by omega) _,s.r.far (by omega) _,s.tr.far (by omega) _,s.nd.far (by omega) _,(Below.heap_setCell wx ⟨bP,i,none⟩ _ bM (by show bM≠bP;omega)).trans s.mp,cel_upd s.pl hi z,own_set s.ow o5 _,by simp only [World.size_setCell];exact s.sz⟩
theorem St.grow {w wx w':World} {bR bT g bM bP S0 n:Nat} {xv xa xd vO v':Value} {nd:Nat→Bool} {T:List Opw} {pl:Nat→Int} {mv:Opw} (s:St w wx bR bT g bM bP S0 n xv xa xd vO nd T pl) (o:Ord w.heap.size bR bT g bM bP S0)
   (hown:OwnO S0 w' v' (T++[mv])) (hb:Below S0 (putM wx bM (.map (entO (T++[mv])) (T.length+1))) w'):St w (w'.setCell ⟨bT,1,none⟩ v') bR bT g bM bP S0 n xv xa xd v' nd (T++[mv]) pl:=by
 obtain⟨o0,o1,o2,o3,o4,o5⟩:=o
 have hs:=hb.size
 refine⟨Below.setCell ((below_putM s.HB (by omega) _).trans (hb.mono (by omega))) (by show w.heap.size≤bT;omega) _,((s.t.putM (by omega) _).keepB hb (by omega) hs).far (by omega) _,((s.r.putM (by omega) _).keepB hb (by omega) hs).far (by omega) _,((s.tr.putM (by omega) _).keepB hb (by omega) hs).set1 _,((s.nd.putM (by omega) _).keepB hb (by omega) hs).far (by omega) _, ?_,((s.pl.putM (by omega) _).keepB hb (by omega) hs).far (by omega) _,own_set hown (by omega) _, ?_⟩
 · refine (Below.heap_setCell w' ⟨bT,1,none⟩ _ bM (by show bM≠bT;omega)).trans ((hb.block bM (by omega)).trans ?_)
   rw [putM_at (heap_lt s.mp),List.length_append]
   rfl
 · simp only [World.size_setCell]
   rw [putM_size] at hs
   exact Nat.le_trans s.sz hs
theorem own_form {B:Nat} {w:World} {e:TypeId} {sz:Nat} {v:Value} {n:Nat} {xs:List Value} (h:w.ownsRow B e sz v n xs):∃a c,v=.slice a n c:=by
 rcases h.2 with ⟨rfl,rfl⟩ | ⟨g,cap,cur,rfl, -⟩
 · exact⟨none,0,rfl⟩
 · exact⟨_,cap,rfl⟩
theorem own_keepB {B S:Nat} {w w2:World} {e:TypeId} {sz:Nat} {v:Value} {n:Nat} {xs:List Value} (h:w.ownsRow B e sz v n xs) (hb:Below S w w2) (hk:∀k,v.ownBlock=some k→k<S):w2.ownsRow B e sz v n xs:=by
 refine⟨h.1, ?_⟩
 rcases h.2 with hn | ⟨g,cap,cur,hv,hb2,hg,rest⟩
 · exact .inl hn
 · refine .inr ⟨g,cap,cur,hv,hb2, ?_,rest⟩
   rw [←hg]
   exact hb.block g (hk g (by rw [hv];rfl))
def outL (pl:Nat→Int) (Y:Nat→Int) (k:Nat):List Int:=(List.range k).map fun j=>pl (Y j).toNat
theorem outL_step (pl:Nat→Int) (Y:Nat→Int) (k:Nat):outL pl Y (k+1)=outL pl Y k++[pl (Y k).toNat]:=by
 unfold outL;rw [List.range_succ,List.map_append];rfl
theorem outL_len (pl:Nat→Int) (Y:Nat→Int) (k:Nat):(outL pl Y k).length=k:=by simp [outL]
theorem trimS_no {X:Nat→Opw} {nd:Nat→Bool} {i:Nat} (h:nd i=false):trimS X nd (i+1)=trimS X nd i:=by
 show (if nd i then _ else _)=_
 rw [h]
 rfl
theorem trimS_old {X:Nat→Opw} {nd:Nat→Bool} {i j:Nat} (h:nd i=true) (hf:(trimS X nd i).1.findIdx? (eqO (movO (trimS X nd i).2 (X i)))=some j):trimS X nd (i+1)=((trimS X nd i).1,updI (trimS X nd i).2 i (j:Int)):=by
 show (if nd i then _ else _)=_
 rw [if_pos h,hf]
theorem trimS_new {X:Nat→Opw} {nd:Nat→Bool} {i:Nat} (h:nd i=true) (hf:(trimS X nd i).1.findIdx? (eqO (movO (trimS X nd i).2 (X i)))=none):trimS X nd (i+1)=((trimS X nd i).1++[movO (trimS X nd i).2 (X i)],updI (trimS X nd i).2 i ((trimS X nd i).1.length:Int)):=by
 show (if nd i then _ else _)=_
 rw [if_pos h,hf]
set_option maxHeartbeats 4000000 in
set_option maxRecDepth 100000 in
theorem trim_good (v:Int) (A:Option Addr) (n C:Nat) (D:Option Addr) (m E:Nat) (X:Nat→Opw) (Y:Nat→Int) (hn:n≤4000) (hm:m≤400) (nd:Nat→Bool)
   (hy:∀k,k<m→0≤Y k∧Y k<(n:Int)) (hx:∀i,i<n→∀j,j<(X i).ar→0≤(X i).at j∧(X i).at j<(n:Int)) (hl:∀i,i<n→(X i).ok) (w:World) (VX:Ops w A n X) (VY:Ins w D m Y)
   (cR:∀w2,Below w.heap.size w w2→Calls Tryz.prog 27 #[tapeV v A n C D m E] w2 fun e w'=>e=.returned (.int .i64 0)∧Below w2.heap.size w2 w')
   (cN:∀w2,Below w.heap.size w w2→Calls Tryz.prog 69 #[tapeV v A n C D m E] w2 fun e w'=>∃g,w2.heap.size≤g∧e=.returned (.slice (some ⟨g,0,none⟩) n n)∧Cel w' g n (fun i=>.bool (nd i))∧Below w2.heap.size w2 w') :
   Calls Tryz.prog 28 #[tapeV v A n C D m E] w fun e w'=>(∃S0 S1 vO vN,e=.returned (.tuple #[.agg #[.int .i64 v,vO,vN],.int .i64 0])∧OwnO S0 w' vO (trimS X nd n).1∧OwnN S1 w' vN (outL (trimS X nd n).2 Y m))∧Below w.heap.size w w':=by
 have HY:Hid (∀k,k<m→0≤Y k∧Y k<(n:Int)):=hy
 have HX:Hid (∀i,i<n→∀j,j<(X i).ar→0≤(X i).at j∧(X i).at j<(n:Int)):=hx
 have HL:Hid (∀i,i<n→(X i).ok):=hl
 have HF:Hid (∀i,i≤n→(∀t∈(trimS X nd i).1,t.ok)∧(trimS X nd i).1.length≤i):=trim_facts hl
 clear hx hy hl
 have hmm:=@run_makeMap Tryz.prog
 have t:=(tap3_new w (.int .i64 v) (.slice A n C) (.slice D m E) 45).alloc (.cells #[.int .i64 0,.slice none 0 0,.slice none 0 0] 45)
 have r:=tap3_new (w.alloc (.cells #[.int .i64 v,.slice A n C,.slice D m E] 45)) (.int .i64 0) (.slice none 0 0) (.slice none 0 0) 45
 have HB:Below w.heap.size w ((w.alloc (.cells #[.int .i64 v,.slice A n C,.slice D m E] 45)).alloc (.cells #[.int .i64 0,.slice none 0 0,.slice none 0 0] 45)):=by go_grown
 simp only [World.size_alloc] at r
 unfold tapeV at *
 go_enter Tryz.func28,Tryz.ntmps28
 go_wp2_with (first
   | (go_at_call 27;with_reducible refine (cR _ HB).mono ?_;rintro _ w1 ⟨rfl,hb1⟩
      replace t:=t.keep hb1
      replace r:=r.keep hb1
      replace HB:=later HB hb1
      clear hb1 cR
      have ho1:=r.lt
      obtain⟨t0,t1,t2, -, -, -,tl⟩:=id t)
   | (go_at_call 69;with_reducible refine (cN _ (below_alloc HB _)).mono ?_;rintro _ w2 ⟨g,hg,rfl,N,hb2⟩
      have tr:=(tap3_new w1 (.int .i64 v) (.slice none 0 0) (.slice none 0 0) 45).keep hb2
      replace t:=(t.alloc _).keep hb2
      replace r:=(r.alloc _).keep hb2
      replace HB:=later (below_alloc HB _) hb2
      clear hb2 cN t0 t1 t2 tl
      obtain⟨t0,t1,t2, -, -, -,tl⟩:=id t)
   | (at_make;refine wpList_makeN (by rfl) _ _ (by rfl) n (by rfl) (by rfl) (by omega) ?_;intro w3 P hb3 hS3
      have s:St w w3 (w.heap.size+1) w1.heap.size g w2.heap.size (w2.heap.size+1) w3.heap.size n (.int .i64 v) (.slice A n C) (.slice D m E) (.slice none 0 0) nd [] (fun _=>0) :=
        ⟨later (below_alloc HB _) hb3,(t.alloc _).keep hb3,(r.alloc _).keep hb3,(tr.alloc _).keep hb3,(N.keep (below_alloc (Below.refl _ _) _)).keep hb3,(hb3.block w2.heap.size (by simp)).trans (MapKept.heap_alloc w2 _).1,by simpa using P,World.ownsRow_nil _ _ _ _,Nat.le_refl _⟩
      have o1:w.heap.size+1<w1.heap.size:=ho1
      have o2:w1.heap.size<g:=by simp only [World.size_alloc] at hg;omega
      have o3:g<w2.heap.size:=N.1
      have o4:w2.heap.size+1<w3.heap.size:=by simpa using hS3
      clear t r tr HB P hb3 hS3 N t0 t1 t2 tl
      obtain⟨t0,t1,t2, -, -, -,tl⟩:=id s.t))
 clear t0 t1 t2 tl ho1 hg
 obtain⟨bR,hbR⟩:∃b,b=w.heap.size+1:=⟨_,rfl⟩
 obtain⟨bT,hbT⟩:∃b,b=w1.heap.size:=⟨_,rfl⟩
 obtain⟨bP,hbP⟩:∃b,b=w2.heap.size+1:=⟨_,rfl⟩
 obtain⟨bM,hbM⟩:∃b,b=w2.heap.size:=⟨_,rfl⟩
 obtain⟨S0,hS0⟩:∃b,b=w3.heap.size:=⟨_,rfl⟩
 rw [←hbR,←hbT,←hbP,←hbM,←hS0] at s
 rw [←hbR,←hbT] at o1
 rw [←hbT] at o2
 rw [←hbM] at o3
 rw [←hbP,←hS0] at o4
 rw [←hbR,←hbT,←hbP,←hbM]
 have o0:w.heap.size<bR:=by omega
 have o5:bM<bP:=by omega
 clear hbR hbT hbP hbM hS0
 have OO:Ord w.heap.size bR bT g bM bP S0:=⟨o0,o1,o2,o3,o5,o4⟩
 clear o0 o1 o2 o3 o4 o5
 go_loopg [35] n (fun G s35 wx=>∃(i:Nat) (vO:Value),i+G=n∧s35=.int .i64 (i:Int)∧St w wx bR bT g bM bP S0 n (.int .i64 v) (.slice A n C) (.slice D m E) vO nd (trimS X nd i).1 (trimS X nd i).2)
 case atStart=>exact⟨0,_,by omega,rfl,s⟩
 case round =>
   clear s
   obtain⟨i,vO,hi,rfl,s⟩:=hrel
   by_cases ci:i=n
   · subst ci
     obtain⟨t0,t1,t2, -, -, -,tl⟩:=id s.t
     go_wp2_with fail
     obtain⟨o0,o1,o2,o3,o4,o5⟩:=OO
     have HO:Hid (w.heap.size<bR∧bR<bT∧bT<bP∧bP<S0):=⟨o0,o1,by omega,o5⟩
     obtain⟨T,hT⟩:∃T,T=(trimS X nd i).1:=⟨_,rfl⟩
     obtain⟨pl,hpl⟩:∃pl,pl=(trimS X nd i).2:=⟨_,rfl⟩
     rw [←hT,←hpl] at s
     have HT:Hid (T=(trimS X nd i).1):=hT
     have HP:Hid (pl=(trimS X nd i).2):=hpl
     clear hT hpl
     obtain⟨wL,rfl⟩:∃wL,wL=wr:=⟨_,rfl⟩
     have hKO:Hid (∀k,vO.ownBlock=some k→k<wL.heap.size):=fun k hk=>(World.ownsRow.lt s.ow k hk).2
     have hSL:=s.sz
     have E1:OwnN wL.heap.size wL (.slice none 0 0) []:=World.ownsRow_nil _ _ _ _
     go_loopg [76] m (fun G s76 wx=>∃(k:Nat) (vN:Value),k+G=m∧s76=.int .i64 (k:Int)∧Below w.heap.size w wx∧Tap3 wx bR (.int .i64 0) (.slice none 0 0) (.slice none 0 0)∧Tap3 wx bT (.int .i64 v) vO vN∧Cel wx bP i (fun j=>.int .i64 (pl j))∧OwnO S0 wx vO T∧OwnN wL.heap.size wx vN (outL pl Y k)∧wL.heap.size≤wx.heap.size)
     case atStart=>exact⟨0,_,by omega,rfl,s.HB,s.r,s.tr,s.pl,s.ow,E1,Nat.le_refl _⟩
     case round =>
       clear s E1 t0 t1 t2 tl
       obtain⟨k,vN,hk,rfl,HB,r,tr,P,ow,on,hz⟩:=hrel
       by_cases ck:k=m
       · subst ck
         obtain⟨z0,z1,hz0⟩:=own_form ow
         obtain⟨z2,z3,hz2⟩:=own_form on
         subst hz0 hz2
         obtain⟨u0,u1,u2,u3,u4,u5,u6⟩:=id tr
         obtain⟨y0,y1,y2,y3,y4,y5,y6⟩:=id r
         go_wp2_with fail
         refine bodyPost_ret (v:=.tuple #[.agg #[.int .i64 v,.slice z0 T.length z1,.slice z2 (outL pl Y k).length z3],.int .i64 0]) (by simp [results,Tryz.results28,go_sem, *]) rfl ⟨⟨S0,wL.heap.size,_,_,rfl, ?_, ?_⟩, ?_⟩
         · rw [←show T=_ from HT]
           exact own_set (B:=S0) (own_set (B:=S0) (own_set (B:=S0) ow (by omega) _) (by omega) _) (by omega) _
         · rw [←show pl=_ from HP]
           exact own_set (B:=wL.heap.size) (own_set (B:=wL.heap.size) (own_set (B:=wL.heap.size) on (by omega) _) (by omega) _) (by omega) _
         · exact Below.setCell (Below.setCell (Below.setCell HB (by show w.heap.size≤bR;omega) _) (by show w.heap.size≤bR;omega) _) (by show w.heap.size≤bR;omega) _
       · have hlt:(k:Int)<(m:Int):=by omega
         obtain⟨b,o,hA,hb,x0⟩:=(VY.keep HB) k (by omega)
         obtain⟨h0,h1⟩:=HY k (by omega)
         obtain⟨p0, -⟩:=P.2 (Y k).toNat (by omega)
         dsimp only at p0
         have p2:=P.1
         have hlen:(outL pl Y k).length≤2000000:=by rw [outL_len];omega
         obtain⟨z2,z3,hz2⟩:=own_form on
         rw [outL_len] at hz2
         subst hz2
         obtain⟨u0,u1,u2,u3,u4,u5,u6⟩:=id tr
         subst hA
         go_wp2_with fail
         have pne:bT≠bP:=by omega
         have pne2:bP≠bT:=by omega
         go_region_law
           ((refine step_pushN (by rfl) _ _ (by rfl) _ (outL pl Y k) (pl (Y k).toNat) (by rfl) (by rfl) (by go_simp) (own_keep on (by go_grown)) hlen (by go_size) ?_;intro q3 q4 w' hown' hB2 hS2;have tr2:=Tap3.keepB (tr.keep (by go_grown)) hB2 (by omega) hS2;have P2:=Cel.keepB (P.keep (by go_grown)) hB2 (by omega) hS2;obtain⟨v0,v1,v2,v3,v4,v5,v6⟩:=id tr2;obtain⟨p1, -⟩:=P2.2 (Y k).toNat (by omega);dsimp only at p1))
         all_goals
           go_wp2_with fail
           go_roundg (m-k-1)
           case measure=>omega
           case rel =>
             refine⟨k+1,_,by omega,by go_num, ?_, ?_,tr2.set2 _,P2.far pne _, ?_, ?_, ?_⟩
             · exact Below.setCell ((later HB (by go_grown)).trans (hB2.mono (by omega))) (by show w.heap.size≤bT;omega) _
             · exact (Tap3.keepB (r.keep (by go_grown)) hB2 (by omega) hS2).far (by omega) _
             · exact own_set (own_keepB (own_keep ow (by go_grown)) hB2 hKO) (by omega) _
             · rw [outL_step];exact own_set (B:=wL.heap.size) (r:=bT) (k:=2) hown' (by omega) _
             · simp only [World.size_setCell];exact Nat.le_trans hz (Nat.le_trans (by go_size) hS2)
   · have hlt:(i:Int)<(n:Int):=by omega
     have hin:i<n:=by omega
     obtain⟨b,o,hA,hb,x0,x1,x2,x3,x4,x5, -, -⟩:=(VX.keep s.HB) i hin
     obtain⟨c0, -⟩:=s.nd.2 i hin
     dsimp only at c0
     have gl:=s.nd.1
     subst hA
     have hcase:nd i=true∨nd i=false:=by cases nd i <;> simp
     rcases hcase with hq | hq
     · have hmv:(movO (trimS X nd i).2 (X i)).ok:=mov_ok (HL i hin)
       have hF:=HF i (by omega)
       have hT0:Hid (∀t∈(trimS X nd i).1,t.ok):=hF.1
       have hT1:(trimS X nd i).1.length≤i:=hF.2
       have cm:∀w2,Below wr.heap.size wr w2→Calls Tryz.prog 70 #[.slice (some ⟨bP,0,none⟩) n n,.agg #[.int .i64 (X i).k,.int .i64 (X i).a,.int .i64 (X i).b,.int .i64 (X i).n,.float .f64 (X i).lo,.float .f64 (X i).hi]] w2 fun e w'=>e=.returned (.agg #[.int .i64 (movO (trimS X nd i).2 (X i)).k,.int .i64 (movO (trimS X nd i).2 (X i)).a,.int .i64 (movO (trimS X nd i).2 (X i)).b,.int .i64 (movO (trimS X nd i).2 (X i)).n,.float .f64 (movO (trimS X nd i).2 (X i)).lo,.float .f64 (movO (trimS X nd i).2 (X i)).hi])∧Below w2.heap.size w2 w' :=
         fun w2 q=>moved_w (X i) bP n (trimS X nd i).2 (HX i hin) w2 (s.pl.keep q)
       cases hf:(trimS X nd i).1.findIdx? (eqO (movO (trimS X nd i).2 (X i))) with
       | some j =>
         have hst:Hid (trimS X nd (i+1)=((trimS X nd i).1,updI (trimS X nd i).2 i (j:Int))):=trimS_old hq hf
         rw [hq] at c0
         replace hq:Hid _:=hq
         generalize (trimS X nd i).1=T at *
         generalize (trimS X nd i).2=pl at *
         generalize movO pl (X i)=mv at *
         go_wp2_with (go_at_call 70;with_reducible refine (cm _ (below_alloc (Below.refl _ _) _)).mono ?_;rintro _ w5 ⟨rfl,hb5⟩
                      replace s:=s.keep (later (below_alloc (Below.refl _ _) _) hb5)
                      have hlk:∀o,(Instr.lookup 78 (.map (some bM)) (.agg #[.int .i64 mv.k,.int .i64 mv.a,.int .i64 mv.b,.int .i64 mv.n,.float .f64 mv.lo,.float .f64 mv.hi]) true).run Tryz.prog (w5.alloc o)=.ok (.tuple #[.int .i64 (j:Int),.bool true]) (w5.alloc o):=fun o=>by
                        have:=look_op mv hmv T hT0 bM _ (w5.alloc o) (s.keep (below_alloc (Below.refl _ _) o)).mp
                        rw [hf] at this
                        exact this
                      obtain⟨p0,p1⟩:=s.pl.2 i hin
                      have p2:=s.pl.1
                      clear cm hb5)
         go_roundg (n-i-1)
         case measure=>omega
         case rel=>exact⟨i+1,vO,by omega,by go_num,by rw [show trimS X nd (i+1)=_ from hst];exact (s.setP OO hin _).keep (below_alloc (Below.refl _ _) _)⟩
       | none =>
         have hst:Hid (trimS X nd (i+1)=((trimS X nd i).1++[movO (trimS X nd i).2 (X i)],updI (trimS X nd i).2 i ((trimS X nd i).1.length:Int))):=trimS_new hq hf
         rw [hq] at c0
         replace hq:Hid _:=hq
         generalize (trimS X nd i).1=T at *
         generalize (trimS X nd i).2=pl at *
         generalize movO pl (X i)=mv at *
         obtain⟨q1,q2,hvO⟩:=own_form s.ow
         subst hvO
         have oo:=OO
         obtain⟨o0,o1,o2,o3,o4,o5⟩:=oo
         have HFd:Hid (T.findIdx? (eqO mv)=none):=hf
         clear hf
         go_wp2_with (first
           | (go_at_call 70;with_reducible refine (cm _ (below_alloc (Below.refl _ _) _)).mono ?_;rintro _ w5 ⟨rfl,hb5⟩
              replace s:=s.keep (later (below_alloc (Below.refl _ _) _) hb5)
              have hlk:∀o,(Instr.lookup 78 (.map (some bM)) (.agg #[.int .i64 mv.k,.int .i64 mv.a,.int .i64 mv.b,.int .i64 mv.n,.float .f64 mv.lo,.float .f64 mv.hi]) true).run Tryz.prog (w5.alloc o)=.ok (.tuple #[.int .i64 0,.bool false]) (w5.alloc o):=fun o=>by
                have:=look_op mv hmv T hT0 bM _ (w5.alloc o) (s.keep (below_alloc (Below.refl _ _) o)).mp
                rw [show T.findIdx? (eqO mv)=none from HFd] at this
                exact this
              obtain⟨u0,u1,u2,u3,u4,u5,u6⟩:=id s.tr
              clear cm hb5)
           | (at_mapUpdate;refine wpList_mapNew (by rfl) _ _ _ (by rfl) bM (by rfl) mv (by rfl) T (by rfl) hmv hT0 HFd (s.keep (below_alloc (Below.refl _ _) _)).mp ?_
              have s5:=s.keep (below_alloc (Below.refl w5.heap.size w5) (.cells #[.int .i64 mv.k,.int .i64 mv.a,.int .i64 mv.b,.int .i64 mv.n,.float .f64 mv.lo,.float .f64 mv.hi] 80))
              have ne5:w5.heap.size≠bM:=by have:=s.sz;omega
              have mb:=(has6_new w5 mv).putM ne5 (.map (entO (T++[mv])) (T.length+1))
              have tr:=s5.tr.putM (r:=bM) (by omega) (.map (entO (T++[mv])) (T.length+1))
              have pp:=s5.pl.putM (r:=bM) (by omega) (.map (entO (T++[mv])) (T.length+1))
              have hownO:OwnO S0 _ _ T:=own_put s5.ow (r:=bM) (by omega) (.map (entO (T++[mv])) (T.length+1))
              have hSS:=s5.sz
              rw [←putM_size _ bM (.map (entO (T++[mv])) (T.length+1))] at hSS
              clear u0 u1 u2 u3 u4 u5 u6 hlk
              obtain⟨w6,hw6⟩:∃w6,w6=putM (w5.alloc (.cells #[.int .i64 mv.k,.int .i64 mv.a,.int .i64 mv.b,.int .i64 mv.n,.float .f64 mv.lo,.float .f64 mv.hi] 80)) bM (.map (entO (T++[mv])) (T.length+1)):=⟨_,rfl⟩
              rw [←hw6] at mb tr pp hownO hSS ⊢
              have W6:Hid (w6=putM (w5.alloc (.cells #[.int .i64 mv.k,.int .i64 mv.a,.int .i64 mv.b,.int .i64 mv.n,.float .f64 mv.lo,.float .f64 mv.hi] 80)) bM (.map (entO (T++[mv])) (T.length+1))):=hw6
              clear hw6
              obtain⟨mb0,mb1,mb2,mb3,mb4,mb5, -, -, -, -, -, -,mbl⟩:=mb
              obtain⟨u0,u1,u2,u3,u4,u5,u6⟩:=id tr)
           | (at_builtin;refine wpList_pushO (by rfl) _ _ (by rfl) _ T mv (by rfl) (by rfl) hownO (by omega) hSS (Below.refl S0 w6) ?_;intro v' w' hown' hB' hS' hB2 hS2
              obtain⟨q3,q4,hv'⟩:=own_form hown'
              rw [List.length_append,show [mv].length=1 from rfl] at hv'
              subst hv'
              clear u0 u1 u2 u3 u4 u5 u6
              obtain⟨u0,u1,u2,u3,u4,u5,u6⟩:=tr.keepB hB2 (by omega) hS2
              obtain⟨p0,p1⟩:=(pp.keepB hB2 (by omega) hS2).2 i hin
              have p2:=(pp.keepB hB2 (by omega) hS2).1
              have pne:bT≠bP:=by omega
              have pne2:bP≠bT:=by omega))
         go_roundg (n-i-1)
         case measure=>omega
         case rel =>
           rw [show w6=_ from W6] at hB2
           exact⟨i+1,_,by omega,by go_num,by rw [show trimS X nd (i+1)=_ from hst];exact (s5.grow OO hown' hB2).setP OO hin _⟩
     · have hst:Hid (trimS X nd (i+1)=trimS X nd i):=trimS_no hq
       rw [hq] at c0
       clear hq
       go_wp2_with fail
       go_roundg (n-i-1)
       case measure=>omega
       case rel=>exact⟨i+1,vO,by omega,by go_num,by rw [show trimS X nd (i+1)=_ from hst];exact s.keep (below_alloc (Below.refl _ _) _)⟩
end Go.Proofs.YtfdelmgingefkaaGreat
