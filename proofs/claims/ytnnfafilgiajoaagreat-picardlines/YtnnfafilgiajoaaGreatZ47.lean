/- picard: search. -/
import Derived.Test.YtnnfafilgiajoaaGreatZ46
namespace Go.Proofs.YtnnfafilgiajoaaGreat
open Go.ChangeShapes Go.WideShapes Go.ChangeAt Go.RowKit
theorem ownF_cells {B:Nat} {w:World} {v:Value} {vs:List Value} (h:OwnF B w v vs) (h0:0<vs.length):∃g cap,v=.slice (some ⟨g,0,none⟩) vs.length cap∧g<w.heap.size∧∀(j:Nat) (f:Value),vs[j]?=some f→w.cell? ⟨g,j,none⟩=some f:=by
 have h':w.ownsRow B 67 1 v vs.length vs:=h
 rcases id h'.2 with ⟨rfl,hn⟩ | ⟨g,cap,cur,rfl, -,hg, -⟩
 · omega
 · refine⟨g,cap,rfl,(Array.getElem?_eq_some_iff.1 hg).1,fun j f hj=>?_⟩
   have hl:j<vs.length:=(List.getElem?_eq_some_iff.1 hj).1
   rw [World.ownsRow.cellAt h' j (by omega)]
   exact hj
def SeaR (q:Qst) (ok:OkF) (rt:RtF) (X:Nat→Nat×Nat) (hw:Bool) (w:World) (v:Value):Prop :=
 (∃(b C:Nat) (B:Nat→Nat×Nat),v=.tuple #[.slice (some ⟨b,0,none⟩) q.k C,.int .i64 0]∧Img w b q.k B∧(∀i,i<q.k→W2 (B i))∧gdB q ok rt X B=true∧(hw=true→allIn q.k B (wdB X)=true)∧∀i,i<q.k→bndB (B i)=true) ∨
 (v=.tuple #[.slice none 0 0,.int .i64 80]∧(hw=false∨∃B,(∀i,i<q.k→W2 (B i))∧gdB q ok rt X B=true∧(hw=true→allIn q.k B (wdB X)=true)∧∃i,i<q.k∧bndB (B i)=false))
theorem anyU_some {n:Nat} {p:Nat→Bool} (h:anyU n p=true):∃i,i<n∧p i=true:=by
 rcases Classical.em (∃i,i<n∧p i=true) with c | c
 · exact c
 · have:anyU n p=false:=anyU_false.2 fun i hi=>by
     cases hp:p i
     · rfl
     · exact absurd ⟨i,hi,hp⟩ c
   rw [this] at h
   cases h
set_option maxRecDepth 4000 in
set_option maxHeartbeats 8000000 in
theorem search_w {q:Qst} {ok:OkF} {rt:RtF} {X:Nat→Nat×Nat} {w:World} (K:Ask q ok rt X w) :
   Calls Tryz.prog 22 #[q.val] w fun e w'=>(∃v,e=.returned v∧SeaR q ok rt X (gdB q ok rt X (wdB X)) w' v)∧Below w.heap.size w w':=by
 have T:=hasQ_new w q
 have cW:=fun W=>mkW q W
 have cG:=fun W=>mkG q W
 have cN:=fun W=>mkN q W
 have hk0:=K.k0
 have hk24:=K.k24
 unfold Qst.val at cW cG cN ⊢
 have HB:Below w.heap.size w (w.alloc (.cells #[.int .i64 q.v,.slice q.A q.n q.C,.slice q.D q.m q.E,.slice q.AX q.k q.CX,.float .f64 q.t] 50)):=by go_grown
 go_enter Tryz.func22,Tryz.ntmps22
 go_upto_region 1 with fail
 generalize w.alloc (.cells #[.int .i64 q.v,.slice q.A q.n q.C,.slice q.D q.m q.E,.slice q.AX q.k q.CX,.float .f64 q.t] 50)=V1 at *
 have hb1:Below V1.heap.size V1 V1.drew:=(Below.refl _ _).drew
 replace T:=T.keep hb1;replace HB:=later HB hb1;clear hb1
 obtain⟨q0,q1,q2,q3,q4,ql⟩:=id T
 go_region_held3 (fun w'=>w'.cell? ⟨w.heap.size,0,none⟩=some (.int .i64 q.v)∧w'.cell? ⟨w.heap.size,1,none⟩=some (.slice q.A q.n q.C)∧w'.cell? ⟨w.heap.size,2,none⟩=some (.slice q.D q.m q.E)∧w'.cell? ⟨w.heap.size,3,none⟩=some (.slice q.AX q.k q.CX)∧w'.cell? ⟨w.heap.size,4,none⟩=some (.float .f64 q.t)) (first | with_reducible exact T.five | with_reducible exact (T.keep (below_alloc (Below.refl _ _) _)).five | go_keep) (first
   | (go_at_call 46;(with_reducible refine (cW _).mono ?_);rintro _ Wc ⟨⟨bw,rfl,hw1⟩,hb1⟩;(try replace hg1:=hg1.keep hb1);replace T:=T.keep hb1;replace HB:=later HB hb1;clear hb1;clear q0 q1 q2 q3 q4 ql;obtain⟨q0,q1,q2,q3,q4,ql⟩:=id T)
   | (go_at_call 47;(with_reducible refine (cG _).mono ?_);rintro _ Wc ⟨⟨bg,rfl,hg1⟩,hb1⟩;(try replace hw1:=hw1.keep hb1);replace T:=T.keep hb1;replace HB:=later HB hb1;clear hb1;clear q0 q1 q2 q3 q4 ql;obtain⟨q0,q1,q2,q3,q4,ql⟩:=id T))
 all_goals
   have OW:=ownF_two Wc w.heap.size HB.size (.func (.func 71) #[] #[.pointer (some ⟨bw,0,none⟩)]) (.func (.func 75) #[] #[.pointer (some ⟨bg,0,none⟩)])
   have hb1:Below Wc.heap.size Wc (Wc.alloc (.cells #[.func (.func 71) #[] #[.pointer (some ⟨bw,0,none⟩)],.func (.func 75) #[] #[.pointer (some ⟨bg,0,none⟩)]] 67)):=by go_grown
   replace T:=T.keep hb1;replace hw1:=hw1.keep hb1;replace hg1:=hg1.keep hb1;replace HB:=later HB hb1;clear hb1
   clear q0 q1 q2 q3 q4 ql cW cG
   generalize Wc.alloc (.cells #[.func (.func 71) #[] #[.pointer (some ⟨bw,0,none⟩)],.func (.func 75) #[] #[.pointer (some ⟨bg,0,none⟩)]] 67)=V2 at *
   generalize Wc.heap.size=tb at *
   go_wp2_with fail
   go_loopg [4,13] 8 (fun G s4 s13 wx=>Below w.heap.size w wx∧HasQ wx w.heap.size q∧∃(i:Nat) (bs:List Nat),i+G=8∧s13=.int .i64 (i:Int)∧bs.length=i∧OwnF w.heap.size wx s4 (.func (.func 71) #[] #[.pointer (some ⟨bw,0,none⟩)] :: .func (.func 75) #[] #[.pointer (some ⟨bg,0,none⟩)] :: bs.map fnN)∧HasQ wx bw q∧HasQ wx bg q∧Hid (∀b∈bs,HasQ wx b q))
   case atStart=>exact⟨HB,T,0,[],by omega,rfl,rfl,OW,hw1,hg1,fun b hb=>by cases hb⟩
   case round =>
     clear HB T OW hw1 hg1
     obtain⟨HB,T,i,bs,hi,rfl,hbl,OW,hw1,hg1,hall⟩:=hrel
     by_cases ci:i=8
     · subst ci
       have hlen:(Value.func (.func 71) #[] #[.pointer (some ⟨bw,0,none⟩)] :: .func (.func 75) #[] #[.pointer (some ⟨bg,0,none⟩)] :: bs.map fnN).length=10:=by simp [hbl]
       obtain⟨g,cap,hs4,hgl,hcell⟩:=ownF_cells OW (by rw [hlen];omega)
       rw [hlen] at hs4
       subst hs4
       have hc0:=hcell 0 _ rfl
       have hc1:=hcell 1 _ rfl
       have hcn:Hid (∀j,2≤j→j<10→∃b,wr.cell? ⟨g,j,none⟩=some (.func (.func 78) #[] #[.pointer (some ⟨b,0,none⟩)])∧HasQ wr b q):=fun j h2 h10=>by
         obtain⟨j',rfl⟩:∃j',j=j'+2:=⟨j-2,by omega⟩
         have hj:j'<bs.length:=by omega
         exact⟨bs[j'],hcell (j'+2) _ (by simp [hj,fnN]),hall.out _ (List.getElem_mem hj)⟩
       clear hlen hcell OW hall hbl cN T
       have KW:=K.keep HB
       have qe:=eql_nil
       generalize hgw:gdB q ok rt X (wdB X)=hw at *
       obtain⟨w8,rfl⟩:∃w8,w8=wr:=⟨_,rfl⟩
       go_upto_region 7 with fail
       have N:Has2 (w8.alloc (.cells #[.slice none 0 0,.slice none 0 0] 71)) w8.heap.size (.slice none 0 0) (.slice none 0 0):=has2_new _ _ _ _
       have HX:Below w8.heap.size w8 (w8.alloc (.cells #[.slice none 0 0,.slice none 0 0] 71)):=by go_grown
       generalize w8.alloc (.cells #[.slice none 0 0,.slice none 0 0] 71)=V5 at *
       go_wp2_with fail
       go_loopg [23] 10 (fun G s23 wx=>Below w8.heap.size w8 wx∧∃j:Nat,j+G=10∧s23=.int .i64 (j:Int)∧∃(A:Option Addr) (n C:Nat) (A':Option Addr) (n' C':Nat),Has2 wx w8.heap.size (.slice A n C) (.slice A' n' C')∧Hid (j=0→Value.agg #[.slice A n C,.slice A' n' C']=.agg #[.slice none 0 0,.slice none 0 0])∧Hid (0<j→Bst q ok rt X hw wx (.agg #[.slice A n C,.slice A' n' C'])))
       case atStart=>exact⟨HX,0,by omega,rfl,_,_,_,_,_,_,N,fun _=>rfl,fun h=>absurd h (by omega)⟩
       case round =>
         clear HX N
         obtain⟨HX,j,hj,rfl,A,n,C,A',n',C',N,hz,hb⟩:=hrel
         by_cases cj:j=10
         · subst cj
           have hB:=hb.out (by omega)
           clear hz hb hcn hc0 hc1
           obtain⟨z0,z1,z2,z3,z4⟩:=id N
           rcases id hB with ⟨e,ev⟩ | ⟨b',C'',g',B,ev,I,hB2,J,gB,hwd⟩
           · cases ev
             go_wp2_with fail
             refine bodyPost_ret (v:=.tuple #[.slice none 0 0,.int .i64 80]) (by simp [results,Tryz.results22,go_sem, *]) rfl ⟨⟨_,rfl,Or.inr ⟨rfl,Or.inl (by rw [←e];exact hgw)⟩⟩, ?_⟩
             exact later HB HX
           · cases ev
             have cS:=someEnd_w (some ⟨b',0,none⟩) q.k C B (by omega) wr (I.ivs hB2)
             replace hwd:Hid (hw=true→allIn q.k B (wdB X)=true):=hwd
             replace hB2:Hid (∀i,i<q.k→W2 (B i)):=hB2
             replace gB:Hid (gdB q ok rt X B=true):=gB
             clear J hB
             cases ha:anyU q.k fun i=>!bndB (B i)
             · rw [ha] at cS
               have hfin:Hid (∀i,i<q.k→bndB (B i)=true):=fun i hi=>by have:=anyU_false.1 ha i hi;simpa using this
               clear ha
               go_wp2_with (go_at_call 42;refine cS.mono ?_;rintro _ V7 ⟨rfl,hb1⟩;replace N:=N.keep hb1;replace I:=I.keep hb1;replace HX:=later HX hb1;clear hb1 z0 z1 z2 z3 z4;obtain⟨z0,z1,z2,z3,z4⟩:=id N)
               refine bodyPost_ret (v:=.tuple #[.slice (some ⟨b',0,none⟩) q.k C,.int .i64 0]) (by simp [results,Tryz.results22,go_sem, *]) rfl ⟨⟨_,rfl,Or.inl ⟨b',C,B,rfl,I,hB2.out,gB.out,fun h=>hwd.out (by rw [←hgw];exact h),hfin.out⟩⟩, ?_⟩
               exact later HB HX
             · rw [ha] at cS
               have hinf:=anyU_some ha
               replace hinf:Hid (∃i,i<q.k∧(!bndB (B i))=true):=hinf
               clear ha
               go_wp2_with (go_at_call 42;refine cS.mono ?_;rintro _ V7 ⟨rfl,hb1⟩;replace HX:=later HX hb1;clear hb1 z0 z1 z2 z3 z4)
               refine bodyPost_ret (v:=.tuple #[.slice none 0 0,.int .i64 80]) (by simp [results,Tryz.results22,go_sem, *]) rfl ⟨⟨_,rfl,Or.inr ⟨rfl,Or.inr ⟨B,hB2.out,gB.out,fun h=>hwd.out (by rw [←hgw];exact h), ?_⟩⟩⟩, ?_⟩
               · obtain⟨i,hi,h⟩:=hinf.out
                 exact⟨i,hi,by simpa using h⟩
               · exact later HB HX
         · have hltj:(j:Int)<10:=by omega
           have KX:=KW.keep HX
           by_cases j0:j=0
           · subst j0
             have e:=hz.out rfl
             cases e
             have cc:=keepsC HX hc0 hgl
             have cT:=wid_w KX bw (hw1.keep HX)
             rw [hgw] at cT
             clear hz hb hcn hc0 hc1
             obtain⟨z0,z1,z2,z3,z4⟩:=id N
             go_wp2_with (go_at_call 71;refine (cT).mono ?_;rintro _ V6 ⟨⟨v',rfl,hb⟩,hb1⟩;obtain⟨A1,n1,C1,A2,n2,C2,rfl⟩:=hb.shape;replace N:=N.keep hb1;replace HX:=later HX hb1;clear hb1 z0 z1 z2 z3 z4;obtain⟨z0,z1,z2,z3,z4⟩:=id N)
             go_roundg (10-0-1)
             case measure=>omega
             case rel =>
               refine⟨?_,0+1,by omega,by go_num,_,_,_,_,_,_,N.put _ _,fun e=>absurd e (by omega),fun _=>hb.far2 hk0 N _ _⟩
               repeat' (first | (with_reducible exact HX) | (with_reducible refine below_alloc ?_ _) | (with_reducible refine Below.setCell ?_ ?_ _) | go_size | omega)
           · by_cases j1:j=1
             · subst j1
               have cc:=keepsC HX hc1 hgl
               have cT:=gro_w KX bg (hg1.keep HX) _ (hb.out (by omega))
               clear hz hb hcn hc0 hc1
               obtain⟨z0,z1,z2,z3,z4⟩:=id N
               go_wp2_with (go_at_call 75;refine (cT).mono ?_;rintro _ V6 ⟨⟨v',rfl,hb⟩,hb1⟩;obtain⟨A1,n1,C1,A2,n2,C2,rfl⟩:=hb.shape;replace N:=N.keep hb1;replace HX:=later HX hb1;clear hb1 z0 z1 z2 z3 z4;obtain⟨z0,z1,z2,z3,z4⟩:=id N)
               go_roundg (10-1-1)
               case measure=>omega
               case rel =>
                 refine⟨?_,1+1,by omega,by go_num,_,_,_,_,_,_,N.put _ _,fun e=>absurd e (by omega),fun _=>hb.far2 hk0 N _ _⟩
                 repeat' (first | (with_reducible exact HX) | (with_reducible refine below_alloc ?_ _) | (with_reducible refine Below.setCell ?_ ?_ _) | go_size | omega)
             · obtain⟨bn,cn,hqn⟩:=hcn.out j (by omega) (by omega)
               have cc:=keepsC HX cn hgl
               have cT:=nar_w KX bn (hqn.keep HX) _ (hb.out (by omega))
               clear hz hb hcn hc0 hc1 cn
               obtain⟨z0,z1,z2,z3,z4⟩:=id N
               go_wp2_with (go_at_call 78;refine (cT).mono ?_;rintro _ V6 ⟨⟨v',rfl,hb⟩,hb1⟩;obtain⟨A1,n1,C1,A2,n2,C2,rfl⟩:=hb.shape;replace N:=N.keep hb1;replace HX:=later HX hb1;clear hb1 z0 z1 z2 z3 z4;obtain⟨z0,z1,z2,z3,z4⟩:=id N)
               go_roundg (10-j-1)
               case measure=>omega
               case rel =>
                 refine⟨?_,j+1,by omega,by go_num,_,_,_,_,_,_,N.put _ _,fun e=>absurd e (by omega),fun _=>hb.far2 hk0 N _ _⟩
                 repeat' (first | (with_reducible exact HX) | (with_reducible refine below_alloc ?_ _) | (with_reducible refine Below.setCell ?_ ?_ _) | go_size | omega)
     · have hlt:(i:Int)<8:=by omega
       have hbl2:Hid ((Value.func (.func 75) #[] #[.pointer (some ⟨bg,0,none⟩)] :: bs.map fnN).length≤2000000):=by show _≤_;simp;omega
       replace hbl:Hid (bs.length=i):=hbl
       obtain⟨q0,q1,q2,q3,q4,ql⟩:=id T
       have hSz:=HB.size
       go_wp2_with (first
         | (go_at_call 48;refine (cN _).mono ?_;rintro _ V3 ⟨⟨bn,rfl,hn⟩,hb1⟩;replace OW:=OW.keep hb1;replace hall:Hid (∀b∈bs,HasQ V3 b q):=fun b hb=>(hall.out b hb).keep hb1;replace T:=T.keep hb1;replace hw1:=hw1.keep hb1;replace hg1:=hg1.keep hb1;replace HB:=later HB hb1;clear hb1;clear q0 q1 q2 q3 q4 ql hSz;have hSz:=HB.size)
         | (at_builtin;refine wpList_pushF (by rfl) _ _ (by rfl) _ _ _ _ _ _ _ _ (by rfl) (by rfl) OW hbl2.out hSz HB ?_;intro v' w' hown' hB' hS' hkeep))
       go_roundg (8-i-1)
       case measure=>omega
       case rel =>
         refine⟨hB',hkeep _ _ T,i+1,bs++[bn],by omega,by go_num,by rw [List.length_append,hbl.out];rfl, ?_,hkeep _ _ hw1,hkeep _ _ hg1,fun b hb=>?_⟩
         · rw [List.map_append]
           exact hown'
         · rcases List.mem_append.1 hb with h | h
           · exact hkeep _ _ (hall.out b h)
           · have e:b=bn:=by simpa using h
             rw [e]
             exact hkeep _ _ hn
end Go.Proofs.YtnnfafilgiajoaaGreat
