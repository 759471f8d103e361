/- unit.freed: a rule without the unknowns of those that are kept. unit.kept.told: what an own unknown must be. Kept rules in a slice that grows; dimensions in a block that is written piece by piece. unit.solved: the dimensions with which all rules hold. unit's tried: what was given up by a panic with a stop is an error; Times. unit's tried, of dimensions: what was given up by a panic with a stop is an error. unit.variables.start: what all variables are, ahead of all rules. Rules of two runs: with what was told, given, all rules come to nothing; which nodes are needed. -/
import Derived.Test.YtbejmklkicoibaaKd08
import Derived.Test.YtbejmklkicoibaaKd07
import Derived.Test.YtbejmklkicoibaaKd04
import Derived.Defers
import Derived.Recover
import Derived.Laws.Pointers
namespace Go.Proofs.Ytbejmklkicoibaa
open Go.ChangeShapes Go.WideShapes Go.ChangeAt Go.RowKit
abbrev KV:=(Int×Pro)×Value
def KepAt (w:World) (A:Option Addr) (L:List KV):Prop:=L≠[]→∃b cs,A=some ⟨b,0,none⟩∧BlkAt w b 82 cs∧∀(i:Nat) kv,L[i]?=some kv→∀j u,(kepL kv.1.1 kv.1.2.1 kv.2)[j]?=some u→cs[i*16+j]?=some u
theorem KepAt.keep {w W:World} {A:Option Addr} {L:List KV} (h:KepAt w A L) (k:Below w.heap.size w W):KepAt W A L:=fun hm=>by
 obtain⟨b,cs,e,l,c⟩:=h hm
 exact⟨b,cs,e,l.keeps k,c⟩
theorem KepAt.at {w:World} {A:Option Addr} {L:List KV} (h:KepAt w A L) {i:Nat} {kv:KV} (hi:L[i]?=some kv):∃b,A=some ⟨b,0,none⟩∧b<w.heap.size∧∀j u,(kepL kv.1.1 kv.1.2.1 kv.2)[j]?=some u→w.cell? ⟨b,i*16+j,none⟩=some u:=by
 obtain⟨b,cs,e,l,c⟩:=h (fun e=>by rw [e] at hi;simp at hi)
 exact⟨b,e,l.lt,fun j u hj=>l.cell _ _ (c i kv hi j u hj)⟩
def KvOk (w:World) (L:List KV):Prop:=∀x,x∈L→FSl w x.2 x.1.2.2
theorem KvOk.keep {w W:World} {L:List KV} (h:KvOk w L) (k:Below w.heap.size w W):KvOk W L:=fun x hx=>(h x hx).keep k
theorem BlkAt.ruleb {w:World} {g:Nat} {T:TypeId} {o:Int} {E:Nat→Int×Int} {s:Value} (h:BlkAt w g T (kepL o E s)):∀W,(∃n:Behind w,W=n.W)→∀j v,(proL E s)[j]?=some v→W.cell? ⟨g,0+1+j,none⟩=some v:=fun W hW j v hj=>by
 have q:=h.behind W hW (1+j) v (by rw [Nat.add_comm];exact hj)
 rw [Nat.zero_add] at q ⊢
 exact q
set_option maxRecDepth 4000 in
set_option maxHeartbeats 8000000 in
theorem ufreed_w (E:Nat→Int×Int) (Ls:List Fac) (s:Value) (A:Option Addr) (C:Nat) (L:List KV) (V:Int) (hV:0≤V∧V≤500) (hR:POk V (E,Ls)) (hL:L.length≤100000) (hK:∀x,x∈L→POk V x.1.2∧(0≤x.1.1∧x.1.1<V)) (w:World) (fs:FSl w s Ls) (VA:KepAt w A L) (VO:KvOk w L) :
   Calls Try.prog 34 #[proV E s,.slice A L.length C] w fun r w'=>PrAns r w' (freedF (E,Ls) (L.map (·.1)))∧Below w.heap.size w w':=by
 obtain⟨R,hRR⟩:∃R,Hid (freedF (E,Ls) (L.map (·.1))=R):=⟨_,rfl⟩
 rw [hRR.out]
 obtain⟨n,hn⟩:∃n,Hid (n=L.length):=⟨_,rfl⟩
 rw [←hn.out]
 have hn5:n≤100000:=by have:=hn.out;omega
 have cw:=fun W=>uwhole_w 0 W
 have HP:Hid (POk V (E,Ls)):=hR
 have HK:Hid (∀x,x∈L→POk V x.1.2∧(0≤x.1.1∧x.1.1<V)):=hK
 have HV:Hid (0≤V∧V≤500):=hV
 obtain⟨As,cs,rfl,hcs,fas⟩:=fs
 clear hR hL hK hV
 show Calls Try.prog _ #[.agg #[.int .i64 (E 0).1,.int .i64 (E 0).2,.int .i64 (E 1).1,.int .i64 (E 1).2,.int .i64 (E 2).1,.int .i64 (E 2).2,.int .i64 (E 3).1,.int .i64 (E 3).2,.int .i64 (E 4).1,.int .i64 (E 4).2,.int .i64 (E 5).1,.int .i64 (E 5).2,.int .i64 (E 6).1,.int .i64 (E 6).2,.slice As Ls.length cs],_] w _
 obtain⟨XB,RB,HB⟩:=blks2 w 79 79 [.int .i64 (E 0).1,.int .i64 (E 0).2,.int .i64 (E 1).1,.int .i64 (E 1).2,.int .i64 (E 2).1,.int .i64 (E 2).2,.int .i64 (E 3).1,.int .i64 (E 3).2,.int .i64 (E 4).1,.int .i64 (E 4).2,.int .i64 (E 5).1,.int .i64 (E 5).2,.int .i64 (E 6).1,.int .i64 (E 6).2,.slice As Ls.length cs] [.int .i64 0,.int .i64 0,.int .i64 0,.int .i64 0,.int .i64 0,.int .i64 0,.int .i64 0,.int .i64 0,.int .i64 0,.int .i64 0,.int .i64 0,.int .i64 0,.int .i64 0,.int .i64 0,.slice none 0 0]
 go_enter Try.func34,Try.ntmps34
 go_upto_region 1 with fail
 generalize ((w.alloc (.cells #[.int .i64 (E 0).1,.int .i64 (E 0).2,.int .i64 (E 1).1,.int .i64 (E 1).2,.int .i64 (E 2).1,.int .i64 (E 2).2,.int .i64 (E 3).1,.int .i64 (E 3).2,.int .i64 (E 4).1,.int .i64 (E 4).2,.int .i64 (E 5).1,.int .i64 (E 5).2,.int .i64 (E 6).1,.int .i64 (E 6).2,.slice As Ls.length cs] 79)).alloc (.cells #[.int .i64 0,.int .i64 0,.int .i64 0,.int .i64 0,.int .i64 0,.int .i64 0,.int .i64 0,.int .i64 0,.int .i64 0,.int .i64 0,.int .i64 0,.int .i64 0,.int .i64 0,.int .i64 0,.slice none 0 0] 79))=V1 at *
 replace fas:=fas.keep HB
 replace hcs:Hid (Ls.length≤cs):=hcs
 go_wp2_with fail
 go_loopg [10] n (fun G s10 wx=>∃(i:Nat) (Y:Pro) (Ay:Option Addr) (cy:Nat),i+G=n∧s10=.int .i64 (i:Int)∧Hid (freedF Y ((L.drop i).map (·.1))=R)∧Hid (POk V Y)∧Below w.heap.size w wx∧BlkAt wx w.heap.size 79 (proL Y.1 (.slice Ay Y.2.length cy))∧BlkAt wx (w.heap.size+1) 79 [.int .i64 0,.int .i64 0,.int .i64 0,.int .i64 0,.int .i64 0,.int .i64 0,.int .i64 0,.int .i64 0,.int .i64 0,.int .i64 0,.int .i64 0,.int .i64 0,.int .i64 0,.int .i64 0,.slice none 0 0]∧Hid (Y.2.length≤cy)∧FacAt wx Ay Y.2)
 case atStart=>exact⟨0,(E,Ls),As,cs,by omega,rfl,by rw [List.drop_zero];exact hRR,HP,HB,XB,RB,hcs,fas⟩
 case round =>
   clear HB XB RB fas hcs
   obtain⟨i,Y,Ay,cy,hi,rfl,hF,hY,HB,XB,RB,hcy,fl⟩:=hrel
   by_cases ci:i=n
   · have eR:R=some Y:=by
       have q:=hF.out
       rw [List.drop_of_length_le (by have:=hn.out;omega)] at q
       exact q.symm
     subst eR
     clear hRR hF
     subst ci
     go_wp2_with (first
       | (refine wpList_loadBig (by rfl) _ 79 (by rfl) Try.underlying79 (proL Y.1 (.slice Ay Y.2.length cy)) (by kernel_rfl) (by rfl) (XB.cell0) (pro_val _ _) ?_)
       | (refine wpList_storeBig (by rfl) _ _ 79 (by rfl) (RB) (proL Y.1 (.slice Ay Y.2.length cy)) (by kernel_rfl) (by rfl) (by rfl) (by rfl) (by rfl) ?_;rintro V2 XR hs2 hB2 hk2))
     have fl2:=fl.other RB (by decide) hk2
     exact bodyPost_ret (v:=proV Y.1 (.slice Ay Y.2.length cy)) (results_cell_row Try.results34 _ V2 (w.heap.size+1) 79 (proL Y.1 (.slice Ay Y.2.length cy)).toArray (0,0) _ (by rfl) XR Try.underlying79 (by rfl) (by kernel_rfl)) rfl ⟨Or.inl ⟨Y,_,rfl,rfl,Ay,cy,rfl,hcy.out,fl2⟩,hB2 _ _ HB (by omega)⟩
   · have hin:i<L.length:=by have:=hn.out;omega
     obtain⟨kv,hkv⟩:∃kv,L[i]?=some kv:=⟨_,List.getElem?_eq_getElem hin⟩
     have hdr:(L.drop i).map (·.1)=kv.1 :: (L.drop (i+1)).map (·.1):=by
       have e:=List.getElem?_eq_getElem hin
       rw [hkv] at e
       rw [List.drop_eq_getElem_cons hin,←Option.some.inj e]
       rfl
     have hF2:Hid ((if coF kv.1.1 Y.2=(0,1) then freedF Y ((L.drop (i+1)).map (·.1)) else (timesP Y kv.1.2 (negR (coF kv.1.1 Y.2))).bind fun Z=>freedF Z ((L.drop (i+1)).map (·.1)))=R):=by
       have q:=hF.out
       rw [hdr,freedF] at q
       exact q
     obtain⟨kb,hA,lk,gk2⟩:=(VA.keep HB).at hkv
     obtain⟨Ak,ck,e2,hck,fak⟩:=VO kv (List.mem_of_getElem? hkv)
     obtain⟨hk1,hk2,hk3⟩:=HK.out kv (List.mem_of_getElem? hkv)
     rw [e2] at gk2
     subst hA
     have hlt:(i:Int)<(n:Int):=by omega
     have hVV:=HV.out
     have ce:=fun W f=>uexponent_w Y.1 Ay cy Y.2 kv.1.1 V hVV ⟨by omega,by omega⟩ hY.out.s W f
     have hco:ROk (coF kv.1.1 Y.2):=coF_ok hY.out.f
     have hl1:=hY.out.s.length hVV.1
     have hl2:=hk1.s.length hVV.1
     have ct:=fun W f1 f2=>uptimes_w Y.1 kv.1.2.1 Y.2 kv.1.2.2 (.slice Ay Y.2.length cy) (.slice Ak kv.1.2.2.length ck) (negR (coF kv.1.1 Y.2)) hY.out.d hk1.d hY.out.r hk1.r (rok_neg hco).1 hY.out.f hk1.f (by omega) W f1 f2
     have HC:Hid (ROk (coF kv.1.1 Y.2)):=hco
     have HKV:Hid (POk V kv.1.2):=hk1
     have fk:FSl w (.slice Ak kv.1.2.2.length ck) kv.1.2.2:=⟨Ak,ck,rfl,hck,fak⟩
     replace hkv:Hid (L[i]?=some kv):=hkv
     clear hF hdr e2 hck fak hk1 hk2 hk3 hVV hco hl1 hl2 hin
     obtain⟨e,he⟩:∃e,Hid (coF kv.1.1 Y.2=e):=⟨_,rfl⟩
     rw [he.out] at ce ct
     rw [he.out] at hF2 HC
     clear he
     go_upto_region 4 with (first
       | (refine wpList_loadBig (by rfl) _ 82 (by rfl) Try.underlying82 (kepL kv.1.1 kv.1.2.1 (.slice Ak kv.1.2.2.length ck)) (by kernel_rfl) (by rfl) (fun j u hj=>gk2 j u hj) (kep_val _ _ _) ?_)
       | (refine wpList_storeBig (by rfl) _ _ 82 (by rfl) (blk_new _ _ _) (kepL kv.1.1 kv.1.2.1 (.slice Ak kv.1.2.2.length ck)) (by kernel_rfl) (by rfl) (by rfl) (by rfl) (by rfl) ?_;rintro V2 XR hs2 hB2 hk2))
     have XK:=XR
     have hkb:w.heap.size+1<wr.heap.size:=RB.lt
     have GA:=Below.alloc (Below.refl wr.heap.size wr) (Nat.le_refl _) (.cells #[.int .i64 0,.int .i64 0,.int .i64 0,.int .i64 0,.int .i64 0,.int .i64 0,.int .i64 0,.int .i64 0,.int .i64 0,.int .i64 0,.int .i64 0,.int .i64 0,.int .i64 0,.int .i64 0,.int .i64 0,.slice none 0 0] 82)
     replace XB:=hk2 _ _ _ (by omega) (XB.keeps GA)
     replace RB:=hk2 _ _ _ (by omega) (RB.keeps GA)
     replace HB:=hB2 _ _ (Below.alloc HB HB.size _) HB.size
     replace fl:=(fl.keep GA).other (blk_new wr 82 [.int .i64 0,.int .i64 0,.int .i64 0,.int .i64 0,.int .i64 0,.int .i64 0,.int .i64 0,.int .i64 0,.int .i64 0,.int .i64 0,.int .i64 0,.int .i64 0,.int .i64 0,.int .i64 0,.int .i64 0,.slice none 0 0]) (by decide) hk2
     obtain⟨kb2,hkb2⟩:∃kb2,kb2=wr.heap.size:=⟨_,rfl⟩
     rw [←hkb2] at XK hkb ⊢
     clear XR hB2 hk2 hs2 hkb2 GA gk2 lk
     have xo:=XK.cell 0 _ rfl
     try simp only [Act.put]
     go_upto_region 5 with (first
       | (refine wpList_loadBig (by rfl) _ 79 (by rfl) Try.underlying79 (proL Y.1 (.slice Ay Y.2.length cy)) (by kernel_rfl) (by rfl) (XB.cell0) (pro_val _ _) ?_)
       | (go_at_call 55;(with_reducible refine (ce _ fl).mono ?_);rintro _ W4 ⟨rfl,hb1⟩;replace HB:=later HB hb1;replace RB:=RB.keeps hb1;replace XB:=XB.keeps hb1;replace XK:=XK.keeps hb1;replace fl:=fl.keep hb1;clear hb1 xo)
       | (refine wpList_storeBig (by rfl) _ _ 27 (by rfl) (blk_new _ _ _) ([.int .i64 e.1,.int .i64 e.2]) (by kernel_rfl) (by rfl) (by rfl) (by rfl) (by rfl) ?_;rintro V3 XR hs2 hB2 hk2))
     have XE:=XR
     have heb:kb2<W4.heap.size:=XK.lt
     have GA:=Below.alloc (Below.refl W4.heap.size W4) (Nat.le_refl _) (.cells #[.int .i64 0,.int .i64 0] 27)
     replace XB:=hk2 _ _ _ (by omega) (XB.keeps GA)
     replace RB:=hk2 _ _ _ (by omega) (RB.keeps GA)
     replace XK:=hk2 _ _ _ (by omega) (XK.keeps GA)
     replace HB:=hB2 _ _ (Below.alloc HB HB.size _) HB.size
     replace fl:=(fl.keep GA).other (blk_new W4 27 [.int .i64 0,.int .i64 0]) (by decide) hk2
     obtain⟨eb,heb2⟩:∃eb,eb=W4.heap.size:=⟨_,rfl⟩
     rw [←heb2] at XE heb ⊢
     clear XR hB2 hk2 hs2 heb2 GA ce
     try simp only [Act.put]
     go_cut [20] from 18 to 20 (fun s20 wy=>s20=.bool (!decide (e=(0,1)))∧Below w.heap.size w wy∧BlkAt wy w.heap.size 79 (proL Y.1 (.slice Ay Y.2.length cy))∧BlkAt wy (w.heap.size+1) 79 [.int .i64 0,.int .i64 0,.int .i64 0,.int .i64 0,.int .i64 0,.int .i64 0,.int .i64 0,.int .i64 0,.int .i64 0,.int .i64 0,.int .i64 0,.int .i64 0,.int .i64 0,.int .i64 0,.slice none 0 0]∧BlkAt wy kb2 82 (kepL kv.1.1 kv.1.2.1 (.slice Ak kv.1.2.2.length ck))∧BlkAt wy eb 27 [.int .i64 e.1,.int .i64 e.2]∧Hid (Y.2.length≤cy)∧FacAt wy Ay Y.2)
     case first =>
       have ka:=fun n:Behind V3=>n.cell (XE.cell 0 _ rfl) XE.lt
       have kb:=fun n:Behind V3=>n.cell (XE.cell 1 _ rfl) XE.lt
       by_cases c1:e.1=0
       · by_cases c2:e.2=1
         · skip
           refine region_behind (by kernel_rfl) (by kernel_rfl) ?_
           repeat (go_big_quiet_step (first | (go_at_call 56;with_reducible refine Behind.call (cw _))))
           refine wpQuiet_nil ?_
           rintro _ ⟨q,rfl⟩
           obtain⟨W,hb1⟩:=q
           dsimp only
           go_wp2_with fail
           go_meet
           case rel=>exact⟨by rw [decide_eq_true (Prod.ext c1 c2:e=(0,1))];rfl,later HB hb1,XB.keeps hb1,RB.keeps hb1,XK.keeps hb1,XE.keeps hb1,hcy,fl.keep hb1⟩
         · skip
           refine region_behind (by kernel_rfl) (by kernel_rfl) ?_
           repeat (go_big_quiet_step (first | (go_at_call 56;with_reducible refine Behind.call (cw _))))
           refine wpQuiet_nil ?_
           rintro _ ⟨q,rfl⟩
           obtain⟨W,hb1⟩:=q
           dsimp only
           go_wp2_with fail
           go_meet
           case rel=>exact⟨by rw [decide_eq_false (fun h:e=(0,1)=>c2 (by rw [h]))];rfl,later HB hb1,XB.keeps hb1,RB.keeps hb1,XK.keeps hb1,XE.keeps hb1,hcy,fl.keep hb1⟩
       · skip
         refine region_behind (by kernel_rfl) (by kernel_rfl) ?_
         repeat (go_big_quiet_step (first | (go_at_call 56;with_reducible refine Behind.call (cw _))))
         refine wpQuiet_nil ?_
         rintro _ ⟨q,rfl⟩
         obtain⟨W,hb1⟩:=q
         dsimp only
         go_wp2_with fail
         go_meet
         case rel=>exact⟨by rw [decide_eq_false (fun h:e=(0,1)=>c1 (by rw [h]))];rfl,later HB hb1,XB.keeps hb1,RB.keeps hb1,XK.keeps hb1,XE.keeps hb1,hcy,fl.keep hb1⟩
     case rest =>
     clear HB XB RB XK XE fl hcy
     obtain⟨rfl,HB,XB,RB,XK,XE,hcy,fl⟩:=hcut
     by_cases c:e=(0,1)
     · have hF3:Hid (freedF Y ((L.drop (i+1)).map (·.1))=R):=by
         have q:=hF2.out
         rw [if_pos c] at q
         exact q
       have cd:decide (e=(0,1))=true:=decide_eq_true c
       rw [cd]
       clear hF2 c cd
       go_wp2_with fail
       go_roundg (n-i-1)
       case measure=>omega
       case rel=>exact⟨i+1,Y,Ay,cy,by omega,by go_num,hF3,hY,HB,XB,RB,hcy,fl⟩
     · have hF3:Hid (((timesP Y kv.1.2 (negR e)).bind fun Z=>freedF Z ((L.drop (i+1)).map (·.1)))=R):=by
         have q:=hF2.out
         rw [if_neg c] at q
         exact q
       have cd:decide (e=(0,1))=false:=decide_eq_false c
       rw [cd]
       clear hF2 c cd
       have cs:=fun W=>subRat_w 0 1 e.1 e.2 rok_zero.2 HC.out.2 W
       rw [sub_neg HC.out] at cs
       have cm:=fun W=>must_ok (negR e).1 (negR e).2 W
       have fsl:FSl wc (.slice Ay Y.2.length cy) Y.2:=⟨Ay,cy,rfl,hcy.out,fl⟩
       obtain⟨T,hT⟩:∃T,Hid (timesP Y kv.1.2 (negR e)=T):=⟨_,rfl⟩
       have ct2:∀W,FSl W (.slice Ay Y.2.length cy) Y.2→FSl W (.slice Ak kv.1.2.2.length ck) kv.1.2.2→Calls Try.prog 57 #[proV Y.1 (.slice Ay Y.2.length cy),proV kv.1.2.1 (.slice Ak kv.1.2.2.length ck),.agg #[.int .i64 (negR e).1,.int .i64 (negR e).2]] W fun r w'=>PrAns r w' T∧Below W.heap.size W w':=by
         rw [←hT.out]
         exact ct
       rw [hT.out] at hF3
       have hTY:Hid (∀Z,T=some Z→POk V Z):=fun Z hZ=>(timesP_some hY.out HKV.out (rok_neg HC.out).1 (hT.out.trans hZ)).1
       clear ct hT HC HKV
       go_upto_region 6 with fail
       have ka:=fun n:Behind wc=>n.cell (XE.cell 0 _ rfl) XE.lt
       have kb:=fun n:Behind wc=>n.cell (XE.cell 1 _ rfl) XE.lt
       refine tail_behind 9 (by kernel_rfl) (by kernel_rfl) ?_
       simp only [List.take_succ_cons,List.take_zero,List.drop_succ_cons,List.drop_zero]
       repeat (first
         | (go_big_quiet_want;refine quiet_loadBig _ 79 (by rfl) Try.underlying79 (proL Y.1 (.slice Ay Y.2.length cy)) (by kernel_rfl) (by rfl) (XB.behind) (pro_val _ _) ?_;simp only [Act.put,List.setIfInBounds_toArray,List.set_cons_zero,List.set_cons_succ];go_big_quiet_on)
         | (go_big_quiet_want;refine quiet_loadBig _ 79 (by rfl) Try.underlying79 (proL kv.1.2.1 (.slice Ak kv.1.2.2.length ck)) (by kernel_rfl) (by rfl) (XK.ruleb) (pro_val _ _) ?_;simp only [Act.put,List.setIfInBounds_toArray,List.set_cons_zero,List.set_cons_succ];go_big_quiet_on)
         | (go_big_quiet_step (first | (go_at_call 56;with_reducible refine Behind.call (cw _)) | (go_at_call 59;with_reducible refine Behind.call (cs _)) | (go_at_call 58;with_reducible refine Behind.call (cm _)))))
       refine wpQuiet_nil ?_
       rintro _ ⟨q,rfl⟩
       obtain⟨W,hb1⟩:=q
       dsimp only
       clear ka kb cs cm
       replace HB:=later HB hb1
       replace RB:=RB.keeps hb1
       replace XB:=XB.keeps hb1
       clear XK XE fl
       replace fsl:=fsl.keep hb1
       clear hb1
       cases T with
       | none =>
         have eR:Hid (R=none):=hF3.out.symm
         go_wp2_with (go_at_call 57;(with_reducible refine (ct2 _ fsl (fk.keep HB)).mono ?_);rintro r W2 ⟨hM,hb2⟩;have hr:=hM.no;subst hr;exact⟨rfl,Or.inr ⟨eR.out,rfl⟩,later HB hb2⟩)
       | some Z =>
         replace hF3:Hid (freedF Z ((L.drop (i+1)).map (·.1))=R):=hF3
         go_wp2_with (first
           | (go_at_call 57;(with_reducible refine (ct2 _ fsl (fk.keep HB)).mono ?_);rintro r W5 ⟨hM,hb2⟩;obtain⟨s9,hr,A9,c9,rfl,hc9,fa9⟩:=hM.yes;replace hr:r=.returned (.agg (proL Z.1 (.slice A9 Z.2.length c9)).toArray):=hr;subst hr;replace HB:=later HB hb2;replace RB:=RB.keeps hb2;replace XB:=XB.keeps hb2;clear hb2 hM)
           | (refine wpList_storeBig (by rfl) _ _ 79 (by rfl) (XB) (proL Z.1 (.slice A9 Z.2.length c9)) (by kernel_rfl) (by rfl) (by rfl) (by rfl) (by rfl) ?_;rintro V9 XR hs2 hB2 hk2))
         replace RB:=hk2 _ _ _ (by omega) RB
         replace fa9:=fa9.other XB (by decide) hk2
         replace HB:=hB2 _ _ HB (Nat.le_refl _)
         go_roundg (n-i-1)
         case measure=>omega
         case rel=>exact⟨i+1,Z,A9,c9,by omega,by go_num,hF3,hTY.out Z rfl,HB,XR,RB,hc9,fa9⟩
def DmAns (r:Ending) (R:Option (Nat→Int×Int)):Prop:=(∃E,R=some E∧r=.returned (dimV E))∨(R=none∧r=.panicked (stopP 3))
theorem DmAns.yes {r:Ending} {E:Nat→Int×Int} (h:DmAns r (some E)):r=.returned (.agg #[.int .i64 (E 0).1,.int .i64 (E 0).2,.int .i64 (E 1).1,.int .i64 (E 1).2,.int .i64 (E 2).1,.int .i64 (E 2).2,.int .i64 (E 3).1,.int .i64 (E 3).2,.int .i64 (E 4).1,.int .i64 (E 4).2,.int .i64 (E 5).1,.int .i64 (E 5).2,.int .i64 (E 6).1,.int .i64 (E 6).2]):=by
 rcases h with ⟨E2,e,hr⟩ | ⟨e,_⟩
 · cases e;exact hr
 · cases e
theorem DmAns.no {r:Ending} (h:DmAns r none):r=.panicked (stopP 3):=by
 rcases h with ⟨_,e,_⟩ | ⟨_,hr⟩
 · cases e
 · exact hr
theorem BlkAt.kdim {w:World} {g:Nat} {T:TypeId} {o:Int} {E:Nat→Int×Int} {s:Value} (h:BlkAt w g T (kepL o E s)):∀j v,(dimL E)[j]?=some v→w.cell? ⟨g,1+j,none⟩=some v:=fun j v hj=>by
 have q:=h.cell0 (1+j) v (by rw [Nat.add_comm];exact proL_dim (s:=s) j v hj)
 rw [Nat.zero_add] at q
 exact q
theorem utimesO_w (A B:Nat→Int×Int) (p:Int×Int) (hA:Dim64 A) (hB:Dim64 B) (rA:drK A 7=true) (rB:drK B 7=true) (hp:ROk p) (w:World) :
   Calls Try.prog 62 #[.agg #[.int .i64 (A 0).1,.int .i64 (A 0).2,.int .i64 (A 1).1,.int .i64 (A 1).2,.int .i64 (A 2).1,.int .i64 (A 2).2,.int .i64 (A 3).1,.int .i64 (A 3).2,.int .i64 (A 4).1,.int .i64 (A 4).2,.int .i64 (A 5).1,.int .i64 (A 5).2,.int .i64 (A 6).1,.int .i64 (A 6).2],.agg #[.int .i64 (B 0).1,.int .i64 (B 0).2,.int .i64 (B 1).1,.int .i64 (B 1).2,.int .i64 (B 2).1,.int .i64 (B 2).2,.int .i64 (B 3).1,.int .i64 (B 3).2,.int .i64 (B 4).1,.int .i64 (B 4).2,.int .i64 (B 5).1,.int .i64 (B 5).2,.int .i64 (B 6).1,.int .i64 (B 6).2],.agg #[.int .i64 p.1,.int .i64 p.2]] w fun r w'=>DmAns r (if tmF A B p.1 p.2 7=0 then some (tmD A B p.1 p.2 7) else none)∧Below w.heap.size w w':=by
 refine (utimes_w A B p.1 p.2 hA hB hp.2 rA rB hp.1 w).mono ?_
 rintro r w' ⟨rfl,hb⟩
 refine⟨?_,hb⟩
 by_cases z:tmF A B p.1 p.2 7=0
 · rw [if_pos z,if_pos z];exact Or.inl ⟨_,rfl,rfl⟩
 · rw [if_neg z,if_neg z,(tmF_err rA rB hp.1 7 (Nat.le_refl _)).resolve_left z];exact Or.inr ⟨rfl,rfl⟩
set_option maxRecDepth 4000 in
set_option maxHeartbeats 8000000 in
theorem utold_w (k:Int×Pro) (s:Value) (V:Int) (hk:POk V k.2) (hV:0≤V∧V≤500) (dA:Option Addr) (n dC:Nat) (D:Nat→Nat→Int×Int) (hn:V=(n:Int)) (hD:∀v:Nat,v<n→Dim64 (D v)∧drK (D v) 7=true) (w:World) (fs:FSl w s k.2.2) (VD:Dms w dA n D) :
   Calls Try.prog 37 #[kepV k.1 k.2.1 s,.slice dA n dC] w fun r w'=>DmAns r (toldF D k)∧Below w.heap.size w w':=by
 obtain⟨R,hRR⟩:∃R,Hid (toldF D k=R):=⟨_,rfl⟩
 rw [hRR.out]
 have cp:∀W,Calls Try.prog 40 #[] W fun r w'=>r=.returned (.agg #[.int .i64 (plE 0).1,.int .i64 (plE 0).2,.int .i64 (plE 1).1,.int .i64 (plE 1).2,.int .i64 (plE 2).1,.int .i64 (plE 2).2,.int .i64 (plE 3).1,.int .i64 (plE 3).2,.int .i64 (plE 4).1,.int .i64 (plE 4).2,.int .i64 (plE 5).1,.int .i64 (plE 5).2,.int .i64 (plE 6).1,.int .i64 (plE 6).2])∧Below W.heap.size W w':=fun W=>uplain_w W
 have cw:=fun W=>uwhole_w (-1) W
 have HP:Hid (POk V k.2):=hk
 have HD:Hid (∀v:Nat,v<n→Dim64 (D v)∧drK (D v) 7=true):=hD
 have HN:Hid (V=(n:Int)∧0≤V∧V≤500):=⟨hn,hV⟩
 obtain⟨As,cs,rfl,hcs,fas⟩:=fs
 obtain⟨m,hm⟩:∃m,Hid (m=k.2.2.length):=⟨_,rfl⟩
 rw [←hm.out] at hcs ⊢
 have hm5:m≤1000:=by have:=hm.out;have:=hk.s.length hV.1;omega
 have hn5:n≤1000:=by omega
 clear hk hD hn hV hcs
 replace hRR:Hid (((toldS D k.1 k.2.2 k.2.1).bind fun E=>if tmF plE E (-1) 1 7=0 then some (tmD plE E (-1) 1 7) else none)=R):=hRR
 show Calls Try.prog _ #[.agg #[.int .i64 k.1,.int .i64 (k.2.1 0).1,.int .i64 (k.2.1 0).2,.int .i64 (k.2.1 1).1,.int .i64 (k.2.1 1).2,.int .i64 (k.2.1 2).1,.int .i64 (k.2.1 2).2,.int .i64 (k.2.1 3).1,.int .i64 (k.2.1 3).2,.int .i64 (k.2.1 4).1,.int .i64 (k.2.1 4).2,.int .i64 (k.2.1 5).1,.int .i64 (k.2.1 5).2,.int .i64 (k.2.1 6).1,.int .i64 (k.2.1 6).2,.slice As m cs],_] w _
 obtain⟨XB,RB,HB⟩:=blks2 w 82 30 [.int .i64 k.1,.int .i64 (k.2.1 0).1,.int .i64 (k.2.1 0).2,.int .i64 (k.2.1 1).1,.int .i64 (k.2.1 1).2,.int .i64 (k.2.1 2).1,.int .i64 (k.2.1 2).2,.int .i64 (k.2.1 3).1,.int .i64 (k.2.1 3).2,.int .i64 (k.2.1 4).1,.int .i64 (k.2.1 4).2,.int .i64 (k.2.1 5).1,.int .i64 (k.2.1 5).2,.int .i64 (k.2.1 6).1,.int .i64 (k.2.1 6).2,.slice As m cs] [.int .i64 0,.int .i64 0,.int .i64 0,.int .i64 0,.int .i64 0,.int .i64 0,.int .i64 0,.int .i64 0,.int .i64 0,.int .i64 0,.int .i64 0,.int .i64 0,.int .i64 0,.int .i64 0]
 go_enter Try.func37,Try.ntmps37
 go_upto_region 1 with fail
 generalize ((w.alloc (.cells #[.int .i64 k.1,.int .i64 (k.2.1 0).1,.int .i64 (k.2.1 0).2,.int .i64 (k.2.1 1).1,.int .i64 (k.2.1 1).2,.int .i64 (k.2.1 2).1,.int .i64 (k.2.1 2).2,.int .i64 (k.2.1 3).1,.int .i64 (k.2.1 3).2,.int .i64 (k.2.1 4).1,.int .i64 (k.2.1 4).2,.int .i64 (k.2.1 5).1,.int .i64 (k.2.1 5).2,.int .i64 (k.2.1 6).1,.int .i64 (k.2.1 6).2,.slice As m cs] 82)).alloc (.cells #[.int .i64 0,.int .i64 0,.int .i64 0,.int .i64 0,.int .i64 0,.int .i64 0,.int .i64 0,.int .i64 0,.int .i64 0,.int .i64 0,.int .i64 0,.int .i64 0,.int .i64 0,.int .i64 0] 30))=V1 at *
 have x0:=XB.cell 0 _ rfl
 have x15:=XB.cell 15 _ rfl
 go_upto_region 2 with (first
   | (refine wpList_loadBig (by rfl) _ 30 (by rfl) Try.underlying30 (dimL k.2.1) (by kernel_rfl) (by rfl) ((fun j c hj=>by have q:=XB.kdim j c hj;exact q)) (dim_val k.2.1) ?_)
   | (refine wpList_storeBig (by rfl) _ _ 30 (by rfl) (blk_new _ _ _) (dimL k.2.1) (by kernel_rfl) (by rfl) (by rfl) (by rfl) (by rfl) ?_;rintro V2 XR hs2 hB2 hk2))
 have SX:=XR
 have hsb:w.heap.size+1<V1.heap.size:=RB.lt
 have GA:=Below.alloc (Below.refl V1.heap.size V1) (Nat.le_refl _) (.cells #[.int .i64 0,.int .i64 0,.int .i64 0,.int .i64 0,.int .i64 0,.int .i64 0,.int .i64 0,.int .i64 0,.int .i64 0,.int .i64 0,.int .i64 0,.int .i64 0,.int .i64 0,.int .i64 0] 30)
 replace XB:=hk2 _ _ _ (by omega) (XB.keeps GA)
 replace RB:=hk2 _ _ _ (by omega) (RB.keeps GA)
 replace HB:=hB2 _ _ (Below.alloc HB HB.size _) HB.size
 obtain⟨sb,hsb2⟩:∃sb,sb=V1.heap.size:=⟨_,rfl⟩
 rw [←hsb2] at SX hsb ⊢
 clear XR hB2 hk2 hs2 hsb2 GA x0 x15
 try simp only [Act.put]
 have x15:=XB.cell 15 _ rfl
 go_wp2_with fail
 clear x15
 go_loopg [15] m (fun G s15 wx=>∃(i:Nat) (E:Nat→Int×Int),i+G=m∧s15=.int .i64 (i:Int)∧Hid (((toldS D k.1 (k.2.2.drop i) E).bind fun E=>if tmF plE E (-1) 1 7=0 then some (tmD plE E (-1) 1 7) else none)=R)∧Hid (Dim64 E∧drK E 7=true)∧Below w.heap.size w wx∧BlkAt wx w.heap.size 82 (kepL k.1 k.2.1 (.slice As m cs))∧BlkAt wx (w.heap.size+1) 30 [.int .i64 0,.int .i64 0,.int .i64 0,.int .i64 0,.int .i64 0,.int .i64 0,.int .i64 0,.int .i64 0,.int .i64 0,.int .i64 0,.int .i64 0,.int .i64 0,.int .i64 0,.int .i64 0]∧BlkAt wx sb 30 (dimL E))
 case atStart=>exact⟨0,k.2.1,by omega,rfl,by rw [List.drop_zero];exact hRR,⟨HP.out.d,HP.out.r⟩,HB,XB,RB,SX⟩
 case round =>
   clear HB XB RB SX hRR
   obtain⟨i,E,hi,rfl,hF,hE,HB,XB,RB,SX⟩:=hrel
   by_cases ci:i=m
   · have hF2:Hid ((if tmF plE E (-1) 1 7=0 then some (tmD plE E (-1) 1 7) else none)=R):=by
       have q:=hF.out
       rw [List.drop_of_length_le (by have:=hm.out;omega)] at q
       exact q
     have ct:=fun W=>utimesO_w plE E (-1,1) plE_ok.1 hE.out.1 plE_ok.2 hE.out.2 rok_mone W
     dsimp only at ct
     rw [hF2.out] at ct
     clear hF hF2
     subst ci
     go_upto_region 8 with fail
     refine tail_behind 3 (by kernel_rfl) (by kernel_rfl) ?_
     simp only [List.take_succ_cons,List.take_zero,List.drop_succ_cons,List.drop_zero]
     repeat (first
       | (go_big_quiet_want;refine quiet_loadBig _ 30 (by rfl) Try.underlying30 (dimL E) (by kernel_rfl) (by rfl) (SX.behind) (dim_valU E) ?_;simp only [Act.put,List.setIfInBounds_toArray,List.set_cons_zero,List.set_cons_succ];go_big_quiet_on)
       | (go_big_quiet_step (first | (go_at_call 40;with_reducible refine Behind.call (cp _)) | (go_at_call 56;with_reducible refine Behind.call (cw _)))))
     refine wpQuiet_nil ?_
     rintro _ ⟨q,rfl⟩
     obtain⟨W,hb1⟩:=q
     dsimp only
     clear cp cw
     replace HB:=later HB hb1
     replace RB:=RB.keeps hb1
     clear hb1 XB SX
     cases R with
     | none =>
       go_wp2_with (go_at_call 62;(with_reducible refine (ct _).mono ?_);rintro r W2 ⟨hM,hb2⟩;have hr:=hM.no;subst hr;exact⟨rfl,Or.inr ⟨rfl,rfl⟩,later HB hb2⟩)
     | some Z =>
       go_wp2_with (first
         | (go_at_call 62;(with_reducible refine (ct _).mono ?_);rintro r W5 ⟨hM,hb2⟩;have hr:=hM.yes;subst hr;replace HB:=later HB hb2;replace RB:=RB.keeps hb2;clear hb2 hM)
         | (refine wpList_storeBig (by rfl) _ _ 30 (by rfl) (RB) (dimL Z) (by kernel_rfl) (by rfl) (by rfl) (by rfl) (by rfl) ?_;rintro V9 XR hs2 hB2 hk2))
       exact bodyPost_ret (v:=dimV Z) (results_cell_row Try.results37 _ V9 (w.heap.size+1) 30 (dimL Z).toArray (0,0) _ (by rfl) XR Try.underlying30 (by rfl) (by kernel_rfl)) rfl ⟨Or.inl ⟨Z,rfl,rfl⟩,hB2 _ _ HB (by omega)⟩
   · have hin:i<k.2.2.length:=by have:=hm.out;omega
     obtain⟨f,hf⟩:∃f,k.2.2[i]?=some f:=⟨_,List.getElem?_eq_getElem hin⟩
     have hdr:k.2.2.drop i=f :: k.2.2.drop (i+1):=by
       have e:=List.getElem?_eq_getElem hin
       rw [hf] at e
       rw [List.drop_eq_getElem_cons hin,←Option.some.inj e]
     obtain⟨u,e⟩:=f
     have hu:=rise_from HP.out.s i (u,e) hf
     obtain⟨t,rfl⟩:∃t:Nat,u=(t:Int):=⟨u.toNat,by have h0:0≤u:=hu.1;omega⟩
     have htn:t<n:=by have h1:(t:Int)<V:=hu.2;have:=HN.out;omega
     have e0:((t:Int)).toNat=t:=by omega
     have hro:ROk e:=HP.out.f ((t:Int),e) (List.mem_of_getElem? hf)
     have hF2:Hid ((((if (t:Int)=k.1 then toldS D k.1 (k.2.2.drop (i+1)) E else if tmF E (D t) e.1 e.2 7=0 then toldS D k.1 (k.2.2.drop (i+1)) (tmD E (D t) e.1 e.2 7) else none)).bind fun E=>if tmF plE E (-1) 1 7=0 then some (tmD plE E (-1) 1 7) else none)=R):=by
       have q:=hF.out
       rw [hdr,toldS] at q
       dsimp only at q
       rw [e0] at q
       exact q
     obtain⟨fb0,fo0,hA,lf,f0,f1,f2⟩:=(fas.keep HB).at hf
     obtain⟨hD1,hD2⟩:=HD.out t htn
     obtain⟨b0,o0,hA0,l0,g0⟩:=VD t htn
     have ct:=fun W=>utimesO_w E (D t) e hE.out.1 hD1 hE.out.2 hD2 hro W
     have HT:Hid (tmF E (D t) e.1 e.2 7=0→Dim64 (tmD E (D t) e.1 e.2 7)∧drK (tmD E (D t) e.1 e.2 7) 7=true):=fun z=>by
       obtain⟨a1,a2, -⟩:=tm_ok (p:=e) hE.out.2 hD2 hro z
       exact⟨a1,a2⟩
     replace g0:Hid (∀j c,(dimL (D t))[j]?=some c→w.cell? ⟨b0,o0+t*14+j,none⟩=some c):=g0
     replace hf:Hid (k.2.2[i]?=some ((t:Int),e)):=hf
     subst hA
     have hlt:(i:Int)<(m:Int):=by omega
     dsimp only at f0 f1 f2
     clear hF hdr hu hro hD1 hD2 hin e0
     go_upto_region 5 with (first
       | (refine wpList_storeBig (by rfl) _ _ 104 (by rfl) (blk_new _ _ _) ([.int .i64 (t:Int),.int .i64 e.1,.int .i64 e.2]) (by kernel_rfl) (by rfl) (by rfl) (by rfl) (by rfl) ?_;rintro V2 XR hs2 hB2 hk2))
     have XF:=XR
     have hfb:sb<wr.heap.size:=SX.lt
     have GA:=Below.alloc (Below.refl wr.heap.size wr) (Nat.le_refl _) (.cells #[.int .i64 0,.int .i64 0,.int .i64 0] 104)
     replace XB:=hk2 _ _ _ (by omega) (XB.keeps GA)
     replace RB:=hk2 _ _ _ (by omega) (RB.keeps GA)
     replace SX:=hk2 _ _ _ (by omega) (SX.keeps GA)
     replace HB:=hB2 _ _ (Below.alloc HB HB.size _) HB.size
     obtain⟨fb,hfb2⟩:∃fb,fb=wr.heap.size:=⟨_,rfl⟩
     rw [←hfb2] at XF hfb ⊢
     clear XR hB2 hk2 hs2 hfb2 GA f0 f1 f2 lf
     try simp only [Act.put]
     have x0:=XB.cell 0 _ rfl
     have y0:=XF.cell 0 _ rfl
     by_cases c:(t:Int)=k.1
     · have hF3:Hid (((toldS D k.1 (k.2.2.drop (i+1)) E).bind fun E=>if tmF plE E (-1) 1 7=0 then some (tmD plE E (-1) 1 7) else none)=R):=by
         have q:=hF2.out
         rw [if_pos c] at q
         exact q
       have c':((t:Int)==k.1)=true:=by rw [c];exact beq_self_eq_true _
       have c2:((t:Int) != k.1)=false:=by rw [c];exact bne_self_eq_false _
       replace c:Hid ((t:Int)=k.1):=c
       clear hF2
       go_wp2_with fail
       go_roundg (m-i-1)
       case measure=>omega
       case rel=>exact⟨i+1,E,by omega,by go_num,hF3,hE,HB,XB,RB,SX⟩
     · have hF3:Hid (((if tmF E (D t) e.1 e.2 7=0 then some (tmD E (D t) e.1 e.2 7) else none).bind fun X=>(toldS D k.1 (k.2.2.drop (i+1)) X).bind fun E=>if tmF plE E (-1) 1 7=0 then some (tmD plE E (-1) 1 7) else none)=R):=by
         have q:=hF2.out
         rw [if_neg c] at q
         by_cases z:tmF E (D t) e.1 e.2 7=0
         · rw [if_pos z] at q ⊢;exact q
         · rw [if_neg z] at q ⊢;exact q
       have HT2:Hid (∀X,(if tmF E (D t) e.1 e.2 7=0 then some (tmD E (D t) e.1 e.2 7) else none)=some X→Dim64 X∧drK X 7=true):=fun X hX=>by
         by_cases z:tmF E (D t) e.1 e.2 7=0
         · rw [if_pos z] at hX;rw [←Option.some.inj hX];exact HT.out z
         · rw [if_neg z] at hX;cases hX
       obtain⟨T,hT⟩:∃T,Hid ((if tmF E (D t) e.1 e.2 7=0 then some (tmD E (D t) e.1 e.2 7) else none)=T):=⟨_,rfl⟩
       have ct2:∀W,Calls Try.prog 62 #[.agg #[.int .i64 (E 0).1,.int .i64 (E 0).2,.int .i64 (E 1).1,.int .i64 (E 1).2,.int .i64 (E 2).1,.int .i64 (E 2).2,.int .i64 (E 3).1,.int .i64 (E 3).2,.int .i64 (E 4).1,.int .i64 (E 4).2,.int .i64 (E 5).1,.int .i64 (E 5).2,.int .i64 (E 6).1,.int .i64 (E 6).2],.agg #[.int .i64 (D t 0).1,.int .i64 (D t 0).2,.int .i64 (D t 1).1,.int .i64 (D t 1).2,.int .i64 (D t 2).1,.int .i64 (D t 2).2,.int .i64 (D t 3).1,.int .i64 (D t 3).2,.int .i64 (D t 4).1,.int .i64 (D t 4).2,.int .i64 (D t 5).1,.int .i64 (D t 5).2,.int .i64 (D t 6).1,.int .i64 (D t 6).2],.agg #[.int .i64 e.1,.int .i64 e.2]] W fun r w'=>DmAns r T∧Below W.heap.size W w':=by
         rw [←hT.out]
         exact ct
       rw [hT.out] at hF3 HT2
       have c':((t:Int)==k.1)=false:=beq_eq_false_iff_ne.2 c
       have c2:((t:Int) != k.1)=true:=bne_iff_ne.2 c
       clear hF2 HT ct hT
       subst hA0
       go_upto_region 6 with fail
       have ka:=fun n:Behind V2=>n.cell (XF.cell 0 _ rfl) XF.lt
       have kb:=fun n:Behind V2=>n.cell (XF.cell 1 _ rfl) XF.lt
       have kc:=fun n:Behind V2=>n.cell (XF.cell 2 _ rfl) XF.lt
       have htn2:(t:Int)<(n:Int):=by omega
       clear x0 y0
       refine tail_behind 8 (by kernel_rfl) (by kernel_rfl) ?_
       simp only [List.take_succ_cons,List.take_zero,List.drop_succ_cons,List.drop_zero]
       repeat (first
         | (go_big_quiet_want;refine quiet_loadBig _ 30 (by rfl) Try.underlying30 (dimL E) (by kernel_rfl) (by rfl) (SX.behind) (dim_valU E) ?_;simp only [Act.put,List.setIfInBounds_toArray,List.set_cons_zero,List.set_cons_succ];go_big_quiet_on)
         | (go_big_quiet_want;refine quiet_loadBig _ 30 (by rfl) Try.underlying30 (dimL (D t)) (by kernel_rfl) (by rfl) ((fun W hW j c hj=>by obtain⟨q,rfl⟩:=hW;exact keepsC (later HB q.bel) (g0.out j c hj) l0)) (dim_valU (D t)) ?_;simp only [Act.put,List.setIfInBounds_toArray,List.set_cons_zero,List.set_cons_succ];go_big_quiet_on)
         | (go_big_quiet_step (fail)))
       refine wpQuiet_nil ?_
       rintro _ ⟨q,rfl⟩
       obtain⟨W,hb1⟩:=q
       dsimp only
       clear ka kb kc
       replace HB:=later HB hb1
       replace RB:=RB.keeps hb1
       replace XB:=XB.keeps hb1
       replace SX:=SX.keeps hb1
       clear hb1 XF
       cases T with
       | none =>
         have eR:Hid (R=none):=hF3.out.symm
         go_wp2_with (go_at_call 62;(with_reducible refine (ct2 _).mono ?_);rintro r W2 ⟨hM,hb2⟩;have hr:=hM.no;subst hr;exact⟨rfl,Or.inr ⟨eR.out,rfl⟩,later HB hb2⟩)
       | some Z =>
         replace hF3:Hid (((toldS D k.1 (k.2.2.drop (i+1)) Z).bind fun E=>if tmF plE E (-1) 1 7=0 then some (tmD plE E (-1) 1 7) else none)=R):=hF3
         go_wp2_with (first
           | (go_at_call 62;(with_reducible refine (ct2 _).mono ?_);rintro r W5 ⟨hM,hb2⟩;have hr:=hM.yes;subst hr;replace HB:=later HB hb2;replace RB:=RB.keeps hb2;replace XB:=XB.keeps hb2;replace SX:=SX.keeps hb2;clear hb2 hM)
           | (refine wpList_storeBig (by rfl) _ _ 30 (by rfl) (SX) (dimL Z) (by kernel_rfl) (by rfl) (by rfl) (by rfl) (by rfl) ?_;rintro V9 XR hs2 hB2 hk2))
         replace RB:=hk2 _ _ _ (by omega) RB
         replace XB:=hk2 _ _ _ (by omega) XB
         replace HB:=hB2 _ _ HB (by omega)
         go_roundg (m-i-1)
         case measure=>omega
         case rel=>exact⟨i+1,Z,by omega,by go_num,hF3,HT2.out Z rfl,HB,XB,RB,XR⟩
def kepLs:List KV→List Value
 | []=>[]
 | x :: L=>kepL x.1.1 x.1.2.1 x.2++kepLs L
theorem kepL_len (o:Int) (E:Nat→Int×Int) (s:Value):(kepL o E s).length=16:=rfl
theorem kepLs_len:∀L,(kepLs L).length=L.length*16
 | []=>rfl
 | x :: L=>by simp only [kepLs,List.length_append,kepL_len,List.length_cons,kepLs_len L];omega
theorem kepLs_append:∀L M,kepLs (L++M)=kepLs L++kepLs M
 | [],_=>rfl
 | x :: L,M=>by simp only [List.cons_append,kepLs,kepLs_append L M,List.append_assoc]
theorem kepLs_at:∀(L:List KV) (i:Nat) (kv:KV),L[i]?=some kv→∀j u,(kepL kv.1.1 kv.1.2.1 kv.2)[j]?=some u→(kepLs L)[i*16+j]?=some u
 | [],i,kv,h,_,_,_=>by simp at h
 | x :: L,0,kv,h,j,u,hj=>by
   have e:x=kv:=by simpa using h
   subst e
   have hl:=(List.getElem?_eq_some_iff.1 hj).1
   rw [kepLs,Nat.zero_mul,Nat.zero_add,List.getElem?_append_left hl]
   exact hj
 | x :: L,i+1,kv,h,j,u,hj=>by
   rw [kepLs,List.getElem?_append_right (by rw [kepL_len];omega),kepL_len,show (i+1)*16+j-16=i*16+j by omega]
   exact kepLs_at L i kv (by simpa using h) j u hj
theorem kepLs_one {w:World}:∀L,KvOk w L→∀u,u∈kepLs L→u.oneCell'=true
 | [],_,u,h=>by cases h
 | x :: L,hp,u,h=>by
   simp only [kepLs,List.mem_append] at h
   rcases h with h | h
   · obtain⟨A,c,e, -⟩:=hp x (List.mem_cons_self ..)
     rw [e] at h
     simp only [kepL,List.mem_cons,List.not_mem_nil,or_false] at h
     rcases h with h | h | h | h | h | h | h | h | h | h | h | h | h | h | h | h <;> rw [h] <;> rfl
   · exact kepLs_one L (fun y hy=>hp y (List.mem_cons_of_mem _ hy)) u h
theorem kvOk_nil (w:World):KvOk w []:=fun x hx=>by cases hx
def OwnKw (B:Nat) (w:World) (v:Value) (L:List KV):Prop:=w.ownsRow B 82 16 v L.length (kepLs L)
theorem OwnKw.keep {B:Nat} {w w2:World} {v:Value} {L:List KV} (h:OwnKw B w v L) (hb:Below w.heap.size w w2):OwnKw B w2 v L:=own_keep h hb
theorem ownKw_nil (B:Nat) (w:World):OwnKw B w (.slice none 0 0) []:=⟨rfl,Or.inl ⟨rfl,rfl⟩⟩
theorem OwnKw.off {B:Nat} {w W:World} {v:Value} {L:List KV} (h:OwnKw B w v L) {g:Nat} {T:TypeId} {cs:List Value} (hg:BlkAt w g T cs) (hT:T≠82) (k:∀k Tk ck,g≠k→BlkAt w k Tk ck→BlkAt W k Tk ck):OwnKw B W v L:=by
 refine⟨h.1, ?_⟩
 rcases h.2 with hn | ⟨b,cap,cur,hv,hb2,hg2,rest⟩
 · exact .inl hn
 · refine .inr ⟨b,cap,cur,hv,hb2, ?_,rest⟩
   have ne:g≠b:=fun e=>by
     subst e
     have q:some (Obj.cells cs.toArray T (0,0))=some (Obj.cells cur 82 (0,0)):=hg.symm.trans hg2
     injection q with q
     injection q with _ q2 _
     exact hT q2
   have:=k b 82 cur.toList ne (by show w.heap[b]?=_;rw [hg2])
   simpa [BlkAt] using this
theorem OwnKw.form {B:Nat} {w:World} {v:Value} {L:List KV} (h:OwnKw B w v L):∃A C,v=.slice A L.length C∧L.length≤C∧KepAt w A L:=by
 rcases h.2 with ⟨rfl,hn⟩ | ⟨g,cap,cur,rfl, -,hg,hc, -, -,ht⟩
 · exact⟨none,0,by rw [hn],by omega,fun hm=>absurd (List.eq_nil_of_length_eq_zero hn) hm⟩
 · refine⟨_,_,rfl,hc,fun _=>⟨g,cur.toList,rfl,by show w.heap[g]?=_;rw [hg],fun i kv hi j u hj=>?_⟩⟩
   have q:=kepLs_at L i kv hi j u hj
   rw [←ht,List.getElem?_take] at q
   split at q
   · exact q
   · cases q
theorem OwnKw.grown {B:Nat} {w w':World} {v:Value} {L:List KV} (h:OwnKw B w v L) (hg:w.grownBy w' v.ownBlock) {b:Nat} {T:TypeId} {cs:List Value} (hb:BlkAt w b T cs) (hT:T≠82):BlkAt w' b T cs:=by
 refine (hg.block b hb.lt (fun e=>?_)).trans hb
 rcases h.2 with ⟨hv, -⟩ | ⟨b2,cap,cur,hv, -,hg2, -⟩
 · rw [hv] at e;cases e
 · rw [hv] at e
   have e2:b2=b:=by injection e with e;exact e.symm
   subst e2
   have q:some (Obj.cells cs.toArray T (0,0))=some (Obj.cells cur 82 (0,0)):=hb.symm.trans hg2
   injection q with q
   injection q with _ q2 _
   exact hT q2
theorem KvOk.grown {B:Nat} {w w':World} {v:Value} {L M:List KV} (h:OwnKw B w v L) (hg:w.grownBy w' v.ownBlock) (p:KvOk w M):KvOk w' M:=fun x hx=>by
 obtain⟨A,c,e,l,f⟩:=p x hx
 refine⟨A,c,e,l,fun hm=>?_⟩
 obtain⟨b,o,cs,e2,bk,c2⟩:=f hm
 exact⟨b,o,cs,e2,h.grown hg bk (by decide),c2⟩
theorem Try.infoKep:(Try.prog.info? 82).map (fun i=>(i.zero,i.size,i.bytes))=some (some (.agg #[.int .i64 0,.int .i64 0,.int .i64 0,.int .i64 0,.int .i64 0,.int .i64 0,.int .i64 0,.int .i64 0,.int .i64 0,.int .i64 0,.int .i64 0,.int .i64 0,.int .i64 0,.int .i64 0,.int .i64 0,.slice none 0 0]),16,144):=by kernel_rfl
theorem wpList_catK {B:Nat} {w:World} {ops:Array Oper} {rest:List Oper} {o:Oper} {a:Act} {Q:Exit→Act→World→Prop} (hgd:o.guard=none) (s x:Operand)
   (ho:o.op=.call { callee:=.builtin .append,args:=#[s,x],argTypes:=#[76,76] }) (v:Value) (L M:List KV) (b m D:Nat) (hs:a.eval s=v) (hx:a.eval x=.slice (some ⟨b,0,none⟩) m D) (hm:m=M.length) (m0:M≠[])
   (hown:OwnKw B w v L) (hbk:BlkAt w b 82 (kepLs M)) (hM:KvOk w M) (hl:L.length+M.length≤100000) (hB:B≤w.heap.size)
   (h:∀v' w',OwnKw B w' v' (L++M)→Below B w w'→w.heap.size≤w'.heap.size→(∀N,KvOk w N→KvOk w' N)→(∀b T cs,T≠82→BlkAt w b T cs→BlkAt w' b T cs)→wpList Try.prog ops Q rest (a.put o.dst v') w'):wpList Try.prog ops Q (o :: rest) a w:=by
 subst hm
 refine wpList_step fun K hK=>?_
 obtain⟨i0,hi,hz0,hz1,hz2⟩:=info_parts Try.infoKep
 refine step_append_lies w hgd s x 76 ho B 82 i0 _ 16 144 Try.underlying76 hi hz0 hz1 hz2 rfl (by decide) v L.length (kepLs L) hs hown ⟨b,0,none⟩ M.length D (kepLs M) hx (kepLs_len M) (fun j u hj=>by rw [add_plain];exact hbk.cell0 j u hj) (kepLs_one M hM) (by have:0<M.length:=List.length_pos_iff.2 m0;omega) (by unfold maxLen;omega) (by omega) hB w.heap.size rfl ?_
 intro g cap w' h1 h2 h3 _
 have lt:∀k,v.ownBlock=some k→B≤k:=fun k hk=>(World.ownsRow.lt hown k hk).1
 have hb:Below B w w':=(Below.refl B w).grown h2 hB lt
 refine hK _ _ (h _ w' ?_ hb h2.size (fun N k=>k.grown hown h2) (fun b T cs hT hb=>hown.grown h2 hb hT))
 unfold OwnKw
 rw [kepLs_append,List.length_append]
 exact h1
def DmAt (w:World) (g n:Nat) (D:Nat→Nat→Int×Int):Prop:=∃cs,BlkAt w g 30 cs∧cs.length=n*14∧∀v,v<n→∀j u,(dimL (D v))[j]?=some u→cs[v*14+j]?=some u
theorem DmAt.keep {w W:World} {g n:Nat} {D:Nat→Nat→Int×Int} (h:DmAt w g n D) (k:Below w.heap.size w W):DmAt W g n D:=by
 obtain⟨cs,b,r⟩:=h
 exact⟨cs,b.keeps k,r⟩
theorem DmAt.dms {w:World} {g n:Nat} {D:Nat→Nat→Int×Int} (h:DmAt w g n D):Dms w (some ⟨g,0,none⟩) n D:=fun i hi=>by
 obtain⟨cs,b, -,f⟩:=h
 exact⟨g,0,rfl,b.lt,fun j u hj=>by rw [Nat.zero_add];exact b.cell _ _ (f i hi j u hj)⟩
theorem dimL_len (E:Nat→Int×Int):(dimL E).length=14:=rfl
theorem DmAt.set {W:World} {g n t:Nat} {D:Nat→Nat→Int×Int} {E:Nat→Int×Int} {cs:List Value} (hl:cs.length=n*14) (f:∀v,v<n→∀j u,(dimL (D v))[j]?=some u→cs[v*14+j]?=some u) (ht:t<n)
   (bW:BlkAt W g 30 (cs.take (t*14)++dimL E++cs.drop (t*14+14))):DmAt W g n (fun v=>if v=t then E else D v):=by
 have h0:(cs.take (t*14)).length=t*14:=by rw [List.length_take];omega
 refine⟨_,bW, ?_,fun m hm j u hj=>?_⟩
 · simp only [List.length_append,h0,dimL_len,List.length_drop]
   omega
 · have hj2:=(List.getElem?_eq_some_iff.1 hj).1
   rw [dimL_len] at hj2
   by_cases e:m=t
   · subst e
     simp only [if_true] at hj
     rw [List.append_assoc,List.getElem?_append_right (by omega),h0,show m*14+j-m*14=j by omega,List.getElem?_append_left (by rw [dimL_len];omega)]
     exact hj
   · simp only [if_neg e] at hj
     have g1:=f m hm j u hj
     rcases Nat.lt_or_ge m t with c1 | c1
     · have:m*14+j<t*14:=by omega
       rw [List.append_assoc,List.getElem?_append_left (by omega),List.getElem?_take_of_lt this]
       exact g1
     · have:t*14+14≤m*14+j:=by omega
       rw [List.getElem?_append_right (by simp only [List.length_append,h0,dimL_len];omega)]
       simp only [List.length_append,h0,dimL_len]
       rw [List.getElem?_drop,show t*14+14+(m*14+j-(t*14+14))=m*14+j by omega]
       exact g1
def RwAt (w:World) (A:Option Addr) (L:List PV):Prop:=∀(i:Nat) x,L[i]?=some x→∃b,A=some ⟨b,0,none⟩∧b<w.heap.size∧∀j u,(proL x.1.1 x.2)[j]?=some u→w.cell? ⟨b,i*15+j,none⟩=some u
theorem RwAt.keep {w W:World} {A:Option Addr} {L:List PV} (h:RwAt w A L) (k:Below w.heap.size w W):RwAt W A L:=fun i x hi=>by
 obtain⟨b,e,l,c⟩:=h i x hi
 exact⟨b,e,Nat.lt_of_lt_of_le l k.size,fun j u hj=>keepsC k (c j u hj) l⟩
theorem proLs_at:∀(L:List PV) (i:Nat) (x:PV),L[i]?=some x→∀j u,(proL x.1.1 x.2)[j]?=some u→(proLs L)[i*15+j]?=some u
 | [],i,x,h,_,_,_=>by simp at h
 | y :: L,0,x,h,j,u,hj=>by
   have e:y=x:=by simpa using h
   subst e
   have hl:=(List.getElem?_eq_some_iff.1 hj).1
   rw [proLs,Nat.zero_mul,Nat.zero_add,List.getElem?_append_left hl]
   exact hj
 | y :: L,i+1,x,h,j,u,hj=>by
   rw [proLs,List.getElem?_append_right (by rw [proL_len];omega),proL_len,show (i+1)*15+j-15=i*15+j by omega]
   exact proLs_at L i x (by simpa using h) j u hj
theorem OwnRw.read {B:Nat} {w:World} {v:Value} {L:List PV} (h:OwnRw B w v L):∃A C,v=.slice A L.length C∧RwAt w A L:=by
 rcases h.2 with ⟨rfl,hn⟩ | ⟨g,cap,cur,rfl, -,hg,hc, -, -,ht⟩
 · exact⟨none,0,by rw [hn],fun i x hi=>by rw [List.eq_nil_of_length_eq_zero hn] at hi;simp at hi⟩
 · have hb:BlkAt w g 79 cur.toList:=by show w.heap[g]?=_;rw [hg]
   refine⟨_,_,rfl,fun i x hi=>⟨g,rfl,hb.lt,fun j u hj=>hb.cell _ _ ?_⟩⟩
   have q:=proLs_at L i x hi j u hj
   rw [←ht,List.getElem?_take] at q
   split at q
   · exact q
   · cases q
section
variable {P:Program} {ops:Array Oper} {Q:Exit→Act→World→Prop} {a:Act} {w:World} {o:Oper}
theorem step_storeMid {K:Act→World→Prop} {E:Prop} (hgd:Region.wanted o (yielded ops a.tmps)=true) (p v:Operand) (T:TypeId) (ho:o.op=.store T p v) {g off:Nat} {T':TypeId} {old:List Value} (hrow:BlkAt w g T' old) (cs:List Value) (hi:(P.info? T).map (·.size)=some cs.length) (ho2:off+cs.length≤old.length)
   (hp:a.eval p=.pointer (some ⟨g,off,none⟩)) (hv:a.eval v=.agg cs.toArray) (h1:cs.all (·.oneCell')=true)
   (h:∀W,BlkAt W g T' (old.take off++cs++old.drop (off+cs.length))→W.heap.size=w.heap.size→(∀B w0,Below B w0 w→B≤g→Below B w0 W)→(∀k Tk ck,g≠k→BlkAt w k Tk ck→BlkAt W k Tk ck)→K (a.put o.dst undef) W):if Region.wanted o (yielded ops a.tmps)=true then Oper.wp P o a w K Q else E:=by
 rw [if_pos hgd]
 unfold Oper.wp
 obtain⟨dst,op,ty,pos,after,guard⟩:=o
 simp only at ho
 subst ho
 have h1':∀u∈cs,u.oneCell'=true:=fun u hu=>List.all_eq_true.1 h1 u hu
 have hs:(storeVar T ⟨g,off,none⟩ (.agg cs.toArray)).run P w=.ok () (w.setRow g (old.take off++cs++old.drop (off+cs.length)).toArray):=by
   have:=run_storeCells_at (P:=P) g off T' cs 0 old.toArray w hrow (by simpa using ho2) h1'
   simp only [Nat.add_zero] at this
   cases hq:P.info? T with
   | none=>simp [hq] at hi
   | some i =>
     have hs:i.size=cs.length:=by simpa [hq] using hi
     simp [storeVar,sizeOf,typeInfo,hq,Value.cells,hs,this]
 have e:(Instr.storeAt T (.pointer (some ⟨g,off,none⟩)) (.agg cs.toArray)).run P w=.ok () (w.setRow g (old.take off++cs++old.drop (off+cs.length)).toArray):=by
   simp only [Instr.storeAt,Instr.sureAddr,Sem.run_bind,Sem.run_pure,Result.andThen]
   exact hs
 have e2:(execOp a.eval ⟨dst,.store T p v,ty,pos,after,guard⟩).run P w=.ok .skip (w.setRow g (old.take off++cs++old.drop (off+cs.length)).toArray):=by
   simp only [execOp,hp,hv,Sem.run_bind,e,Result.andThen,Sem.run_pure]
 rw [e2]
 exact h _ hrow.set (by show (w.heap.modify g _).size=_;rw [Array.size_modify]) (fun B w0 hb hB=>below_setRow hb hB _) (fun k Tk ck hne hk=>hk.far hne _)
end
def orOver:Option (Nat→Nat→Int×Int)→Except Int (Nat→Nat→Int×Int)
 | none=>.error 3
 | some Y=>.ok Y
def allFrom (K:List (Int×Pro)) (Rs:List Pro) (D:Nat→Nat→Int×Int):Except Int (Nat→Nat→Int×Int):=match solveF K Rs with
 | .error e=>.error e
 | .ok K2=>orOver (backF K2.reverse D)
theorem all_none {K:List (Int×Pro)} {R:Pro} {Rs:List Pro} {D:Nat→Nat→Int×Int} (h:freedF R K=none):allFrom K (R :: Rs) D=.error 3:=by
 unfold allFrom solveF
 rw [h]
theorem all_plain {K:List (Int×Pro)} {R:Pro} {Rs:List Pro} {D:Nat→Nat→Int×Int} {E:Nat→Int×Int} (h:freedF R K=some (E,[])) (hp:plainB E=true):allFrom K (R :: Rs) D=allFrom K Rs D:=by
 unfold allFrom
 rw [solveF,h]
 simp [hp]
theorem all_bad {K:List (Int×Pro)} {R:Pro} {Rs:List Pro} {D:Nat→Nat→Int×Int} {E:Nat→Int×Int} (h:freedF R K=some (E,[])) (hp:plainB E=false):allFrom K (R :: Rs) D=.error 140:=by
 unfold allFrom
 rw [solveF,h]
 simp [hp]
theorem all_no {K:List (Int×Pro)} {R:Pro} {Rs:List Pro} {D:Nat→Nat→Int×Int} {E:Nat→Int×Int} {f:Fac} {F:List Fac} (h:freedF R K=some (E,f :: F)) (hk:keepO (E,f :: F)=none):allFrom K (R :: Rs) D=.error 3:=by
 unfold allFrom
 rw [solveF,h]
 simp [hk]
theorem all_kept {K:List (Int×Pro)} {R:Pro} {Rs:List Pro} {D:Nat→Nat→Int×Int} {E:Nat→Int×Int} {f:Fac} {F:List Fac} {k:Int×Pro} (h:freedF R K=some (E,f :: F)) (hk:keepO (E,f :: F)=some k):allFrom K (R :: Rs) D=allFrom (K++[k]) Rs D:=by
 unfold allFrom
 rw [solveF,h]
 simp [hk]
theorem kept_more {V:Int} {G:Nat→Bool} {K:List (Int×Pro)} {Rl Y:Pro} {k:Int×Pro} (hK:∀k,k∈K→KOk V G k) (hP:K.Pairwise (fun a b=>coF a.1 b.2.2=(0,1))) (hR:POk V Rl) (hG:FG G Rl.2) (hf:freedF Rl K=some Y) (hk:keepO Y=some k) :
   (∀j,j∈K++[k]→KOk V G j)∧(K++[k]).Pairwise (fun a b=>coF a.1 b.2.2=(0,1)):=by
 obtain⟨y1,y2,y3, -, -⟩:=freedF_some hK hP hR hG hf
 obtain⟨k1,k2, -⟩:=keepO_some y1 y2 hk
 refine⟨fun j hj=>?_,List.pairwise_append.2 ⟨hP,List.pairwise_singleton _ _,fun a ha b hb=>?_⟩⟩
 · rcases List.mem_append.1 hj with c | c
   · exact hK j c
   · rw [List.mem_singleton.1 c];exact k1
 · rw [List.mem_singleton.1 hb]
   exact k2 _ (y3 a ha)
def SvAns (r:Ending) (w:World) (g n dC:Nat):Except Int (Nat→Nat→Int×Int)→Prop
 | .ok Y=>r=.returned (.slice (some ⟨g,0,none⟩) n dC)∧DmAt w g n Y
 | .error e=>r=.panicked (stopP e)
theorem KepAt.other {w W:World} {A:Option Addr} {L:List KV} {g:Nat} {T:TypeId} {cs:List Value} (h:KepAt w A L) (hg:BlkAt w g T cs) (hT:T≠82) (k:∀k Tk ck,g≠k→BlkAt w k Tk ck→BlkAt W k Tk ck):KepAt W A L:=fun hm=>by
 obtain⟨b,cs2,e,l,c⟩:=h hm
 refine⟨b,cs2,e,k b _ _ (fun e=>?_) l,c⟩
 subst e
 have q:some (Obj.cells cs.toArray T (0,0))=some (Obj.cells cs2.toArray 82 (0,0)):=hg.symm.trans l
 injection q with q
 injection q with _ q2 _
 exact hT q2
theorem KepAt.cells {w:World} {b:Nat} {L:List KV} (h:KepAt w (some ⟨b,0,none⟩) L) {i:Nat} {kv:KV} (hi:L[i]?=some kv):∀j u,(kepL kv.1.1 kv.1.2.1 kv.2)[j]?=some u→w.cell? ⟨b,i*16+j,none⟩=some u:=by
 obtain⟨b2,e, -,c⟩:=h.at hi
 have e2:b=b2:=by injection e with e;injection e
 subst e2
 exact c
theorem KvOk.other {w W:World} {L:List KV} {g:Nat} {T:TypeId} {cs:List Value} (h:KvOk w L) (hg:BlkAt w g T cs) (hT:T≠104) (k:∀k Tk ck,g≠k→BlkAt w k Tk ck→BlkAt W k Tk ck):KvOk W L:=fun x hx=>(h x hx).other hg hT k
set_option maxRecDepth 4000 in
set_option maxHeartbeats 16000000 in
theorem usolved_w (AR:Option Addr) (CR:Nat) (L:List PV) (g n dC:Nat) (D:Nat→Nat→Int×Int) (G:Nat→Bool) (hn:n≤500) (hL:L.length≤10000) (hR:∀x,x∈L→POk (n:Int) x.1∧FG G x.1.2) (hD:∀v:Nat,v<n→Dim64 (D v)∧drK (D v) 7=true) (w:World) (VR:RwAt w AR L) (VP:PvOk w L) (VD:DmAt w g n D) :
   Calls Try.prog 18 #[.slice AR L.length CR,.slice (some ⟨g,0,none⟩) n dC] w fun r w'=>SvAns r w' g n dC (allFrom [] (L.map (·.1)) D)∧Below g w w':=by
 obtain⟨R,hRR⟩:∃R,Hid (allFrom [] (L.map (·.1)) D=R):=⟨_,rfl⟩
 rw [hRR.out]
 obtain⟨m,hm⟩:∃m,Hid (m=L.length):=⟨_,rfl⟩
 rw [←hm.out]
 have hm5:m≤10000:=by have:=hm.out;omega
 have HR:Hid (∀x,x∈L→POk (n:Int) x.1∧FG G x.1.2):=hR
 have HD:Hid (∀v:Nat,v<n→Dim64 (D v)∧drK (D v) 7=true):=hD
 have hgw:g<w.heap.size:=by obtain⟨cs,b, -⟩:=VD;exact b.lt
 have hV5:(0:Int)≤(n:Int)∧(n:Int)≤500:=by omega
 clear hR hD hL
 go_enter Try.func18,Try.ntmps18
 go_wp2_with fail
 go_loopg [5,11] m (fun T s5 s11 wx=>∃(i:Nat) (Ks:List KV),i+T=m∧s11=.int .i64 (i:Int)∧OwnKw w.heap.size wx s5 Ks∧KvOk wx Ks∧Hid (allFrom (Ks.map (·.1)) ((L.drop i).map (·.1)) D=R)∧Hid ((∀k,k∈Ks.map (·.1)→KOk (n:Int) G k)∧(Ks.map (·.1)).Pairwise (fun a b=>coF a.1 b.2.2=(0,1)))∧Hid (Ks.length≤i)∧Below w.heap.size w wx)
 case atStart=>exact⟨0,[],by omega,rfl,ownKw_nil _ _,kvOk_nil _,by rw [List.drop_zero];exact hRR,⟨fun k hk=>(by cases hk),List.Pairwise.nil⟩,Nat.le_refl 0,Below.refl _ _⟩
 case round =>
   clear hRR
   obtain⟨i,Ks,hi,rfl,I,KO,hF,hKs,hKl,HB⟩:=hrel
   obtain⟨A5,C5,e5,hc5,KA⟩:=I.form
   subst e5
   by_cases ci:i=m
   · subst ci
     obtain⟨q,hq⟩:∃q,Hid (q=Ks.length):=⟨_,rfl⟩
     rw [←hq.out]
     have hq5:q≤10000:=by have:=hq.out;have:=hKl.out;omega
     obtain⟨Rb,hRb⟩:∃Rb,Hid (backF (Ks.map (·.1)).reverse D=Rb):=⟨_,rfl⟩
     have hR2:Hid (R=orOver Rb):=by
       have q:=hF.out
       rw [List.drop_of_length_le (by have:=hm.out;omega)] at q
       rw [←q,←hRb.out]
       rfl
     have DA:=VD.keep HB
     replace HB:=HB.mono (Nat.le_of_lt hgw)
     clear hF I VD VR VP hc5
     go_wp2_with fail
     go_loopg [8] q (fun T s8 wx=>∃(d:Nat) (z:Int) (Dc:Nat→Nat→Int×Int),d+T=q∧z=(q:Int)-1-(d:Int)∧s8=.int .i64 z∧Hid (backF ((Ks.map (·.1)).reverse.drop d) Dc=Rb)∧Hid (∀v:Nat,v<n→Dim64 (Dc v)∧drK (Dc v) 7=true)∧DmAt wx g n Dc∧KepAt wx A5 Ks∧KvOk wx Ks∧Below g w wx)
     case atStart=>exact⟨0,(q:Int)-1,D,by omega,by omega,by first | rfl | go_num,by rw [List.drop_zero];exact hRb,HD,DA,KA,KO,HB⟩
     case round =>
       clear HB DA KA KO hRb
       obtain⟨d,z,Dc,hd,hz,rfl,hF,hDc,DA,KA,KO,HB⟩:=hrel
       by_cases cd:d=q
       · have hz0:¬(0:Int)≤z:=by omega
         have e1:Hid (R=.ok Dc):=by
           have q1:=hF.out
           rw [List.drop_of_length_le (by rw [List.length_reverse,List.length_map];have:=hq.out;omega)] at q1
           have q2:=hR2.out
           rw [←q1] at q2
           exact q2
         clear hF hR2
         go_wp2_with fail
         go_ret
         have e2:=e1.out
         subst e2
         exact⟨⟨rfl,DA⟩,HB⟩
       · obtain⟨t,rfl⟩:∃t:Nat,z=(t:Int):=⟨z.toNat,by omega⟩
         have hz0:(0:Int)≤(t:Int):=by omega
         have ht:t=q-1-d:=by omega
         have htq:t<Ks.length:=by have:=hq.out;omega
         have htq2:(t:Int)<(q:Int):=by omega
         obtain⟨kv,hkv⟩:∃kv,Ks[t]?=some kv:=⟨_,List.getElem?_eq_getElem htq⟩
         have hdr:(Ks.map (·.1)).reverse.drop d=kv.1 :: (Ks.map (·.1)).reverse.drop (d+1):=by
           have hdl:d<(Ks.map (·.1)).reverse.length:=by rw [List.length_reverse,List.length_map];have:=hq.out;omega
           rw [List.drop_eq_getElem_cons hdl]
           congr 1
           have e1:(Ks.map (·.1)).reverse[d]?=some kv.1:=by
             rw [List.getElem?_reverse (by rw [List.length_map];have:=hq.out;omega),List.length_map,List.getElem?_map,show Ks.length-1-d=t by have:=hq.out;omega,hkv]
             rfl
           rw [List.getElem?_eq_getElem hdl] at e1
           exact Option.some.inj e1
         have hkk:=hKs.out.1 kv.1 (List.mem_map.2 ⟨kv,List.mem_of_getElem? hkv,rfl⟩)
         obtain⟨kb,hA,lk,gk2⟩:=KA.at hkv
         obtain⟨Ak,ck,e2,hck,fak⟩:=KO kv (List.mem_of_getElem? hkv)
         rw [e2] at gk2
         obtain⟨T,hT⟩:∃T,Hid (toldF Dc kv.1=T):=⟨_,rfl⟩
         have ct:∀W,FSl W (.slice Ak kv.1.2.2.length ck) kv.1.2.2→Dms W (some ⟨g,0,none⟩) n Dc→Calls Try.prog 37 #[kepV kv.1.1 kv.1.2.1 (.slice Ak kv.1.2.2.length ck),.slice (some ⟨g,0,none⟩) n dC] W fun r w'=>DmAns r T∧Below W.heap.size W w':=by
           rw [←hT.out]
           exact fun W f1 f2=>utold_w kv.1 (.slice Ak kv.1.2.2.length ck) (n:Int) hkk.p hV5 (some ⟨g,0,none⟩) n dC Dc rfl hDc.out W f1 f2
         obtain⟨o,ho⟩:∃o:Nat,kv.1.1=(o:Int):=⟨kv.1.1.toNat,by have:=hkk.l;omega⟩
         have hon:o<n:=by have:=hkk.h;omega
         have hto:kv.1.1.toNat=o:=by omega
         have hF2:Hid ((T.bind fun E=>backF ((Ks.map (·.1)).reverse.drop (d+1)) (fun v=>if v=o then E else Dc v))=Rb):=by
           have q1:=hF.out
           rw [hdr,backF,hT.out,hto] at q1
           exact q1
         have hTD:Hid (∀E,T=some E→Dim64 E∧drK E 7=true):=fun E hE=>by
           obtain⟨a1,a2, -⟩:=toldF_some (V:=(n:Int)) (G:=G) (fun v hv=>hDc.out v (by omega)) hkk (hT.out.trans hE)
           exact⟨a1,a2⟩
         subst hA
         have f1:FSl wr (.slice Ak kv.1.2.2.length ck) kv.1.2.2:=⟨Ak,ck,rfl,hck,fak⟩
         have x0:wr.cell? ⟨kb,t*16,none⟩=some (.int .i64 (o:Int)):=by have q1:=gk2 0 _ rfl;rw [ho] at q1;exact q1
         have hon2:(o:Int)<(n:Int):=by omega
         have HZ:Hid ((t:Int)=(q:Int)-1-(d:Int)):=hz
         replace hkv:Hid (Ks[t]?=some kv):=hkv
         replace ho:Hid (kv.1.1=(o:Int)):=ho
         replace gk2:Hid (∀j u,(kepL kv.1.1 kv.1.2.1 (.slice Ak kv.1.2.2.length ck))[j]?=some u→wr.cell? ⟨kb,t*16+j,none⟩=some u):=gk2
         replace e2:Hid (kv.2=.slice Ak kv.1.2.2.length ck):=e2
         clear hF hdr hkk hT hck fak hto htq hz ht
         go_upto_region 14 with fail
         have hgr:g≤wr.heap.size:=Nat.le_trans (Nat.le_of_lt hgw) HB.size
         have kx:∀W,KepAt W (some ⟨kb,0,none⟩) Ks→W.cell? ⟨kb,t*16,none⟩=some (.int .i64 (o:Int)):=fun W h=>by
           have q1:=h.cells hkv.out 0 _ rfl
           rw [ho.out] at q1
           exact q1
         refine wp_region_held_drew (S:=fun W=>KepAt W (some ⟨kb,0,none⟩) Ks∧W.cell? ⟨kb,t*16,none⟩=some (.int .i64 (o:Int))) (by kernel_rfl) ⟨KA,x0⟩ (fun hHeld=>?_)
         refine wpAnyH_take (i:=0) (v:=?_) rfl (by kernel_rfl) (by kernel_rfl) (by kernel_rfl) (fun _ _ _ h=>h) (Or.inl ⟨by rfl, ?_⟩) hHeld ?_;rotate_left;(focus ((intro w hSw;(try dsimp only at hSw);go_simp);try with_reducible rfl));simp only [List.getElem_toArray,List.getElem_cons_zero,Act.put,List.setIfInBounds_toArray,List.set_cons_zero,List.set_cons_succ];refine wpAnyH_take (i:=1) (v:=?_) rfl (by kernel_rfl) (by kernel_rfl) (by kernel_rfl) (fun _ _ _ h=>h) (Or.inl ⟨by rfl, ?_⟩) hHeld ?_;rotate_left;(focus ((intro w hSw;(try dsimp only at hSw);go_simp);try with_reducible rfl));simp only [List.getElem_toArray,List.getElem_cons_zero,List.getElem_cons_succ,Act.put,List.setIfInBounds_toArray,List.set_cons_zero,List.set_cons_succ];refine wpAnyH_take (i:=2) (v:=?_) rfl (by kernel_rfl) (by kernel_rfl) (by kernel_rfl) (fun _ _ _ h=>h) (Or.inl ⟨by rfl, ?_⟩) hHeld ?_;rotate_left;(focus ((intro w hSw;(try dsimp only at hSw);go_simp);try with_reducible rfl));simp only [List.getElem_toArray,List.getElem_cons_zero,List.getElem_cons_succ,Act.put,List.setIfInBounds_toArray,List.set_cons_zero,List.set_cons_succ];refine wpAnyH_take (i:=3) (v:=?_) rfl (by kernel_rfl) (by kernel_rfl) (by kernel_rfl) (fun _ _ _ h=>h) (Or.inl ⟨by rfl, ?_⟩) hHeld ?_;rotate_left;(focus ((intro w hSw;(try dsimp only at hSw);go_simp);try with_reducible rfl));simp only [List.getElem_toArray,List.getElem_cons_zero,List.getElem_cons_succ,Act.put,List.setIfInBounds_toArray,List.set_cons_zero,List.set_cons_succ];refine wpAnyH_take (i:=4) (v:=?_) rfl (by kernel_rfl) (by kernel_rfl) (by kernel_rfl) (fun _ _ _ h=>h) (Or.inl ⟨by rfl, ?_⟩) hHeld ?_;rotate_left;(focus ((intro w hSw;(try dsimp only at hSw);go_simp);try with_reducible rfl));simp only [List.getElem_toArray,List.getElem_cons_zero,List.getElem_cons_succ,Act.put,List.setIfInBounds_toArray,List.set_cons_zero,List.set_cons_succ];refine wpAnyH_take (i:=5) (v:=?_) rfl (by kernel_rfl) (by kernel_rfl) (by kernel_rfl) (fun _ _ _ h=>h) (Or.inl ⟨by rfl, ?_⟩) hHeld ?_;rotate_left;(focus ((intro w hSw;(try dsimp only at hSw);go_simp);try with_reducible rfl));simp only [List.getElem_toArray,List.getElem_cons_zero,List.getElem_cons_succ,Act.put,List.setIfInBounds_toArray,List.set_cons_zero,List.set_cons_succ];refine wpAnyH_take (i:=6) (v:=?_) rfl (by kernel_rfl) (by kernel_rfl) (by kernel_rfl) (fun _ _ _ h=>h) (Or.inl ⟨by rfl, ?_⟩) hHeld ?_;rotate_left;(focus ((intro w hSw;(try dsimp only at hSw);go_simp);try with_reducible rfl));simp only [List.getElem_toArray,List.getElem_cons_zero,List.getElem_cons_succ,Act.put,List.setIfInBounds_toArray,List.set_cons_zero,List.set_cons_succ];refine wpAnyH_take (i:=7) (v:=?_) rfl (by kernel_rfl) (by kernel_rfl) (by kernel_rfl) (fun _ _ _ h=>h) (Or.inl ⟨by rfl, ?_⟩) hHeld ?_;rotate_left;(focus ((intro w hSw;(try dsimp only at hSw);go_simp);try with_reducible rfl));simp only [List.getElem_toArray,List.getElem_cons_zero,List.getElem_cons_succ,Act.put,List.setIfInBounds_toArray,List.set_cons_zero,List.set_cons_succ];refine wpAnyH_take (i:=8) (v:=?_) rfl (by kernel_rfl) (by kernel_rfl) (by kernel_rfl) (fun _ _ _ h=>h) (Or.inl ⟨by rfl, ?_⟩) hHeld ?_;rotate_left;(focus ((intro w hSw;(try dsimp only at hSw);go_simp);try with_reducible rfl));simp only [List.getElem_toArray,List.getElem_cons_zero,List.getElem_cons_succ,Act.put,List.setIfInBounds_toArray,List.set_cons_zero,List.set_cons_succ]
         refine wpAnyH_take (i:=9) (v:=kepV kv.1.1 kv.1.2.1 (.slice Ak kv.1.2.2.length ck)) rfl (by kernel_rfl) (by kernel_rfl) (by kernel_rfl) (fun _ _ _ h=>h) (yields_loadBig (by rfl) _ 82 (by rfl) Try.underlying82 (kepL kv.1.1 kv.1.2.1 (.slice Ak kv.1.2.2.length ck)) (by kernel_rfl) (by rfl) (fun W hS j u hj=>hS.1.cells hkv.out j u (by rw [e2.out];exact hj)) (kep_val _ _ _)) hHeld ?_;simp only [List.getElem_toArray,List.getElem_cons_zero,List.getElem_cons_succ,Act.put,List.setIfInBounds_toArray,List.set_cons_zero,List.set_cons_succ]
         refine wpAnyH_take (i:=10) (v:=?_) rfl (by kernel_rfl) (by kernel_rfl) (by kernel_rfl) (fun _ _ _ h=>h) (Or.inl ⟨by rfl, ?_⟩) hHeld ?_;rotate_left;(focus ((intro w hSw;(try dsimp only at hSw);go_simp);try with_reducible rfl));simp only [List.getElem_toArray,List.getElem_cons_zero,List.getElem_cons_succ,Act.put,List.setIfInBounds_toArray,List.set_cons_zero,List.set_cons_succ]
         have HD0:Below wr.heap.size wr wr.drew:=(Below.refl _ _).drew
         replace HB:=HB.trans (HD0.mono hgr)
         replace DA:=DA.keep HD0
         replace KA:=KA.keep HD0
         replace KO:=KO.keep HD0
         replace f1:=f1.keep HD0
         clear HD0 gk2 x0
         refine wpAnyH_ready (rs:=[11]) (by kernel_rfl) (by simp) ?_;refine AllReadyH.cons rfl (fun K hK=>?_) AllReadyH.nil;simp only [List.getElem_toArray,List.getElem_cons_zero,List.getElem_cons_succ,Act.put,List.setIfInBounds_toArray,List.set_cons_zero,List.set_cons_succ];go_simp
         go_at_call 37
         (with_reducible refine (ct _ f1 DA.dms).mono ?_)
         rintro r W2 ⟨hM,hb2⟩
         cases T with
         | none =>
           have eR:Hid (R=.error 3):=by
             have q1:none=Rb:=hF2.out
             have q2:=hR2.out
             rw [←q1] at q2
             exact q2
           have hr:=hM.no
           subst hr
           have e2:=eR.out
           subst e2
           exact⟨rfl,rfl,HB.trans (hb2.mono hgr)⟩
         | some E =>
           have hF3:Hid (backF ((Ks.map (·.1)).reverse.drop (d+1)) (fun v=>if v=o then E else Dc v)=Rb):=hF2.out
           have hE:=hTD.out E rfl
           have hr:=hM.yes
           subst hr
           replace HB:=HB.trans (hb2.mono hgr)
           replace DA:=DA.keep hb2
           replace KA:=KA.keep hb2
           replace KO:=KO.keep hb2
           clear hb2 hM f1 ct
           dsimp only
           refine hK.out _ _ ⟨KA,kx _ KA⟩ (fun hHeld=>?_)
           clear hK K
           refine wpAnyH_take (i:=12) (v:=?_) rfl (by kernel_rfl) (by kernel_rfl) (by kernel_rfl) (fun _ _ _ h=>h) (Or.inl ⟨by rfl, ?_⟩) hHeld ?_;rotate_left;(focus ((intro w hSw;(try dsimp only at hSw);go_simp);try with_reducible rfl));simp only [List.getElem_toArray,List.getElem_cons_zero,List.getElem_cons_succ,Act.put,List.setIfInBounds_toArray,List.set_cons_zero,List.set_cons_succ]
           obtain⟨cs,DB,Dl,Df⟩:=DA
           replace Dl:Hid (cs.length=n*14):=Dl
           refine wpAnyH_ready (rs:=[13]) (by kernel_rfl) (by simp) ?_
           refine AllReadyH.cons rfl (fun K hK=>?_) AllReadyH.nil
           refine step_storeMid (off:=o*14) (by rfl) _ _ 30 (by rfl) DB (dimL E) (by kernel_rfl) (by rw [Dl.out,dimL_len];omega) (by rfl) (by rfl) (by rfl) ?_
           rintro V3 XR hs3 hB3 hk3
           have KA3:=KA.other DB (by decide) hk3
           refine hK.out _ _ ⟨KA3,kx _ KA3⟩ (fun _=>wpAnyH_done (by kernel_rfl) ?_ _)
           clear hK K
           go_wp2_with fail
           have DA3:=DmAt.set (t:=o) Dl.out Df hon XR
           replace HB:=hB3 _ _ HB (Nat.le_refl _)
           replace KO:=KO.other DB (by decide) hk3
           have hD3:Hid (∀v:Nat,v<n→Dim64 ((fun v=>if v=o then E else Dc v) v)∧drK ((fun v=>if v=o then E else Dc v) v) 7=true):=fun v hv=>by
             dsimp only
             by_cases c:v=o
             · rw [if_pos c];exact hE
             · rw [if_neg c];exact hDc.out v hv
           go_roundg (q-d-1)
           case measure=>omega
           case rel=>exact⟨d+1,(t:Int)-1,_,by omega,by have hz:(t:Int)=(q:Int)-1-(d:Int):=HZ;omega,by first | rfl | go_num,hF3,hD3,DA3,KA3,KO,HB⟩
   · have hin:i<L.length:=by have:=hm.out;omega
     obtain⟨x,hx⟩:∃x,L[i]?=some x:=⟨_,List.getElem?_eq_getElem hin⟩
     have hdr:(L.drop i).map (·.1)=x.1 :: (L.drop (i+1)).map (·.1):=by
       have e:=List.getElem?_eq_getElem hin
       rw [hx] at e
       rw [List.drop_eq_getElem_cons hin,←Option.some.inj e]
       rfl
     obtain⟨rb,hA,lr,gr⟩:=(VR.keep HB) i x hx
     obtain⟨Ax,cx,ex,hcx,fax⟩:=(VP.keep HB) x (List.mem_of_getElem? hx)
     obtain⟨hRx,hRg⟩:=HR.out x (List.mem_of_getElem? hx)
     rw [ex] at gr
     subst hA
     have hlt:(i:Int)<(m:Int):=by omega
     have hF2:Hid (allFrom (Ks.map (·.1)) (x.1 :: (L.drop (i+1)).map (·.1)) D=R):=by
       have q:=hF.out
       rw [hdr] at q
       exact q
     have hKl2:=hKl.out
     have cf:=fun W f1 VA VO=>ufreed_w x.1.1 x.1.2 (.slice Ax x.1.2.length cx) A5 C5 Ks (n:Int) hV5 hRx (by omega) (fun y hy=>by have q:=hKs.out.1 y.1 (List.mem_map.2 ⟨y,hy,rfl⟩);exact⟨q.p,q.l,q.h⟩) W f1 VA VO
     obtain⟨T,hT⟩:∃T,Hid (freedF (x.1.1,x.1.2) (Ks.map (·.1))=T):=⟨_,rfl⟩
     rw [hT.out] at cf
     have HX:Hid (POk (n:Int) x.1∧FG G x.1.2):=⟨hRx,hRg⟩
     have fx:FSl wr (.slice Ax x.1.2.length cx) x.1.2:=⟨Ax,cx,rfl,hcx,fax⟩
     clear hF hdr ex hcx fax hRx hRg hin hKl2 hx
     go_upto_region 5 with (first
       | (refine wpList_loadBig (by rfl) _ 79 (by rfl) Try.underlying79 (proL x.1.1 (.slice Ax x.1.2.length cx)) (by kernel_rfl) (by rfl) (gr) (pro_val _ _) ?_)
       | (refine wpList_storeBig (by rfl) _ _ 79 (by rfl) (blk_new _ _ _) (proL x.1.1 (.slice Ax x.1.2.length cx)) (by kernel_rfl) (by rfl) (by rfl) (by rfl) (by rfl) ?_;rintro V2 XR hs2 hB2 hk2))
     have grw:Below wr.heap.size wr V2:=hB2 _ _ (Below.alloc (Below.refl _ _) (Nat.le_refl _) _) (Nat.le_refl _)
     have hxb:w.heap.size≤wr.heap.size:=HB.size
     replace HB:=later HB grw
     replace I:=I.keep grw
     replace KA:=KA.keep grw
     replace KO:=KO.keep grw
     replace fx:=fx.keep grw
     have XB:=XR
     obtain⟨xb,hxb2⟩:∃xb,xb=wr.heap.size:=⟨_,rfl⟩
     rw [←hxb2] at XB hxb ⊢
     clear hxb2 hB2 hk2 hs2 grw XR gr lr
     try simp only [Act.put]
     cases T with
     | none =>
       have eR:Hid (R=.error 3):=by
         have q:=hF2.out
         rw [all_none hT.out] at q
         exact q.symm
       clear hF2 hT
       go_wp2_with (first
         | (refine wpList_loadBig (by rfl) _ 79 (by rfl) Try.underlying79 (proL x.1.1 (.slice Ax x.1.2.length cx)) (by kernel_rfl) (by rfl) (XB.cell0) (pro_val _ _) ?_)
         | (go_at_call 34;(with_reducible refine (cf _ fx KA KO).mono ?_);rintro r W2 ⟨hM,hb2⟩;have hr:=hM.no;subst hr;have e2:=eR.out;subst e2;exact⟨rfl,rfl,(later HB hb2).mono (Nat.le_of_lt hgw)⟩))
     | some Y =>
       obtain⟨YE,YF⟩:=Y
       go_upto_region 6 with (first
         | (refine wpList_loadBig (by rfl) _ 79 (by rfl) Try.underlying79 (proL x.1.1 (.slice Ax x.1.2.length cx)) (by kernel_rfl) (by rfl) (XB.cell0) (pro_val _ _) ?_)
         | (go_at_call 34;(with_reducible refine (cf _ fx KA KO).mono ?_);rintro r W2 ⟨hM,hb2⟩;obtain⟨s9,hr,A9,c9,rfl,hc9,fa9⟩:=hM.yes;replace hr:r=.returned (.agg (proL YE (.slice A9 YF.length c9)).toArray):=hr;subst hr;replace HB:=later HB hb2;replace I:=I.keep hb2;replace KO:=KO.keep hb2;replace XB:=XB.keeps hb2;clear hb2 hM KA fx)
         | (refine wpList_storeBig (by rfl) _ _ 79 (by rfl) (XB) (proL YE (.slice A9 YF.length c9)) (by kernel_rfl) (by rfl) (by rfl) (by rfl) (by rfl) ?_;rintro V4 XR hs2 hB2 hk2))
       replace HB:=hB2 _ _ HB hxb
       replace I:=I.off XB (by decide) hk2
       replace KO:=KO.other XB (by decide) hk2
       replace fa9:=fa9.other XB (by decide) hk2
       replace hc9:Hid (YF.length≤c9):=hc9
       clear XB hB2 hk2 hs2 cf
       have XB:=XR
       clear XR
       try simp only [Act.put]
       cases YF with
       | nil =>
         replace XB:BlkAt V4 xb 79 (proL YE (.slice A9 0 c9)):=XB
         have x14:=XB.cell 14 _ rfl
         have ci:=fun W=>uisPlain_w YE W
         cases hb:eqD YE plE with
         | true =>
           rw [hb] at ci
           have hF3:Hid (allFrom (Ks.map (·.1)) ((L.drop (i+1)).map (·.1)) D=R):=by
             have q:=hF2.out
             rw [all_plain hT.out hb] at q
             exact q
           clear hF2 hT hb
           go_wp2_with (first
             | (refine wpList_loadBig (by rfl) _ 30 (by rfl) Try.underlying30 (dimL YE) (by kernel_rfl) (by rfl) (XB.dim0) (dim_valU YE) ?_)
             | (go_at_call 36;(with_reducible refine (ci _).mono ?_);rintro _ W5 ⟨rfl,hb2⟩;replace HB:=later HB hb2;replace I:=I.keep hb2;replace KO:=KO.keep hb2;clear hb2 x14))
           go_roundg (m-i-1)
           case measure=>omega
           case rel=>exact⟨i+1,Ks,by omega,by go_num,I,KO,hF3,hKs,Nat.le_succ_of_le hKl.out,HB⟩
         | false =>
           rw [hb] at ci
           have eR:Hid (R=.error 140):=by
             have q:=hF2.out
             rw [all_bad hT.out hb] at q
             exact q.symm
           clear hF2 hT hb
           go_wp2_with (first
             | (refine wpList_loadBig (by rfl) _ 30 (by rfl) Try.underlying30 (dimL YE) (by kernel_rfl) (by rfl) (XB.dim0) (dim_valU YE) ?_)
             | (go_at_call 36;(with_reducible refine (ci _).mono ?_);rintro _ W5 ⟨rfl,hb2⟩;replace HB:=later HB hb2;clear hb2 x14))
           have e2:=eR.out
           subst e2
           exact⟨rfl,rfl,HB.mono (Nat.le_of_lt hgw)⟩
       | cons f F =>
         obtain⟨y1,y2, -⟩:=freedF_some hKs.out.1 hKs.out.2 HX.out.1 HX.out.2 hT.out
         have hf0:=fac_n0 (y1.f f (List.mem_cons_self ..)) (y2 f (List.mem_cons_self ..)).2
         have ck:=fun W f1=>ukeep_w YE A9 c9 f F (n:Int) hV5 hc9.out y1 hf0 W f1
         obtain⟨T2,hT2⟩:∃T2,Hid (keepO (YE,f :: F)=T2):=⟨_,rfl⟩
         rw [hT2.out] at ck
         obtain⟨l9,hl9⟩:∃l9,Hid (l9=(f :: F).length):=⟨_,rfl⟩
         rw [←hl9.out] at ck XB
         have x14:=XB.cell 14 _ rfl
         have hl0:(0:Int)<(l9:Int):=by have:=hl9.out;simp at this;omega
         clear y1 y2 hf0 hc9
         cases T2 with
         | none =>
           have eR:Hid (R=.error 3):=by
             have q:=hF2.out
             rw [all_no hT.out hT2.out] at q
             exact q.symm
           clear hF2 hT hT2
           go_wp2_with (first
             | (refine wpList_loadBig (by rfl) _ 79 (by rfl) Try.underlying79 (proL YE (.slice A9 l9 c9)) (by kernel_rfl) (by rfl) (XB.cell0) (pro_val _ _) ?_)
             | (go_at_call 35;(with_reducible refine (ck _ fa9).mono ?_);rintro r W2 ⟨hM,hb2⟩;have hr:=hM.no;subst hr;have e2:=eR.out;subst e2;exact⟨rfl,rfl,(later HB hb2).mono (Nat.le_of_lt hgw)⟩))
         | some X =>
           have hF3:Hid (allFrom ((Ks.map (·.1))++[X]) ((L.drop (i+1)).map (·.1)) D=R):=by
             have q:=hF2.out
             rw [all_kept hT.out hT2.out] at q
             exact q
           have hKs2:=kept_more hKs.out.1 hKs.out.2 HX.out.1 HX.out.2 hT.out hT2.out
           replace hKs2:Hid ((∀j,j∈Ks.map (·.1)++[X]→KOk (n:Int) G j)∧(Ks.map (·.1)++[X]).Pairwise (fun a b=>coF a.1 b.2.2=(0,1))):=hKs2
           have hly:Hid (Ks.length+[(X,Value.bool true)].length≤100000):=by show _≤_;have:=hKl.out;have e1:[(X,Value.bool true)].length=1:=rfl;rw [e1];omega
           obtain⟨q5,hq5⟩:∃q5,Hid (q5=Ks.length):=⟨_,rfl⟩
           rw [←hq5.out]
           have I2:OwnKw w.heap.size V4 (.slice A5 q5 C5) Ks:=by rw [hq5.out];exact I
           clear hF2 hT hT2 hKs I
           go_wp2_with (first
             | (refine wpList_loadBig (by rfl) _ 79 (by rfl) Try.underlying79 (proL YE (.slice A9 l9 c9)) (by kernel_rfl) (by rfl) (XB.cell0) (pro_val _ _) ?_)
             | (go_at_call 35;(with_reducible refine (ck _ fa9).mono ?_);rintro r W2 ⟨hM,hb2⟩;obtain⟨s8,hr,A8,c8,rfl,hc8,fa8⟩:=hM.yes;replace hr:r=.returned (.agg #[.int .i64 X.1,.int .i64 (X.2.1 0).1,.int .i64 (X.2.1 0).2,.int .i64 (X.2.1 1).1,.int .i64 (X.2.1 1).2,.int .i64 (X.2.1 2).1,.int .i64 (X.2.1 2).2,.int .i64 (X.2.1 3).1,.int .i64 (X.2.1 3).2,.int .i64 (X.2.1 4).1,.int .i64 (X.2.1 4).2,.int .i64 (X.2.1 5).1,.int .i64 (X.2.1 5).2,.int .i64 (X.2.1 6).1,.int .i64 (X.2.1 6).2,.slice A8 X.2.2.length c8]):=hr;subst hr;replace HB:=later HB hb2;replace I2:=I2.keep hb2;replace KO:=KO.keep hb2;clear hb2 hM x14 XB fa9 ck)
             | (at_builtin;refine wpList_catK (by rfl) _ _ (by rfl) _ Ks [(X,.slice A8 X.2.2.length c8)] _ 1 1 (by rfl) (by rfl) rfl (by simp) (I2.keep (by go_grown)) (blk_new _ _ _) (fun z hz=>by rw [List.mem_singleton.1 hz];exact⟨A8,c8,rfl,hc8,fa8.keep (by go_grown)⟩) hly.out (by have:=HB.size;rw [World.size_alloc];omega) ?_;intro v' w8 I8 hb8 hs8 hk8 hW8))
           go_roundg (m-i-1)
           case measure=>omega
           case rel=>exact⟨i+1,Ks++[(X,.slice A8 X.2.2.length c8)],by omega,by go_num,I8,(fun z hz=>(List.mem_append.1 hz).elim (hk8 Ks (KO.keep (by go_grown)) z) (hk8 [(X,.slice A8 X.2.2.length c8)] (fun z hz=>by rw [List.mem_singleton.1 hz];exact⟨A8,c8,rfl,hc8,fa8.keep (by go_grown)⟩) z)),(by show allFrom _ _ _=_;rw [List.map_append];exact hF3.out),(by rw [List.map_append];exact hKs2),(by show (Ks++[(X,Value.slice A8 X.2.2.length c8)]).length≤i+1;rw [List.length_append];have:=hKl.out;have e1:[(X,Value.slice A8 X.2.2.length c8)].length=1:=rfl;rw [e1];omega),HB.trans ((Below.alloc (Below.refl _ _) HB.size _).trans hb8)⟩
def RetW (w1:World) (e:Exit) (a:Act) (w:World):Prop:=(e=.ret∨e=.normal)∧a.defers=[]∧w=w1
theorem wpS_ends {P:Program} {c:Code} {Q:Exit→Act→List Frame→World→Prop} {a:Act} {cs:List Frame} {w w1:World} (h:c.wp P (RetW w1) a w) (hr:∀a',a'.defers=[]→Q .ret a' cs w1) (hn:∀a',a'.defers=[]→Q .normal a' cs w1):c.wpS P Q a cs w :=
 wpS_of_wp (wp_mono h fun e a' w' ⟨h1,h2,h3⟩=>by
   subst h3
   rcases h1 with rfl | rfl
   · exact hr a' h2
   · exact hn a' h2)
theorem catch_tmps (p x:Value):(#[p]++((Array.replicate 16 undef).setIfInBounds 3 x).setIfInBounds 0 x)=#[p,x,undef,undef,x,undef,undef,undef,undef,undef,undef,undef,undef,undef,undef,undef,undef]:=rfl
theorem run_assert_stop (xT:TypeId) (e:Int) (w:World):(Instr.typeAssert (.iface 74 (.agg #[.int .i64 e])) xT 74 true).run Try.prog w=.ok (.tuple #[.agg #[.int .i64 e],.bool true]) w:=by
 simp [Instr.typeAssert,go_sem]
def DsV (B:Nat) (w:World) (v:Value) (n:Nat) (Y:Nat→Nat→Int×Int):Prop:=∃g C,v=.slice (some ⟨g,0,none⟩) n C∧B≤g∧DmAt w g n Y
theorem DsV.off {B:Nat} {w:World} {v:Value} {n:Nat} {Y:Nat→Nat→Int×Int} (h:DsV B w v n Y) {b:Nat} (hb:b<B) (j:Nat) (x:Value):DsV B (w.setCell ⟨b,j,none⟩ x) v n Y:=by
 obtain⟨g,C,e,l,cs,d,r⟩:=h
 exact⟨g,C,e,l,cs,d.offCell (by omega) j x,r⟩
theorem DsV.less {B B':Nat} {w:World} {v:Value} {n:Nat} {Y:Nat→Nat→Int×Int} (h:DsV B w v n Y) (hb:B'≤B):DsV B' w v n Y:=by
 obtain⟨g,C,e,l,d⟩:=h
 exact⟨g,C,e,by omega,d⟩
def WkAns (B:Nat) (r:Ending) (w:World) (n:Nat):Except Int (Nat→Nat→Int×Int)→Prop
 | .ok Y=>∃v,r=.returned v∧DsV B w v n Y
 | .error e=>r=.panicked (stopP e)
def TrAns (B:Nat) (r:Ending) (w:World) (n:Nat):Except Int (Nat→Nat→Int×Int)→Prop
 | .ok Y=>∃v,r=.returned (.tuple #[v,.int .i64 0])∧DsV B w v n Y
 | .error e=>r=.returned (.tuple #[.slice none 0 0,.int .i64 e])
def HasE1 (w:World) (b:Nat) (x:Value):Prop:=w.cell? ⟨b,0,none⟩=some x∧w.frozen? ⟨b,0,none⟩=false∧b<w.heap.size
theorem HasE1.keep {w W:World} {b:Nat} {x:Value} (h:HasE1 w b x) (k:Below w.heap.size w W):HasE1 W b x:=⟨keepsC k h.1 h.2.2,keepsF k h.2.1 h.2.2,Nat.lt_of_lt_of_le h.2.2 k.size⟩
theorem catchS_idle (p:Addr) (w:World) :
   CallsD Try.prog 33 #[.pointer (some p)] .returning w fun e u' w'=>e=.returned (.tuple #[])∧u'=.returning∧w'=w:=by
 refine callsD_of_wpS Try.func33 rfl fun c₀ cs hu=>?_
 apply wpS_seq
 apply wpS_region
 simp [wpOpsS,go_sem,recoverD,hu,Try.ntmps33,Exit.thenS]
 rw [catch_tmps]
 refine wpS_ends (w1:=w) ?_ ?_ ?_
 · go_wp2_with fail
   exact⟨Or.inl rfl,rfl,rfl⟩
 · intro a' h
   cases c₀
   simp_all [bodyPostS,results,Try.results33]
 · intro a' h
   cases c₀
   simp_all [bodyPostS,results,Try.results33]
set_option maxRecDepth 20000 in
set_option maxHeartbeats 1000000 in
theorem catchS_stop (b:Nat) (e x:Int) (older:List PanicEntry) (w:World) (hc:w.cell? ⟨b,0,none⟩=some (.int .i64 x)) (hz:w.frozen? ⟨b,0,none⟩=false) (hl:b<w.heap.size) :
   CallsD Try.prog 33 #[.pointer (some ⟨b,0,none⟩)] (.panicking ({ v:=.iface 74 (.agg #[.int .i64 e]),recovered:=false } :: older)) w fun r u' w'=>r=.returned (.tuple #[])∧u'=.panicking ({ v:=.iface 74 (.agg #[.int .i64 e]),recovered:=true } :: older)∧w'=(w.setCell ⟨b,0,none⟩ (.int .i64 e)).alloc (.cells #[.int .i64 e] 74):=by
 have HW:Below w.heap.size w (w.alloc (.cells #[.int .i64 e] 74)):=Below.alloc (Below.refl _ _) (Nat.le_refl _) _
 have hc2:=keepsC HW hc hl
 have hz2:=keepsF HW hz hl
 clear HW
 have hta:=fun xT W=>run_assert_stop xT e W
 refine callsD_of_wpS Try.func33 rfl fun c₀ cs hu=>?_
 apply wpS_seq
 apply wpS_region
 simp [wpOpsS,go_sem,recoverD,hu,Try.ntmps33,Exit.thenS]
 rw [catch_tmps]
 refine wpS_ends (w1:=(w.setCell ⟨b,0,none⟩ (.int .i64 e)).alloc (.cells #[.int .i64 e] 74)) ?_ ?_ ?_
 · go_wp2_with fail
   exact⟨Or.inr rfl,rfl,rfl⟩
 · intro a' h
   cases c₀
   simp_all [bodyPostS,results,Try.results33]
 · intro a' h
   cases c₀
   simp_all [bodyPostS,results,Try.results33]
set_option maxHeartbeats 2000000 in
theorem utriedS_w (caps:Array Value) (n:Nat) (R:Except Int (Nat→Nat→Int×Int)) (w:World)
   (cw:∀W,Below w.heap.size w W→Calls Try.prog 17 caps W fun r w'=>WkAns W.heap.size r w' n R∧Below W.heap.size W w') :
   Calls Try.prog 16 #[.func (.func 17) #[] caps] w fun r w'=>TrAns w.heap.size r w' n R∧Below w.heap.size w w':=by
 have hmf:∀(fn:Fn) (first cap:Array Value) (w:World),(Instr.makeFunc fn first cap).run Try.prog w=.ok (.func fn first cap) w:=fun _ _ _ _=>rfl
 have HB:Below w.heap.size w (w.alloc (.cells #[.int .i64 0] 32)):=by go_grown
 have E:HasE1 (w.alloc (.cells #[.int .i64 0] 32)) w.heap.size (.int .i64 0):=⟨by go_simp,by go_simp,by go_size⟩
 go_enter_defers Try.func16,Try.ntmps16
 go_upto_region 2 with fail
 generalize (w.alloc (.cells #[.int .i64 0] 32))=V1 at *
 have cw1:=cw V1 HB
 have hB1:w.heap.size<V1.heap.size:=E.2.2
 clear cw
 cases R with
 | ok Y =>
   go_wp2_with (first | (go_at_call 17;(with_reducible refine cw1.mono ?_);rintro _ VV ⟨⟨v,rfl,DV⟩,hb1⟩;replace E:=E.keep hb1;replace HB:=later HB hb1;clear hb1 cw1;obtain⟨g0,g1,g2⟩:=id E;obtain⟨gD,CD,rfl,lD,DD⟩:=DV))
   refine leaves_cons (f:=33) (args:=#[.pointer (some ⟨w.heap.size,0,none⟩)]) (by simp) (by simp [go_sem]) ?_
   refine (catchS_idle ⟨w.heap.size,0,none⟩ _).mono ?_
   rintro e u' w'' ⟨rfl,rfl,rfl⟩
   refine⟨.tuple #[.slice (some ⟨gD,0,none⟩) n CD,.int .i64 0],by simp [results,Try.results16,go_sem, *],⟨_,rfl, ?_⟩, ?_⟩
   · exact (DsV.off (B:=V1.heap.size) ⟨gD,CD,rfl,lD,DD⟩ hB1 0 _).less (by omega)
   · repeat' (first | (with_reducible exact HB) | (with_reducible refine Below.setCell ?_ ?_ _) | go_size)
 | error e =>
   go_wp2_with (first | (go_at_call 17;(with_reducible refine cw1.mono ?_);rintro r VV ⟨hr,hb1⟩;replace hr:r=.panicked (stopP e):=hr;subst hr;replace E:=E.keep hb1;replace HB:=later HB hb1;clear hb1 cw1;obtain⟨g0,g1,g2⟩:=id E))
   refine leaves_cons (f:=33) (args:=#[.pointer (some ⟨w.heap.size,0,none⟩)]) (by simp) (by simp [go_sem]) ?_
   refine (catchS_stop w.heap.size e 0 [] _ g0 g1 g2).mono ?_
   rintro _ u' w'' ⟨rfl,rfl,rfl⟩
   have HB2:Below w.heap.size w (VV.setCell ⟨w.heap.size,0,none⟩ (.int .i64 e)):=by
     repeat' (first | (with_reducible exact HB) | (with_reducible refine Below.setCell ?_ ?_ _) | go_size)
   have E2:(VV.setCell ⟨w.heap.size,0,none⟩ (.int .i64 e)).cell? ⟨w.heap.size,0,none⟩=some (.int .i64 e):=by rw [World.cell?_setCell_same _ _ _ (by rw [g0])]
   have W3:Below (VV.setCell ⟨w.heap.size,0,none⟩ (.int .i64 e)).heap.size (VV.setCell ⟨w.heap.size,0,none⟩ (.int .i64 e)) ((VV.setCell ⟨w.heap.size,0,none⟩ (.int .i64 e)).alloc (.cells #[.int .i64 e] 74)):=Below.alloc (Below.refl _ _) (Nat.le_refl _) _
   replace E2:=keepsC W3 E2 (by simp only [World.size_setCell];exact g2)
   replace HB2:=later HB2 W3
   clear W3 g0 g1 g2 E HB
   generalize (VV.setCell ⟨w.heap.size,0,none⟩ (.int .i64 e)).alloc (.cells #[.int .i64 e] 74)=W4 at *
   exact⟨.tuple #[.slice none 0 0,.int .i64 e],by simp [results,Try.results16,go_sem, *],rfl,HB2⟩
theorem Try.infoDim:(Try.prog.info? 30).map (fun i=>(i.zero,i.size,i.bytes))=some (some (.agg #[.int .i64 0,.int .i64 0,.int .i64 0,.int .i64 0,.int .i64 0,.int .i64 0,.int .i64 0,.int .i64 0,.int .i64 0,.int .i64 0,.int .i64 0,.int .i64 0,.int .i64 0,.int .i64 0]),14,112):=by kernel_rfl
theorem wpList_makeD {w:World} {ops:Array Oper} {rest:List Oper} {o:Oper} {a:Act} {Q:Exit→Act→World→Prop} (hgd:o.guard=none) (l c:Operand)
   (ho:o.op=.makeSlice 24 l c) (n:Nat) (hl:a.eval l=.int .i64 (n:Int)) (hc:a.eval c=.int .i64 (n:Int)) (hn:n≤30000)
   (h:∀w',(∃cs,BlkAt w' w.heap.size 30 cs∧cs.length=n*14)→Below w.heap.size w w'→wpList Try.prog ops Q rest (a.put o.dst (.slice (some ⟨w.heap.size,0,none⟩) n n)) w'):wpList Try.prog ops Q (o :: rest) a w:=by
 obtain⟨i0,hi,hz0,hz1,hz2⟩:=info_parts Try.infoDim
 refine wpList_make_full w hgd l c 24 ho w.heap.size 30 i0 _ 14 Try.underlying24 hi hz0 hz1 .i64 .i64 _ _ n hl hc rfl rfl (by rw [hz2];omega) (by unfold maxLen;omega) (Nat.le_refl _) ?_
 intro w' h1 h2
 refine h w' ?_ ⟨h2.os,h2.tape,h2.output,h2.size,fun k hk=>h2.block k hk (by simp)⟩
 rcases h1.2 with ⟨e,_⟩ | ⟨g,cap,cur,e, -,hg, -, -,hs, -⟩
 · cases e
 · injection e with e1 e2 e3
   injection e1 with e1
   injection e1 with e1
   subst e1 e3
   exact⟨cur.toList,by show w'.heap[_]?=_;rw [hg],by rw [←hs];simp⟩
def DmUp (w:World) (g n k:Nat) (D:Nat→Nat→Int×Int):Prop:=∃cs,BlkAt w g 30 cs∧cs.length=n*14∧∀v,v<k→∀j u,(dimL (D v))[j]?=some u→cs[v*14+j]?=some u
theorem DmUp.keep {w W:World} {g n k:Nat} {D:Nat→Nat→Int×Int} (h:DmUp w g n k D) (b:Below w.heap.size w W):DmUp W g n k D:=by
 obtain⟨cs,c,r⟩:=h
 exact⟨cs,c.keeps b,r⟩
theorem DmUp.set {W:World} {g n k t:Nat} {D:Nat→Nat→Int×Int} {E:Nat→Int×Int} {cs:List Value} (hl:cs.length=n*14) (f:∀v,v<k→∀j u,(dimL (D v))[j]?=some u→cs[v*14+j]?=some u) (ht:t<n)
   (bW:BlkAt W g 30 (cs.take (t*14)++dimL E++cs.drop (t*14+14))) {D':Nat→Nat→Int×Int} (h1:D' t=E) (h2:∀v,v<t→D' v=D v) (hk:t≤k):DmUp W g n (t+1) D':=by
 have h0:(cs.take (t*14)).length=t*14:=by rw [List.length_take];omega
 refine⟨_,bW, ?_,fun m hm j u hj=>?_⟩
 · simp only [List.length_append,h0,dimL_len,List.length_drop]
   omega
 · have hj2:=(List.getElem?_eq_some_iff.1 hj).1
   rw [dimL_len] at hj2
   by_cases e:m=t
   · subst e
     rw [h1] at hj
     rw [List.append_assoc,List.getElem?_append_right (by omega),h0,show m*14+j-m*14=j by omega,List.getElem?_append_left (by rw [dimL_len];omega)]
     exact hj
   · have c1:m<t:=by omega
     rw [h2 m c1] at hj
     have g1:=f m (by omega) j u hj
     have:m*14+j<t*14:=by omega
     rw [List.append_assoc,List.getElem?_append_left (by omega),List.getElem?_take_of_lt this]
     exact g1
theorem DmUp.all {w:World} {g n:Nat} {D:Nat→Nat→Int×Int} (h:DmUp w g n n D):DmAt w g n D:=h
def startD (G:Nat→Bool) (D:Nat→Nat→Int×Int):Nat→Nat→Int×Int:=fun v=>if G v then D v else plE
set_option maxRecDepth 4000 in
set_option maxHeartbeats 8000000 in
theorem ustart_w (A0 A1:Option Addr) (n0 C0 C1:Nat) (D:Nat→Nat→Int×Int) (G:Nat→Bool) (S:Nat→Int×Int) (hn0:n0≤500) (w:World) (VD:Dms w A0 n0 D) (VG:Bls w A1 n0 G) :
   Calls Try.prog 20 #[vrV (.slice A0 n0 C0) (.slice A1 n0 C1) S] w fun r w'=>(∃g,w.heap.size≤g∧r=.returned (.slice (some ⟨g,0,none⟩) n0 n0)∧DmAt w' g n0 (startD G D))∧Below w.heap.size w w':=by
 have cp:∀W,Calls Try.prog 40 #[] W fun r w'=>r=.returned (.agg #[.int .i64 (plE 0).1,.int .i64 (plE 0).2,.int .i64 (plE 1).1,.int .i64 (plE 1).2,.int .i64 (plE 2).1,.int .i64 (plE 2).2,.int .i64 (plE 3).1,.int .i64 (plE 3).2,.int .i64 (plE 4).1,.int .i64 (plE 4).2,.int .i64 (plE 5).1,.int .i64 (plE 5).2,.int .i64 (plE 6).1,.int .i64 (plE 6).2])∧Below W.heap.size W w':=fun W=>uplain_w W
 show Calls Try.prog _ #[.agg #[.slice A0 n0 C0,.slice A1 n0 C1,.int .i64 (S 0).1,.int .i64 (S 0).2,.int .i64 (S 1).1,.int .i64 (S 1).2,.int .i64 (S 2).1,.int .i64 (S 2).2,.int .i64 (S 3).1,.int .i64 (S 3).2,.int .i64 (S 4).1,.int .i64 (S 4).2,.int .i64 (S 5).1,.int .i64 (S 5).2,.int .i64 (S 6).1,.int .i64 (S 6).2]] w _
 obtain⟨XV,HB⟩:=blks1 w 43 [.slice A0 n0 C0,.slice A1 n0 C1,.int .i64 (S 0).1,.int .i64 (S 0).2,.int .i64 (S 1).1,.int .i64 (S 1).2,.int .i64 (S 2).1,.int .i64 (S 2).2,.int .i64 (S 3).1,.int .i64 (S 3).2,.int .i64 (S 4).1,.int .i64 (S 4).2,.int .i64 (S 5).1,.int .i64 (S 5).2,.int .i64 (S 6).1,.int .i64 (S 6).2]
 go_enter Try.func20,Try.ntmps20
 go_upto_region 1 with fail
 generalize (w.alloc (.cells #[.slice A0 n0 C0,.slice A1 n0 C1,.int .i64 (S 0).1,.int .i64 (S 0).2,.int .i64 (S 1).1,.int .i64 (S 1).2,.int .i64 (S 2).1,.int .i64 (S 2).2,.int .i64 (S 3).1,.int .i64 (S 3).2,.int .i64 (S 4).1,.int .i64 (S 4).2,.int .i64 (S 5).1,.int .i64 (S 5).2,.int .i64 (S 6).1,.int .i64 (S 6).2] 43))=V1 at *
 replace XV:BlkAt V1 w.heap.size 43 (vrL (.slice A0 n0 C0) (.slice A1 n0 C1) S):=XV
 have x0:=XV.cell 0 _ rfl
 go_wp2_with (at_make;refine wpList_makeD (by rfl) _ _ (by rfl) n0 (by rfl) (by rfl) (by omega) ?_;intro w3 ID hb3)
 obtain⟨cs0,ID1,ID2⟩:=ID
 have DU:DmUp w3 V1.heap.size n0 0 (startD G D):=⟨cs0,ID1,ID2,fun v hv=>absurd hv (by omega)⟩
 have hgv:w.heap.size<V1.heap.size:=XV.lt
 replace XV:=XV.keeps hb3
 replace HB:=later HB hb3
 clear hb3 ID1 ID2 x0
 obtain⟨g,hg⟩:∃g,g=V1.heap.size:=⟨_,rfl⟩
 rw [←hg] at DU hgv ⊢
 clear hg
 go_loopg [11] n0 (fun T s11 wx=>∃i:Nat,i+T=n0∧s11=.int .i64 (i:Int)∧DmUp wx g n0 i (startD G D)∧BlkAt wx w.heap.size 43 (vrL (.slice A0 n0 C0) (.slice A1 n0 C1) S)∧Below w.heap.size w wx)
 case atStart=>exact⟨0,by omega,rfl,DU,XV,HB⟩
 case round =>
   clear HB XV DU
   obtain⟨i,hi,rfl,DU,XV,HB⟩:=hrel
   by_cases ci:i=n0
   · subst ci
     go_wp2_with fail
     go_ret
     exact⟨⟨g,by omega,rfl,DU.all⟩,HB⟩
   · have hin:i<n0:=by omega
     have hlt:(i:Int)<(n0:Int):=by omega
     go_upto_region 6 with (first
       | (go_at_call 40;(with_reducible refine (cp _).mono ?_);rintro _ W5 ⟨rfl,hb2⟩;replace HB:=later HB hb2;replace XV:=XV.keeps hb2;replace DU:=DU.keep hb2;clear hb2;obtain⟨cs,DB,Dl,Df⟩:=DU;replace Dl:Hid (cs.length=n0*14):=Dl)
       | (refine wpList_storeMid (off:=i*14) (by rfl) _ _ 30 (by rfl) DB (dimL plE) (by kernel_rfl) (by rw [Dl.out,dimL_len];omega) (by rfl) (by rfl) (by rfl) ?_;rintro V3 XR hs3 hB3 hk3))
     have DU2:DmUp V3 g n0 (i+1) (fun v=>if v=i then plE else startD G D v):=DmUp.set Dl.out Df hin XR (if_pos rfl) (fun v hv=>if_neg (by omega)) (Nat.le_refl i)
     replace XV:=hk3 _ _ _ (by omega) XV
     replace HB:=hB3 _ _ HB (by omega)
     clear XR hB3 hk3 hs3 DB Df Dl
     obtain⟨b1,o1,hA1,l1,g1⟩:=(VG.keep HB) i hin
     obtain⟨b0,o0,hA0,l0,g0⟩:=(VD.keep HB) i hin
     replace g0:Hid (∀j c,(dimL (D i))[j]?=some c→V3.cell? ⟨b0,o0+i*14+j,none⟩=some c):=g0
     subst hA1 hA0
     have x0:=XV.cell 0 _ rfl
     have x1:=XV.cell 1 _ rfl
     cases hG:G i with
     | false =>
       rw [hG] at g1
       have DU3:DmUp V3 g n0 (i+1) (startD G D):=by
         obtain⟨cs,b,l,f⟩:=DU2
         refine⟨cs,b,l,fun v hv j u hj=>f v hv j u ?_⟩
         by_cases e:v=i
         · subst e
           have:startD G D v=plE:=by unfold startD;rw [hG];rfl
           rw [this] at hj
           simp only [if_true]
           exact hj
         · simp only [if_neg e];exact hj
       clear DU2 hG
       go_wp2_with fail
       go_roundg (n0-i-1)
       case measure=>omega
       case rel=>exact⟨i+1,by omega,by go_num,DU3,XV,HB⟩
     | true =>
       rw [hG] at g1
       obtain⟨cs,DB,Dl,Df⟩:=DU2
       replace Dl:Hid (cs.length=n0*14):=Dl
       have hG2:Hid (G i=true):=hG
       clear hG
       go_wp2_with (first
         | (refine wpList_loadBig (by rfl) _ 30 (by rfl) Try.underlying30 (dimL (D i)) (by kernel_rfl) (by rfl) (g0.out) (dim_valU (D i)) ?_)
         | (refine wpList_storeMid (off:=i*14) (by rfl) _ _ 30 (by rfl) DB (dimL (D i)) (by kernel_rfl) (by rw [Dl.out,dimL_len];omega) (by rfl) (by rfl) (by rfl) ?_;rintro V4 XR hs3 hB3 hk3))
       have DU3:DmUp V4 g n0 (i+1) (startD G D):=DmUp.set Dl.out Df hin XR (by unfold startD;rw [hG2.out];rfl) (fun v hv=>(if_neg (by omega)).symm) (Nat.le_succ i)
       go_roundg (n0-i-1)
       case measure=>omega
       case rel=>exact⟨i+1,by omega,by go_num,DU3,hk3 _ _ _ (by omega) XV,hB3 _ _ HB (by omega)⟩
end Go.Proofs.Ytbejmklkicoibaa
namespace Go.Proofs.Ytbejmklkicoibaa
theorem opH_get (x:Nd) (s:Nat→Bool):∀(j q:Nat),opH x s j q=true↔(s q=true∨∃i,i<j∧(x.at i).toNat=q)
 | 0,q=>by
   unfold opH
   constructor
   · exact Or.inl
   · rintro (h | ⟨i,hi, -⟩)
     · exact h
     · omega
 | j+1,q=>by
   have ih:=opH_get x s j q
   unfold opH setN
   by_cases c:q=(x.at j).toNat
   · rw [if_pos c]
     exact⟨fun _=>Or.inr ⟨j,Nat.lt_succ_self j,c.symm⟩,fun _=>rfl⟩
   · rw [if_neg c,ih]
     constructor
     · rintro (h | ⟨i,hi,he⟩)
       · exact Or.inl h
       · exact Or.inr ⟨i,by omega,he⟩
     · rintro (h | ⟨i,hi,he⟩)
       · exact Or.inl h
       · refine Or.inr ⟨i, ?_,he⟩
         rcases Nat.lt_or_ge i j with d | d
         · exact d
         · exact absurd (by rw [←he,show i=j by omega]) c
theorem backH_mono (X:Nat→Nd) (n:Nat) (s:Nat→Bool) (d q:Nat) (h:backH X n s d q=true):backH X n s (d+1) q=true:=by
 rw [backH]
 split
 · exact (opH_get _ _ _ _).2 (Or.inl h)
 · exact h
theorem backH_stay {X:Nat→Nd} {n:Nat} (hx:∀i,i<n→∀j,j<(X i).ar→0≤(X i).at j∧(X i).at j<(i:Int)) (s:Nat→Bool) {d q:Nat} (hd:d<n) (hq:n-1-d≤q) (h:backH X n s (d+1) q=true):backH X n s d q=true:=by
 rw [backH] at h
 split at h
 · rcases (opH_get _ _ _ _).1 h with h | ⟨i,hi,he⟩
   · exact h
   · have:=hx (n-1-d) (by omega) i hi
     omega
 · exact h
theorem backH_closed {X:Nat→Nd} {n:Nat} (hx:∀i,i<n→∀j,j<(X i).ar→0≤(X i).at j∧(X i).at j<(i:Int)) (s:Nat→Bool):∀d,d≤n→∀q,n-d≤q→q<n→backH X n s d q=true→∀j,j<(X q).ar→backH X n s d ((X q).at j).toNat=true
 | 0,_,q,h1,h2,_,_,_=>by omega
 | d+1,hd,q,h1,h2,h,j,hj=>by
   by_cases c:q=n-1-d
   · have h3:=backH_stay hx s (by omega) (by omega) h
     rw [backH,if_pos (by rw [←c];exact h3)]
     refine (opH_get _ _ _ _).2 (Or.inr ⟨j, ?_, ?_⟩)
     · rw [←c];exact hj
     · rw [←c]
   · have h3:=backH_stay hx s (by omega) (by omega) h
     exact backH_mono X n s d _ (backH_closed hx s d (by omega) q (by omega) h2 h3 j hj)
theorem needH_closed {X:Nat→Nd} {n:Nat} (hx:∀i,i<n→∀j,j<(X i).ar→0≤(X i).at j∧(X i).at j<(i:Int)) (Y:Nat→Int) (m:Nat):∀i,i<n→needH X n Y m i=true→∀j,j<(X i).ar→needH X n Y m ((X i).at j).toNat=true :=
 fun i hi h j hj=>backH_closed hx (outN Y m) n (Nat.le_refl n) i (by omega) hi h j hj
theorem evN_congr {X:Nat→Nd} {U U':Int→Nat→Rat} {S0:Nat→Int×Int} {q q':Nat→Nat→Rat} {x:Nd} {e:Nat} (hU:x.k=2→U x.v e=U' x.v e) (ka:1≤arG x.k→q x.a.toNat e=q' x.a.toNat e) (kb:2≤arG x.k→q x.b.toNat e=q' x.b.toNat e):evN X U S0 q x e=evN X U' S0 q' x e:=by
 unfold evN
 by_cases c1:x.k=1
 · rw [if_pos c1,if_pos c1]
 rw [if_neg c1,if_neg c1]
 by_cases c2:x.k=2
 · rw [if_pos c2,if_pos c2,hU c2]
 rw [if_neg c2,if_neg c2]
 by_cases c15:x.k=15
 · rw [if_pos c15,if_pos c15]
 rw [if_neg c15,if_neg c15]
 by_cases c3:x.k=3∨x.k=4
 · have ar:arG x.k=2:=by rcases c3 with c | c <;> rw [c] <;> rfl
   rw [if_pos c3,if_pos c3,ka (by omega),kb (by omega)]
 rw [if_neg c3,if_neg c3]
 by_cases c5:x.k=5
 · have ar:arG x.k=2:=by rw [c5];rfl
   rw [if_pos c5,if_pos c5,ka (by omega),kb (by omega)]
 rw [if_neg c5,if_neg c5]
 by_cases c6:x.k=6
 · have ar:arG x.k=2:=by rw [c6];rfl
   rw [if_pos c6,if_pos c6,ka (by omega),kb (by omega)]
 rw [if_neg c6,if_neg c6]
 by_cases c7:x.k=7
 · have ar:arG x.k=1:=by rw [c7];rfl
   rw [if_pos c7,if_pos c7,ka (by omega)]
 rw [if_neg c7,if_neg c7]
 by_cases c8:x.k=8
 · have ar:arG x.k=1:=by rw [c8];rfl
   rw [if_pos c8,if_pos c8,ka (by omega)]
 rw [if_neg c8,if_neg c8]
 by_cases c9:x.k=9
 · have ar:arG x.k=1:=by rw [c9];rfl
   rw [if_pos c9,if_pos c9,ka (by omega)]
 rw [if_neg c9,if_neg c9]
theorem ruleF_two {X:Nat→Nd} {Q Q':Nat→Pro} {x:Nd} {m:Nat} {L L':List Pro} {S:Int→Nat→Rat}
   (ka:1≤arG x.k→POk m (Q x.a.toNat)∧POk m (Q' x.a.toNat)∧∀e,e<7→evP S (Q' x.a.toNat) e=evP S (Q x.a.toNat) e) (kb:2≤arG x.k→POk m (Q x.b.toNat)∧POk m (Q' x.b.toNat)∧∀e,e<7→evP S (Q' x.b.toNat) e=evP S (Q x.b.toNat) e)
   (h:ruleF X Q x=some L) (h':ruleF X Q' x=some L'):∀R2,R2∈L'→∃R,R∈L∧∀e,e<7→evP S R2 e=evP S R e:=by
 have none:∀R2,R2∈([]:List Pro)→∃R,R∈L∧∀e,e<7→evP S R2 e=evP S R e:=fun Y hY=>by cases hY
 unfold ruleF at h h'
 by_cases c3:x.k=3∨x.k=4
 · rw [if_pos c3] at h h'
   have ar:arG x.k=2:=by rcases c3 with c | c <;> rw [c] <;> rfl
   cases hf:frB (X x.a.toNat) with
   | true=>rw [hf] at h';have e:=Option.some.inj h';subst e;exact none
   | false =>
     rw [hf] at h h'
     cases hg:frB (X x.b.toNat) with
     | true=>rw [hg] at h';have e:=Option.some.inj h';subst e;exact none
     | false =>
       rw [hg] at h h'
       simp only [Bool.false_eq_true,if_false] at h h'
       obtain⟨a1,a2,a3⟩:=ka (by omega)
       obtain⟨b1,b2,b3⟩:=kb (by omega)
       cases ht:timesP (Q x.a.toNat) (Q x.b.toNat) (-1,1) with
       | none=>rw [ht] at h;cases h
       | some Y =>
         cases ht':timesP (Q' x.a.toNat) (Q' x.b.toNat) (-1,1) with
         | none=>rw [ht'] at h';cases h'
         | some Y' =>
           rw [ht] at h
           rw [ht'] at h'
           have e:=Option.some.inj h
           have e':=Option.some.inj h'
           subst e e'
           intro R2 hR
           rw [List.mem_singleton.1 hR]
           refine⟨Y,List.mem_singleton.2 rfl,fun e he=>?_⟩
           rw [(timesP_some a1 b1 rok_mone ht).2 S e he,(timesP_some a2 b2 rok_mone ht').2 S e he,a3 e he,b3 e he]
 · rw [if_neg c3] at h h'
   by_cases c:10≤x.k∧x.k≤14
   · rw [if_pos c] at h h'
     have ar:arG x.k=1:=by rcases (show x.k=10∨x.k=11∨x.k=12∨x.k=13∨x.k=14 by omega) with h | h | h | h | h <;> rw [h] <;> rfl
     cases hf:frB (X x.a.toNat) with
     | true=>rw [hf] at h';have e:=Option.some.inj h';subst e;exact none
     | false =>
       rw [hf] at h h'
       have e:=Option.some.inj h
       have e':=Option.some.inj h'
       subst e e'
       intro R2 hR
       rw [List.mem_singleton.1 hR]
       exact⟨_,List.mem_singleton.2 rfl,(ka (by omega)).2.2⟩
   · rw [if_neg c] at h'
     have e:=Option.some.inj h'
     subst e
     exact none
theorem state_two {X:Nat→Nd} {N G G':Nat→Bool} {D D':Nat→Nat→Int×Int} {S0:Nat→Int×Int} {n m:Nat} {S:Int→Nat→Rat} (hX:∀i,i<n→Dim64 (X i).E) (hF:∀i,i<n→N i=true→Fit (X i) i m) (hN:∀i,i<n→N i=true→∀j,j<(X i).ar→N ((X i).at j).toNat=true)
   (hS:Dim64 S0) (rS:drK S0 7=true) (hD:∀v,v<m→G v=true→Dim64 (D v)∧drK (D v) 7=true) (hD':∀v,v<m→G' v=true→Dim64 (D' v)∧drK (D' v) 7=true)
   (hU:∀v,v<m→∀e,e<7→(if G v then qP (D v e) else S v e)=(if G' v then qP (D' v e) else S v e)):∀i,i≤n→∀st st',stateF X N G D S0 i=some st→stateF X N G' D' S0 i=some st' →
   (∀j,j<i→N j=true→POk m (st.1 j)∧FG G (st.1 j).2∧POk m (st'.1 j)∧FG G' (st'.1 j).2∧∀e,e<7→evP S (st'.1 j) e=evP S (st.1 j) e)∧(∀R,R∈st.2→POk m R∧FG G R.2)∧(∀R,R∈st'.2→POk m R∧FG G' R.2∧∃R0,R0∈st.2∧∀e,e<7→evP S R e=evP S R0 e)∧st.2.length≤i∧st'.2.length≤i
 | 0,_,st,st',h,h'=>by
   have e:=Option.some.inj h
   have e':=Option.some.inj h'
   subst e e'
   exact⟨fun j hj=>by omega,fun R hR=>(by cases hR),fun R hR=>(by cases hR),Nat.le_refl 0,Nat.le_refl 0⟩
 | i+1,hi,st,st',h,h'=>by
   rw [stateF] at h h'
   cases hs:stateF X N G D S0 i with
   | none=>rw [hs] at h;cases h
   | some s =>
     cases hs':stateF X N G' D' S0 i with
     | none=>rw [hs'] at h';cases h'
     | some s' =>
       rw [hs] at h
       rw [hs'] at h'
       simp only [Option.bind_some] at h h'
       obtain⟨p1,p2,p3,p4,p5⟩:=state_two hX hF hN hS rS hD hD' hU i (by omega) s s' hs hs'
       cases hNi:N i with
       | false =>
         rw [hNi] at h h'
         simp only [Bool.false_eq_true,if_false] at h h'
         have e:=Option.some.inj h
         have e':=Option.some.inj h'
         subst e e'
         refine⟨fun j hj hj2=>p1 j ?_ hj2,p2,p3,by omega,by omega⟩
         rcases Nat.lt_or_ge j i with c | c
         · exact c
         · rw [show j=i by omega,hNi] at hj2;cases hj2
       | true =>
         rw [hNi] at h h'
         simp only [if_true] at h h'
         have fit:=hF i (by omega) hNi
         have op:∀j,j<(X i).ar→((X i).at j).toNat<i∧N ((X i).at j).toNat=true:=fun j hj=>⟨by have:=fit.o j hj;omega,hN i (by omega) hNi j hj⟩
         have pa:1≤arG (X i).k→(X i).a.toNat<i∧N (X i).a.toNat=true:=fun h=>by have:=op 0 h;unfold Nd.at at this;rwa [if_pos rfl] at this
         have pb:2≤arG (X i).k→(X i).b.toNat<i∧N (X i).b.toNat=true:=fun h=>by have:=op 1 h;unfold Nd.at at this;rwa [if_neg (by decide)] at this
         cases hd:dimF X G D S0 s.1 (X i) with
         | none=>rw [hd] at h;cases h
         | some Z =>
           cases hd':dimF X G' D' S0 s'.1 (X i) with
           | none=>rw [hd'] at h';cases h'
           | some Z' =>
             rw [hd] at h
             rw [hd'] at h'
             simp only [Option.bind_some] at h h'
             obtain⟨z1,z2⟩:=dimF_some fit (hX i (by omega)) hS rS hD (fun j hj=>(p1 _ (op j hj).1 (op j hj).2).1) hd
             obtain⟨y1,y2⟩:=dimF_some fit (hX i (by omega)) hS rS hD' (fun j hj=>(p1 _ (op j hj).1 (op j hj).2).2.2.1) hd'
             have zg:=dimF_fg (fun h=>(p1 _ (pa h).1 (pa h).2).2.1) (fun h=>(p1 _ (pb h).1 (pb h).2).2.1) hd
             have yg:=dimF_fg (fun h=>(p1 _ (pa h).1 (pa h).2).2.2.2.1) (fun h=>(p1 _ (pb h).1 (pb h).2).2.2.2.1) hd'
             have zy:∀e,e<7→evP S Z' e=evP S Z e:=fun e he=>by
               rw [z2 S e he,y2 S e he]
               refine evN_congr (fun hk=>?_) (fun h=>(p1 _ (pa h).1 (pa h).2).2.2.2.2 e he) (fun h=>(p1 _ (pb h).1 (pb h).2).2.2.2.2 e he)
               obtain⟨v1,v2⟩:=(fit.var hk).1
               have u:=hU (X i).v.toNat (by omega) e he
               have ev:(((X i).v.toNat:Nat):Int)=(X i).v:=by omega
               rw [ev] at u
               exact u.symm
             have all:∀j,j<i+1→N j=true→POk m ((fun j=>if j=i then Z else s.1 j) j)∧FG G ((fun j=>if j=i then Z else s.1 j) j).2∧POk m ((fun j=>if j=i then Z' else s'.1 j) j)∧FG G' ((fun j=>if j=i then Z' else s'.1 j) j).2∧∀e,e<7→evP S ((fun j=>if j=i then Z' else s'.1 j) j) e=evP S ((fun j=>if j=i then Z else s.1 j) j) e:=fun j hj hj2=>by
               by_cases c:j=i
               · simp only [if_pos c];exact⟨z1,zg,y1,yg,zy⟩
               · simp only [if_neg c];exact p1 j (by omega) hj2
             cases hr:ruleF X (fun j=>if j=i then Z else s.1 j) (X i) with
             | none=>rw [hr] at h;cases h
             | some L =>
               cases hr':ruleF X (fun j=>if j=i then Z' else s'.1 j) (X i) with
               | none=>rw [hr'] at h';cases h'
               | some L' =>
                 rw [hr] at h
                 rw [hr'] at h'
                 have e:=Option.some.inj h
                 have e':=Option.some.inj h'
                 subst e e'
                 have ra:=fun h=>all _ (Nat.lt_succ_of_lt (pa h).1) (pa h).2
                 have rb:=fun h=>all _ (Nat.lt_succ_of_lt (pb h).1) (pb h).2
                 have ro:=fun j hj=>all _ (Nat.lt_succ_of_lt (op j hj).1) (op j hj).2
                 obtain⟨l1,l2⟩:=ruleF_some (fun j hj=>(ro j hj).1) hr
                 obtain⟨k1,k2⟩:=ruleF_some (fun j hj=>(ro j hj).2.2.1) hr'
                 have lg:=ruleF_fg (fun h=>(ra h).2.1) (fun h=>(rb h).2.1) hr
                 have kg:=ruleF_fg (fun h=>(ra h).2.2.2.1) (fun h=>(rb h).2.2.2.1) hr'
                 have two:=ruleF_two (S:=S) (fun h=>⟨(ra h).1,(ra h).2.2.1,(ra h).2.2.2.2⟩) (fun h=>⟨(rb h).1,(rb h).2.2.1,(rb h).2.2.2.2⟩) hr hr'
                 refine⟨all,fun R hR=>?_,fun R hR=>?_,by rw [List.length_append];omega,by rw [List.length_append];omega⟩
                 · rcases List.mem_append.1 hR with c | c
                   · exact p2 R c
                   · exact⟨l1 R c,lg R c⟩
                 · rcases List.mem_append.1 hR with c | c
                   · obtain⟨q1,q2,R0,q3,q4⟩:=p3 R c
                     exact⟨q1,q2,R0,List.mem_append_left _ q3,q4⟩
                   · obtain⟨R0,q3,q4⟩:=two R c
                     exact⟨k1 R c,kg R c,R0,List.mem_append_right _ q3,q4⟩
theorem all_fit {D:Nat→Nat→Int×Int}:∀{Rs:List Pro},(∀R,R∈Rs→R.2=[]∧plainB R.1=true)→allFrom [] Rs D=.ok D
 | [],_=>rfl
 | R :: Rs,h=>by
   obtain⟨h1,h2⟩:=h R (List.mem_cons_self ..)
   rw [all_plain (E:=R.1) (show freedF R []=some (R.1,[]) by rw [←h1];rfl) h2]
   exact all_fit fun Z hZ=>h Z (List.mem_cons_of_mem _ hZ)
def workR (X:Nat→Nd) (N G:Nat→Bool) (D:Nat→Nat→Int×Int) (S0:Nat→Int×Int) (n:Nat):Except Int (Nat→Nat→Int×Int):=match stateF X N G D S0 n with
 | none=>.error 3
 | some st=>allFrom [] st.2 (startD G D)
theorem fg_all {L:List Fac} (h:FG (fun _=>true) L):L=[]:=by
 cases L with
 | nil=>rfl
 | cons f L=>have:=(h f (List.mem_cons_self ..)).1;cases this
theorem work_fits {X:Nat→Nd} {N G:Nat→Bool} {D:Nat→Nat→Int×Int} {S0:Nat→Int×Int} {n m:Nat} (hX:∀i,i<n→Dim64 (X i).E) (hF:∀i,i<n→N i=true→Fit (X i) i m) (hN:∀i,i<n→N i=true→∀j,j<(X i).ar→N ((X i).at j).toNat=true)
   (hS:Dim64 S0) (rS:drK S0 7=true) (hD:∀v,v<m→G v=true→Dim64 (D v)∧drK (D v) 7=true) {Y:Nat→Nat→Int×Int} (h:workR X N G D S0 n=.ok Y) :
   (∀v,v<m→Dim64 (Y v)∧drK (Y v) 7=true)∧(∀v,G v=true→Y v=D v)∧(workR X N (fun _=>true) Y S0 n=.error 3∨workR X N (fun _=>true) Y S0 n=.ok Y):=by
 unfold workR at h
 cases hs:stateF X N G D S0 n with
 | none=>rw [hs] at h;cases h
 | some st =>
   rw [hs] at h
   dsimp only at h
   have hst:=state_two (G':=G) (D':=D) (S:=fun _ _=>0) hX hF hN hS rS hD hD (fun v hv e he=>rfl) n (Nat.le_refl n) st st hs hs
   have h2:=h
   unfold allFrom at h2
   cases hk:solveF [] st.2 with
   | error e=>rw [hk] at h2;cases h2
   | ok K =>
     rw [hk] at h2
     dsimp only at h2
     cases hb:backF K.reverse (startD G D) with
     | none=>rw [hb] at h2;cases h2
     | some Y2 =>
       rw [hb] at h2
       have e2:Y2=Y:=by injection h2
       subst e2
       obtain⟨a1,a2,a3⟩:=solved_fits (V:=(m:Int)) (G:=G) (fun v hv=>by
         unfold startD
         cases hG:G v with
         | true=>rw [if_pos rfl];exact hD v (by omega) hG
         | false=>rw [if_neg (by simp)];exact plE_ok) (fun R hR=>hst.2.1 R hR) hk hb
       have a1':∀v,v<m→Dim64 (Y2 v)∧drK (Y2 v) 7=true:=fun v hv=>a1 v (by omega)
       have a2':∀v,G v=true→Y2 v=D v:=fun v hv=>by rw [a2 v hv];unfold startD;rw [hv];rfl
       refine⟨a1',a2', ?_⟩
       unfold workR
       cases hs2:stateF X N (fun _=>true) Y2 S0 n with
       | none=>exact Or.inl rfl
       | some st2 =>
         refine Or.inr ?_
         dsimp only
         have e3:startD (fun _=>true) Y2=Y2:=by funext v;rfl
         rw [e3]
         have hst2:=state_two (G':=fun _=>true) (D':=Y2) (S:=sgD Y2) hX hF hN hS rS hD (fun v hv _=>a1' v hv) (fun v hv e he=>by
           have es:sgD Y2 (v:Int) e=qP (Y2 v e):=by unfold sgD;rw [show ((v:Int)).toNat=v by omega]
           rw [if_pos rfl,es]
           cases hG:G v with
           | true=>rw [if_pos rfl,a2' v hG]
           | false=>rw [if_neg (by simp)]) n (Nat.le_refl n) st st2 hs hs2
         refine all_fit fun R hR=>?_
         obtain⟨q1,q2,R0,q3,q4⟩:=hst2.2.2.1 R hR
         have q5:=fg_all q2
         refine⟨q5,eqD_iff.2 fun e he=>?_⟩
         have q6:=q4 e he
         rw [a3 R0 q3 e he] at q6
         have q7:evP (sgD Y2) R e=qP (R.1 e):=by
           unfold evP
           rw [q5]
           simp only [evF]
           grind
         rw [q7] at q6
         have q8:∀e,e<7→rightR (R.1 e).1 (R.1 e).2=true:=drK_yes q1.r
         exact qP_eq0 ⟨q8 e he,q1.d e he⟩ q6
end Go.Proofs.Ytbejmklkicoibaa
