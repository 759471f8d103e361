/- unit.solved: the dimensions with which all rules hold. unit.variables.start: what all variables are, ahead of all rules. Rules of two runs: with what was told, given, all rules come to nothing; which nodes are needed. -/
import Derived.Test.YtbejmklkicoibaaSh
import Derived.Test.YtbejmklkicoibaaKe22
import Derived.Test.YtbejmklkicoibaaKe29
import Derived.Test.YtbejmklkicoibaaKe26
namespace Go.Proofs.Ytbejmklkicoibaa
open Go.ChangeShapes Go.WideShapes Go.ChangeAt Go.RowKit
section
variable {P:Program} {ops:Array Oper} {Q:Exit->Act->World->Prop} {a:Act} {w:World} {o:Oper}
theorem step_storeMid {K:Act->World->Prop} {E:Prop} (hgd:Region.wanted o (yielded ops a.tmps)=true) (p v:Operand) (T:TypeId) (ho:o.op=.store T p v) {g off:Nat} {T':TypeId} {old:List Value} (hrow:BlkAt w g T' old) (cs:List Value) (hi:(P.info? T).map (·.size)=some cs.length) (ho2:off+cs.length<=old.length)
  (hp:a.eval p=.pointer (some ⟨g,off,none⟩)) (hv:a.eval v=.agg cs.toArray) (h1:cs.all (·.oneCell')=true)
  (h:∀W,BlkAt W g T' (old.take off++cs++old.drop (off+cs.length))->W.heap.size=w.heap.size->(∀B w0,Below B w0 w->B<=g->Below B w0 W)->(∀k Tk ck,g≠k->BlkAt w k Tk ck->BlkAt W k Tk ck)->K (a.put o.dst undef) W):if Region.wanted o (yielded ops a.tmps)=true then Oper.wp P o a w K Q else E:=by
 rw [if_pos hgd]
 unfold Oper.wp
 obtain⟨dst,op,ty,pos,after,guard⟩:=o
 simp only at ho
 subst ho
 have h1':∀u∈cs,u.oneCell'=true:=fun u hu=>List.all_eq_true.1 h1 u hu
 have hs:(storeVar T ⟨g,off,none⟩ (.agg cs.toArray)).run P w=.ok () (w.setRow g (old.take off++cs++old.drop (off+cs.length)).toArray):=by
  have:=run_storeCells_at (P:=P) g off T' cs 0 old.toArray w hrow (by simpa using ho2) h1'
  simp only [Nat.add_zero] at this
  cases hq:P.info? T with
  | none=>simp [hq] at hi
  | some i =>
   have hs:i.size=cs.length:=by simpa [hq] using hi
   simp [storeVar,sizeOf,typeInfo,hq,Value.cells,hs,this]
 have e:(Instr.storeAt T (.pointer (some ⟨g,off,none⟩)) (.agg cs.toArray)).run P w=.ok () (w.setRow g (old.take off++cs++old.drop (off+cs.length)).toArray):=by
  simp only [Instr.storeAt,Instr.sureAddr,Sem.run_bind,Sem.run_pure,Result.andThen]
  exact hs
 have e2:(execOp a.eval ⟨dst,.store T p v,ty,pos,after,guard⟩).run P w=.ok .skip (w.setRow g (old.take off++cs++old.drop (off+cs.length)).toArray):=by
  simp only [execOp,hp,hv,Sem.run_bind,e,Result.andThen,Sem.run_pure]
 rw [e2]
 exact h _ hrow.set (by show (w.heap.modify g _).size=_;rw [Array.size_modify]) (fun B w0 hb hB=>below_setRow hb hB _) (fun k Tk ck hne hk=>hk.far hne _)
end
def orOver:Option (Nat->Nat->Int×Int)->Except Int (Nat->Nat->Int×Int)
 | none=>.error 3
 | some Y=>.ok Y
def allFrom (K:List (Int×Pro)) (Rs:List Pro) (D:Nat->Nat->Int×Int):Except Int (Nat->Nat->Int×Int):=match solveF K Rs with
 | .error e=>.error e
 | .ok K2=>orOver (backF K2.reverse D)
theorem all_none {K:List (Int×Pro)} {R:Pro} {Rs:List Pro} {D:Nat->Nat->Int×Int} (h:freedF R K=none):allFrom K (R :: Rs) D=.error 3:=by
 unfold allFrom solveF
 rw [h]
theorem all_plain {K:List (Int×Pro)} {R:Pro} {Rs:List Pro} {D:Nat->Nat->Int×Int} {E:Nat->Int×Int} (h:freedF R K=some (E,[])) (hp:plainB E=true):allFrom K (R :: Rs) D=allFrom K Rs D:=by
 unfold allFrom
 rw [solveF,h]
 simp [hp]
theorem all_bad {K:List (Int×Pro)} {R:Pro} {Rs:List Pro} {D:Nat->Nat->Int×Int} {E:Nat->Int×Int} (h:freedF R K=some (E,[])) (hp:plainB E=false):allFrom K (R :: Rs) D=.error 140:=by
 unfold allFrom
 rw [solveF,h]
 simp [hp]
theorem all_no {K:List (Int×Pro)} {R:Pro} {Rs:List Pro} {D:Nat->Nat->Int×Int} {E:Nat->Int×Int} {f:Fac} {F:List Fac} (h:freedF R K=some (E,f :: F)) (hk:keepO (E,f :: F)=none):allFrom K (R :: Rs) D=.error 3:=by
 unfold allFrom
 rw [solveF,h]
 simp [hk]
theorem all_kept {K:List (Int×Pro)} {R:Pro} {Rs:List Pro} {D:Nat->Nat->Int×Int} {E:Nat->Int×Int} {f:Fac} {F:List Fac} {k:Int×Pro} (h:freedF R K=some (E,f :: F)) (hk:keepO (E,f :: F)=some k):allFrom K (R :: Rs) D=allFrom (K++[k]) Rs D:=by
 unfold allFrom
 rw [solveF,h]
 simp [hk]
theorem kept_more {V:Int} {G:Nat->Bool} {K:List (Int×Pro)} {Rl Y:Pro} {k:Int×Pro} (hK:∀k,k∈K->KOk V G k) (hP:K.Pairwise (fun a b=>coF a.1 b.2.2=(0,1))) (hR:POk V Rl) (hG:FG G Rl.2) (hf:freedF Rl K=some Y) (hk:keepO Y=some k) :
  (∀j,j∈K++[k]->KOk V G j)/\(K++[k]).Pairwise (fun a b=>coF a.1 b.2.2=(0,1)):=by
 obtain⟨y1,y2,y3, -, -⟩:=freedF_some hK hP hR hG hf
 obtain⟨k1,k2, -⟩:=keepO_some y1 y2 hk
 refine⟨fun j hj=>?_,List.pairwise_append.2 ⟨hP,List.pairwise_singleton _ _,fun a ha b hb=>?_⟩⟩
 ·rcases List.mem_append.1 hj with c | c
  ·exact hK j c
  ·rw [List.mem_singleton.1 c];exact k1
 ·rw [List.mem_singleton.1 hb]
  exact k2 _ (y3 a ha)
def SvAns (r:Ending) (w:World) (g n dC:Nat):Except Int (Nat->Nat->Int×Int)->Prop
 | .ok Y=>r=.returned (.slice (some ⟨g,0,none⟩) n dC)/\DmAt w g n Y
 | .error e=>r=.panicked (stopP e)
theorem KepAt.other {w W:World} {A:Option Addr} {L:List KV} {g:Nat} {T:TypeId} {cs:List Value} (h:KepAt w A L) (hg:BlkAt w g T cs) (hT:T≠82) (k:∀k Tk ck,g≠k->BlkAt w k Tk ck->BlkAt W k Tk ck):KepAt W A L:=fun hm=>by
 obtain⟨b,cs2,e,l,c⟩:=h hm
 refine⟨b,cs2,e,k b _ _ (fun e=>?_) l,c⟩
 subst e
 have q:some (Obj.cells cs.toArray T (0,0))=some (Obj.cells cs2.toArray 82 (0,0)):=hg.symm.trans l
 injection q with q
 injection q with _ q2 _
 exact hT q2
theorem KepAt.cells {w:World} {b:Nat} {L:List KV} (h:KepAt w (some ⟨b,0,none⟩) L) {i:Nat} {kv:KV} (hi:L[i]?=some kv):∀j u,(kepL kv.1.1 kv.1.2.1 kv.2)[j]?=some u->w.cell? ⟨b,i*16+j,none⟩=some u:=by
 obtain⟨b2,e, -,c⟩:=h.at hi
 have e2:b=b2:=by injection e with e;injection e
 subst e2
 exact c
theorem KvOk.other {w W:World} {L:List KV} {g:Nat} {T:TypeId} {cs:List Value} (h:KvOk w L) (hg:BlkAt w g T cs) (hT:T≠104) (k:∀k Tk ck,g≠k->BlkAt w k Tk ck->BlkAt W k Tk ck):KvOk W L:=fun x hx=>(h x hx).other hg hT k
set_option maxRecDepth 4000 in
set_option maxHeartbeats 16000000 in
theorem usolved_w (AR:Option Addr) (CR:Nat) (L:List PV) (g n dC:Nat) (D:Nat->Nat->Int×Int) (G:Nat->Bool) (hn:n<=500) (hL:L.length<=10000) (hR:∀x,x∈L->POk (n:Int) x.1/\FG G x.1.2) (hD:∀v:Nat,v<n->Dim64 (D v)/\drK (D v) 7=true) (w:World) (VR:RwAt w AR L) (VP:PvOk w L) (VD:DmAt w g n D) :
  Calls Try.prog 18 #[.slice AR L.length CR,.slice (some ⟨g,0,none⟩) n dC] w fun r w'=>SvAns r w' g n dC (allFrom [] (L.map (·.1)) D)/\Below g w w':=by
 obtain⟨R,hRR⟩:∃R,Hid (allFrom [] (L.map (·.1)) D=R):=⟨_,rfl⟩
 rw [hRR.out]
 obtain⟨m,hm⟩:∃m,Hid (m=L.length):=⟨_,rfl⟩
 rw [<-hm.out]
 have hm5:m<=10000:=by have:=hm.out;omega
 have HR:Hid (∀x,x∈L->POk (n:Int) x.1/\FG G x.1.2):=hR
 have HD:Hid (∀v:Nat,v<n->Dim64 (D v)/\drK (D v) 7=true):=hD
 have hgw:g<w.heap.size:=by obtain⟨cs,b, -⟩:=VD;exact b.lt
 have hV5:(0:Int)<=(n:Int)/\(n:Int)<=500:=by omega
 clear hR hD hL
 go_enter Try.func18,Try.ntmps18
 go_wp2_with fail
 go_loopg [5,11] m (fun T s5 s11 wx=>∃(i:Nat) (Ks:List KV),i+T=m/\s11=.int .i64 (i:Int)/\OwnKw w.heap.size wx s5 Ks/\KvOk wx Ks/\Hid (allFrom (Ks.map (·.1)) ((L.drop i).map (·.1)) D=R)/\Hid ((∀k,k∈Ks.map (·.1)->KOk (n:Int) G k)/\(Ks.map (·.1)).Pairwise (fun a b=>coF a.1 b.2.2=(0,1)))/\Hid (Ks.length<=i)/\Below w.heap.size w wx)
 case atStart=>exact⟨0,[],by omega,rfl,ownKw_nil _ _,kvOk_nil _,by rw [List.drop_zero];exact hRR,⟨fun k hk=>(by cases hk),List.Pairwise.nil⟩,Nat.le_refl 0,Below.refl _ _⟩
 case round =>
  clear hRR
  obtain⟨i,Ks,hi,rfl,I,KO,hF,hKs,hKl,HB⟩:=hrel
  obtain⟨A5,C5,e5,hc5,KA⟩:=I.form
  subst e5
  by_cases ci:i=m
  ·subst ci
   obtain⟨q,hq⟩:∃q,Hid (q=Ks.length):=⟨_,rfl⟩
   rw [<-hq.out]
   have hq5:q<=10000:=by have:=hq.out;have:=hKl.out;omega
   obtain⟨Rb,hRb⟩:∃Rb,Hid (backF (Ks.map (·.1)).reverse D=Rb):=⟨_,rfl⟩
   have hR2:Hid (R=orOver Rb):=by
    have q:=hF.out
    rw [List.drop_of_length_le (by have:=hm.out;omega)] at q
    rw [<-q,<-hRb.out]
    rfl
   have DA:=VD.keep HB
   replace HB:=HB.mono (Nat.le_of_lt hgw)
   clear hF I VD VR VP hc5
   go_wp2_with fail
   go_loopg [8] q (fun T s8 wx=>∃(d:Nat) (z:Int) (Dc:Nat->Nat->Int×Int),d+T=q/\z=(q:Int)-1-(d:Int)/\s8=.int .i64 z/\Hid (backF ((Ks.map (·.1)).reverse.drop d) Dc=Rb)/\Hid (∀v:Nat,v<n->Dim64 (Dc v)/\drK (Dc v) 7=true)/\DmAt wx g n Dc/\KepAt wx A5 Ks/\KvOk wx Ks/\Below g w wx)
   case atStart=>exact⟨0,(q:Int)-1,D,by omega,by omega,by first | rfl | go_num,by rw [List.drop_zero];exact hRb,HD,DA,KA,KO,HB⟩
   case round =>
    clear HB DA KA KO hRb
    obtain⟨d,z,Dc,hd,hz,rfl,hF,hDc,DA,KA,KO,HB⟩:=hrel
    by_cases cd:d=q
    ·have hz0:¬(0:Int)<=z:=by omega
     have e1:Hid (R=.ok Dc):=by
      have q1:=hF.out
      rw [List.drop_of_length_le (by rw [List.length_reverse,List.length_map];have:=hq.out;omega)] at q1
      have q2:=hR2.out
      rw [<-q1] at q2
      exact q2
     clear hF hR2
     go_wp2_with fail
     go_ret
     have e2:=e1.out
     subst e2
     exact⟨⟨rfl,DA⟩,HB⟩
    ·obtain⟨t,rfl⟩:∃t:Nat,z=(t:Int):=⟨z.toNat,by omega⟩
     have hz0:(0:Int)<=(t:Int):=by omega
     have ht:t=q-1-d:=by omega
     have htq:t<Ks.length:=by have:=hq.out;omega
     have htq2:(t:Int)<(q:Int):=by omega
     obtain⟨kv,hkv⟩:∃kv,Ks[t]?=some kv:=⟨_,List.getElem?_eq_getElem htq⟩
     have hdr:(Ks.map (·.1)).reverse.drop d=kv.1 :: (Ks.map (·.1)).reverse.drop (d+1):=by
      have hdl:d<(Ks.map (·.1)).reverse.length:=by rw [List.length_reverse,List.length_map];have:=hq.out;omega
      rw [List.drop_eq_getElem_cons hdl]
      congr 1
      have e1:(Ks.map (·.1)).reverse[d]?=some kv.1:=by
       rw [List.getElem?_reverse (by rw [List.length_map];have:=hq.out;omega),List.length_map,List.getElem?_map,show Ks.length-1-d=t by have:=hq.out;omega,hkv]
       rfl
      rw [List.getElem?_eq_getElem hdl] at e1
      exact Option.some.inj e1
     have hkk:=hKs.out.1 kv.1 (List.mem_map.2 ⟨kv,List.mem_of_getElem? hkv,rfl⟩)
     obtain⟨kb,hA,lk,gk2⟩:=KA.at hkv
     obtain⟨Ak,ck,e2,hck,fak⟩:=KO kv (List.mem_of_getElem? hkv)
     rw [e2] at gk2
     obtain⟨T,hT⟩:∃T,Hid (toldF Dc kv.1=T):=⟨_,rfl⟩
     have ct:∀W,FSl W (.slice Ak kv.1.2.2.length ck) kv.1.2.2->Dms W (some ⟨g,0,none⟩) n Dc->Calls Try.prog 37 #[kepV kv.1.1 kv.1.2.1 (.slice Ak kv.1.2.2.length ck),.slice (some ⟨g,0,none⟩) n dC] W fun r w'=>DmAns r T/\Below W.heap.size W w':=by
      rw [<-hT.out]
      exact fun W f1 f2=>utold_w kv.1 (.slice Ak kv.1.2.2.length ck) (n:Int) hkk.p hV5 (some ⟨g,0,none⟩) n dC Dc rfl hDc.out W f1 f2
     obtain⟨o,ho⟩:∃o:Nat,kv.1.1=(o:Int):=⟨kv.1.1.toNat,by have:=hkk.l;omega⟩
     have hon:o<n:=by have:=hkk.h;omega
     have hto:kv.1.1.toNat=o:=by omega
     have hF2:Hid ((T.bind fun E=>backF ((Ks.map (·.1)).reverse.drop (d+1)) (fun v=>if v=o then E else Dc v))=Rb):=by
      have q1:=hF.out
      rw [hdr,backF,hT.out,hto] at q1
      exact q1
     have hTD:Hid (∀E,T=some E->Dim64 E/\drK E 7=true):=fun E hE=>by
      obtain⟨a1,a2, -⟩:=toldF_some (V:=(n:Int)) (G:=G) (fun v hv=>hDc.out v (by omega)) hkk (hT.out.trans hE)
      exact⟨a1,a2⟩
     subst hA
     have f1:FSl wr (.slice Ak kv.1.2.2.length ck) kv.1.2.2:=⟨Ak,ck,rfl,hck,fak⟩
     have x0:wr.cell? ⟨kb,t*16,none⟩=some (.int .i64 (o:Int)):=by have q1:=gk2 0 _ rfl;rw [ho] at q1;exact q1
     have hon2:(o:Int)<(n:Int):=by omega
     have HZ:Hid ((t:Int)=(q:Int)-1-(d:Int)):=hz
     replace hkv:Hid (Ks[t]?=some kv):=hkv
     replace ho:Hid (kv.1.1=(o:Int)):=ho
     replace gk2:Hid (∀j u,(kepL kv.1.1 kv.1.2.1 (.slice Ak kv.1.2.2.length ck))[j]?=some u->wr.cell? ⟨kb,t*16+j,none⟩=some u):=gk2
     replace e2:Hid (kv.2=.slice Ak kv.1.2.2.length ck):=e2
     clear hF hdr hkk hT hck fak hto htq hz ht
     go_upto_region 14 with fail
     have hgr:g<=wr.heap.size:=Nat.le_trans (Nat.le_of_lt hgw) HB.size
     have kx:∀W,KepAt W (some ⟨kb,0,none⟩) Ks->W.cell? ⟨kb,t*16,none⟩=some (.int .i64 (o:Int)):=fun W h=>by
      have q1:=h.cells hkv.out 0 _ rfl
      rw [ho.out] at q1
      exact q1
     refine wp_region_held_drew (S:=fun W=>KepAt W (some ⟨kb,0,none⟩) Ks/\W.cell? ⟨kb,t*16,none⟩=some (.int .i64 (o:Int))) (by kernel_rfl) ⟨KA,x0⟩ (fun hHeld=>?_)
     refine tk (v:=?_) 0 rfl ?_ hHeld ?_;rotate_left;(focus ((intro w hSw;(try dsimp only at hSw);go_simp);try with_reducible rfl));simp only[gA,gB,Act.put,gD,gE,gF];refine tk (v:=?_) 1 rfl ?_ hHeld ?_;rotate_left;(focus ((intro w hSw;(try dsimp only at hSw);go_simp);try with_reducible rfl));simp only[gA,gB,gC,Act.put,gD,gE,gF];refine tk (v:=?_) 2 rfl ?_ hHeld ?_;rotate_left;(focus ((intro w hSw;(try dsimp only at hSw);go_simp);try with_reducible rfl));simp only[gA,gB,gC,Act.put,gD,gE,gF];refine tk (v:=?_) 3 rfl ?_ hHeld ?_;rotate_left;(focus ((intro w hSw;(try dsimp only at hSw);go_simp);try with_reducible rfl));simp only[gA,gB,gC,Act.put,gD,gE,gF];refine tk (v:=?_) 4 rfl ?_ hHeld ?_;rotate_left;(focus ((intro w hSw;(try dsimp only at hSw);go_simp);try with_reducible rfl));simp only[gA,gB,gC,Act.put,gD,gE,gF];refine tk (v:=?_) 5 rfl ?_ hHeld ?_;rotate_left;(focus ((intro w hSw;(try dsimp only at hSw);go_simp);try with_reducible rfl));simp only[gA,gB,gC,Act.put,gD,gE,gF];refine tk (v:=?_) 6 rfl ?_ hHeld ?_;rotate_left;(focus ((intro w hSw;(try dsimp only at hSw);go_simp);try with_reducible rfl));simp only[gA,gB,gC,Act.put,gD,gE,gF];refine tk (v:=?_) 7 rfl ?_ hHeld ?_;rotate_left;(focus ((intro w hSw;(try dsimp only at hSw);go_simp);try with_reducible rfl));simp only[gA,gB,gC,Act.put,gD,gE,gF];refine tk (v:=?_) 8 rfl ?_ hHeld ?_;rotate_left;(focus ((intro w hSw;(try dsimp only at hSw);go_simp);try with_reducible rfl));simp only[gA,gB,gC,Act.put,gD,gE,gF]
     refine wpAnyH_take (i:=9) (v:=kepV kv.1.1 kv.1.2.1 (.slice Ak kv.1.2.2.length ck)) rfl (by kernel_rfl) (by kernel_rfl) (by kernel_rfl) (fun _ _ _ h=>h) (yields_loadBig (by rfl) _ 82 (by rfl) Try.underlying82 (kepL kv.1.1 kv.1.2.1 (.slice Ak kv.1.2.2.length ck)) (by kernel_rfl) (by rfl) (fun W hS j u hj=>hS.1.cells hkv.out j u (by rw [e2.out];exact hj)) (kep_val _ _ _)) hHeld ?_;simp only[gA,gB,gC,Act.put,gD,gE,gF]
     refine tk (v:=?_) 10 rfl ?_ hHeld ?_;rotate_left;(focus ((intro w hSw;(try dsimp only at hSw);go_simp);try with_reducible rfl));simp only[gA,gB,gC,Act.put,gD,gE,gF]
     have HD0:Below wr.heap.size wr wr.drew:=(Below.refl _ _).drew
     replace HB:=HB.trans (HD0.mono hgr)
     replace DA:=DA.keep HD0
     replace KA:=KA.keep HD0
     replace KO:=KO.keep HD0
     replace f1:=f1.keep HD0
     clear HD0 gk2 x0
     refine rd 11 rfl (fun K hK=>?_);simp only[gA,gB,gC,Act.put,gD,gE,gF];go_simp
     go_at_call 37
     (with_reducible refine (ct _ f1 DA.dms).mono ?_)
     rintro r W2 ⟨hM,hb2⟩
     cases T with
     | none =>
      have eR:Hid (R=.error 3):=by
       have q1:none=Rb:=hF2.out
       have q2:=hR2.out
       rw [<-q1] at q2
       exact q2
      have hr:=hM.no
      subst hr
      have e2:=eR.out
      subst e2
      exact⟨rfl,rfl,HB.trans (hb2.mono hgr)⟩
     | some E =>
      have hF3:Hid (backF ((Ks.map (·.1)).reverse.drop (d+1)) (fun v=>if v=o then E else Dc v)=Rb):=hF2.out
      have hE:=hTD.out E rfl
      have hr:=hM.yes
      subst hr
      replace HB:=HB.trans (hb2.mono hgr)
      replace DA:=DA.keep hb2
      replace KA:=KA.keep hb2
      replace KO:=KO.keep hb2
      clear hb2 hM f1 ct
      dsimp only
      refine hK.out _ _ ⟨KA,kx _ KA⟩ (fun hHeld=>?_)
      clear hK K
      refine tk (v:=?_) 12 rfl ?_ hHeld ?_;rotate_left;(focus ((intro w hSw;(try dsimp only at hSw);go_simp);try with_reducible rfl));simp only[gA,gB,gC,Act.put,gD,gE,gF]
      obtain⟨cs,DB,Dl,Df⟩:=DA
      replace Dl:Hid (cs.length=n*14):=Dl
      refine rd 13 rfl (fun K hK=>?_)
      refine step_storeMid (off:=o*14) (by rfl) _ _ 30 (by rfl) DB (dimL E) (by kernel_rfl) (by rw [Dl.out,dimL_len];omega) (by rfl) (by rfl) (by rfl) ?_
      rintro V3 XR hs3 hB3 hk3
      have KA3:=KA.other DB (by decide) hk3
      refine hK.out _ _ ⟨KA3,kx _ KA3⟩ (fun _=>wpAnyH_done (by kernel_rfl) ?_ _)
      clear hK K
      go_wp2_with fail
      have DA3:=DmAt.set (t:=o) Dl.out Df hon XR
      replace HB:=hB3 _ _ HB (Nat.le_refl _)
      replace KO:=KO.other DB (by decide) hk3
      have hD3:Hid (∀v:Nat,v<n->Dim64 ((fun v=>if v=o then E else Dc v) v)/\drK ((fun v=>if v=o then E else Dc v) v) 7=true):=fun v hv=>by
       dsimp only
       by_cases c:v=o
       ·rw [if_pos c];exact hE
       ·rw [if_neg c];exact hDc.out v hv
      go_roundg (q-d-1)
      case measure=>omega
      case rel=>exact⟨d+1,(t:Int)-1,_,by omega,by have hz:(t:Int)=(q:Int)-1-(d:Int):=HZ;omega,by first | rfl | go_num,hF3,hD3,DA3,KA3,KO,HB⟩
  ·have hin:i<L.length:=by have:=hm.out;omega
   obtain⟨x,hx⟩:∃x,L[i]?=some x:=⟨_,List.getElem?_eq_getElem hin⟩
   have hdr:(L.drop i).map (·.1)=x.1 :: (L.drop (i+1)).map (·.1):=by
    have e:=List.getElem?_eq_getElem hin
    rw [hx] at e
    rw [List.drop_eq_getElem_cons hin,<-Option.some.inj e]
    rfl
   obtain⟨rb,hA,lr,gr⟩:=(VR.keep HB) i x hx
   obtain⟨Ax,cx,ex,hcx,fax⟩:=(VP.keep HB) x (List.mem_of_getElem? hx)
   obtain⟨hRx,hRg⟩:=HR.out x (List.mem_of_getElem? hx)
   rw [ex] at gr
   subst hA
   have hlt:(i:Int)<(m:Int):=by omega
   have hF2:Hid (allFrom (Ks.map (·.1)) (x.1 :: (L.drop (i+1)).map (·.1)) D=R):=by
    have q:=hF.out
    rw [hdr] at q
    exact q
   have hKl2:=hKl.out
   have cf:=fun W f1 VA VO=>ufreed_w x.1.1 x.1.2 (.slice Ax x.1.2.length cx) A5 C5 Ks (n:Int) hV5 hRx (by omega) (fun y hy=>by have q:=hKs.out.1 y.1 (List.mem_map.2 ⟨y,hy,rfl⟩);exact⟨q.p,q.l,q.h⟩) W f1 VA VO
   obtain⟨T,hT⟩:∃T,Hid (freedF (x.1.1,x.1.2) (Ks.map (·.1))=T):=⟨_,rfl⟩
   rw [hT.out] at cf
   have HX:Hid (POk (n:Int) x.1/\FG G x.1.2):=⟨hRx,hRg⟩
   have fx:FSl wr (.slice Ax x.1.2.length cx) x.1.2:=⟨Ax,cx,rfl,hcx,fax⟩
   clear hF hdr ex hcx fax hRx hRg hin hKl2 hx
   go_upto_region 5 with (first
    | (refine wpList_loadBig (by rfl) _ 79 (by rfl) Try.underlying79 (proL x.1.1 (.slice Ax x.1.2.length cx)) (by kernel_rfl) (by rfl) (gr) (pro_val _ _) ?_)
    | (refine wpList_storeBig (by rfl) _ _ 79 (by rfl) (blk_new _ _ _) (proL x.1.1 (.slice Ax x.1.2.length cx)) (by kernel_rfl) (by rfl) (by rfl) (by rfl) (by rfl) ?_;rintro V2 XR hs2 hB2 hk2))
   have grw:Below wr.heap.size wr V2:=hB2 _ _ (Below.alloc (Below.refl _ _) (Nat.le_refl _) _) (Nat.le_refl _)
   have hxb:w.heap.size<=wr.heap.size:=HB.size
   replace HB:=later HB grw
   replace I:=I.keep grw
   replace KA:=KA.keep grw
   replace KO:=KO.keep grw
   replace fx:=fx.keep grw
   have XB:=XR
   obtain⟨xb,hxb2⟩:∃xb,xb=wr.heap.size:=⟨_,rfl⟩
   rw [<-hxb2] at XB hxb ⊢
   clear hxb2 hB2 hk2 hs2 grw XR gr lr
   try simp only [Act.put]
   cases T with
   | none =>
    have eR:Hid (R=.error 3):=by
     have q:=hF2.out
     rw [all_none hT.out] at q
     exact q.symm
    clear hF2 hT
    go_wp2_with (first
     | (refine wpList_loadBig (by rfl) _ 79 (by rfl) Try.underlying79 (proL x.1.1 (.slice Ax x.1.2.length cx)) (by kernel_rfl) (by rfl) (XB.cell0) (pro_val _ _) ?_)
     | (go_at_call 34;(with_reducible refine (cf _ fx KA KO).mono ?_);rintro r W2 ⟨hM,hb2⟩;have hr:=hM.no;subst hr;have e2:=eR.out;subst e2;exact⟨rfl,rfl,(later HB hb2).mono (Nat.le_of_lt hgw)⟩))
   | some Y =>
    obtain⟨YE,YF⟩:=Y
    go_upto_region 6 with (first
     | (refine wpList_loadBig (by rfl) _ 79 (by rfl) Try.underlying79 (proL x.1.1 (.slice Ax x.1.2.length cx)) (by kernel_rfl) (by rfl) (XB.cell0) (pro_val _ _) ?_)
     | (go_at_call 34;(with_reducible refine (cf _ fx KA KO).mono ?_);rintro r W2 ⟨hM,hb2⟩;obtain⟨s9,hr,A9,c9,rfl,hc9,fa9⟩:=hM.yes;replace hr:r=.returned (.agg (proL YE (.slice A9 YF.length c9)).toArray):=hr;subst hr;replace HB:=later HB hb2;replace I:=I.keep hb2;replace KO:=KO.keep hb2;replace XB:=XB.keeps hb2;clear hb2 hM KA fx)
     | (refine wpList_storeBig (by rfl) _ _ 79 (by rfl) (XB) (proL YE (.slice A9 YF.length c9)) (by kernel_rfl) (by rfl) (by rfl) (by rfl) (by rfl) ?_;rintro V4 XR hs2 hB2 hk2))
    replace HB:=hB2 _ _ HB hxb
    replace I:=I.off XB (by decide) hk2
    replace KO:=KO.other XB (by decide) hk2
    replace fa9:=fa9.other XB (by decide) hk2
    replace hc9:Hid (YF.length<=c9):=hc9
    clear XB hB2 hk2 hs2 cf
    have XB:=XR
    clear XR
    try simp only [Act.put]
    cases YF with
    | nil =>
     replace XB:BlkAt V4 xb 79 (proL YE (.slice A9 0 c9)):=XB
     have x14:=XB.cell 14 _ rfl
     have ci:=fun W=>uisPlain_w YE W
     cases hb:eqD YE plE with
     | true =>
      rw [hb] at ci
      have hF3:Hid (allFrom (Ks.map (·.1)) ((L.drop (i+1)).map (·.1)) D=R):=by
       have q:=hF2.out
       rw [all_plain hT.out hb] at q
       exact q
      clear hF2 hT hb
      go_wp2_with (first
       | (refine wpList_loadBig (by rfl) _ 30 (by rfl) Try.underlying30 (dimL YE) (by kernel_rfl) (by rfl) (XB.dim0) (dim_valU YE) ?_)
       | (go_at_call 36;(with_reducible refine (ci _).mono ?_);rintro _ W5 ⟨rfl,hb2⟩;replace HB:=later HB hb2;replace I:=I.keep hb2;replace KO:=KO.keep hb2;clear hb2 x14))
      go_roundg (m-i-1)
      case measure=>omega
      case rel=>exact⟨i+1,Ks,by omega,by go_num,I,KO,hF3,hKs,Nat.le_succ_of_le hKl.out,HB⟩
     | false =>
      rw [hb] at ci
      have eR:Hid (R=.error 140):=by
       have q:=hF2.out
       rw [all_bad hT.out hb] at q
       exact q.symm
      clear hF2 hT hb
      go_wp2_with (first
       | (refine wpList_loadBig (by rfl) _ 30 (by rfl) Try.underlying30 (dimL YE) (by kernel_rfl) (by rfl) (XB.dim0) (dim_valU YE) ?_)
       | (go_at_call 36;(with_reducible refine (ci _).mono ?_);rintro _ W5 ⟨rfl,hb2⟩;replace HB:=later HB hb2;clear hb2 x14))
      have e2:=eR.out
      subst e2
      exact⟨rfl,rfl,HB.mono (Nat.le_of_lt hgw)⟩
    | cons f F =>
     obtain⟨y1,y2, -⟩:=freedF_some hKs.out.1 hKs.out.2 HX.out.1 HX.out.2 hT.out
     have hf0:=fac_n0 (y1.f f (List.mem_cons_self ..)) (y2 f (List.mem_cons_self ..)).2
     have ck:=fun W f1=>ukeep_w YE A9 c9 f F (n:Int) hV5 hc9.out y1 hf0 W f1
     obtain⟨T2,hT2⟩:∃T2,Hid (keepO (YE,f :: F)=T2):=⟨_,rfl⟩
     rw [hT2.out] at ck
     obtain⟨l9,hl9⟩:∃l9,Hid (l9=(f :: F).length):=⟨_,rfl⟩
     rw [<-hl9.out] at ck XB
     have x14:=XB.cell 14 _ rfl
     have hl0:(0:Int)<(l9:Int):=by have:=hl9.out;simp at this;omega
     clear y1 y2 hf0 hc9
     cases T2 with
     | none =>
      have eR:Hid (R=.error 3):=by
       have q:=hF2.out
       rw [all_no hT.out hT2.out] at q
       exact q.symm
      clear hF2 hT hT2
      go_wp2_with (first
       | (refine wpList_loadBig (by rfl) _ 79 (by rfl) Try.underlying79 (proL YE (.slice A9 l9 c9)) (by kernel_rfl) (by rfl) (XB.cell0) (pro_val _ _) ?_)
       | (go_at_call 35;(with_reducible refine (ck _ fa9).mono ?_);rintro r W2 ⟨hM,hb2⟩;have hr:=hM.no;subst hr;have e2:=eR.out;subst e2;exact⟨rfl,rfl,(later HB hb2).mono (Nat.le_of_lt hgw)⟩))
     | some X =>
      have hF3:Hid (allFrom ((Ks.map (·.1))++[X]) ((L.drop (i+1)).map (·.1)) D=R):=by
       have q:=hF2.out
       rw [all_kept hT.out hT2.out] at q
       exact q
      have hKs2:=kept_more hKs.out.1 hKs.out.2 HX.out.1 HX.out.2 hT.out hT2.out
      replace hKs2:Hid ((∀j,j∈Ks.map (·.1)++[X]->KOk (n:Int) G j)/\(Ks.map (·.1)++[X]).Pairwise (fun a b=>coF a.1 b.2.2=(0,1))):=hKs2
      have hly:Hid (Ks.length+[(X,Value.bool true)].length<=100000):=by show _<=_;have:=hKl.out;have e1:[(X,Value.bool true)].length=1:=rfl;rw [e1];omega
      obtain⟨q5,hq5⟩:∃q5,Hid (q5=Ks.length):=⟨_,rfl⟩
      rw [<-hq5.out]
      have I2:OwnKw w.heap.size V4 (.slice A5 q5 C5) Ks:=by rw [hq5.out];exact I
      clear hF2 hT hT2 hKs I
      go_wp2_with (first
       | (refine wpList_loadBig (by rfl) _ 79 (by rfl) Try.underlying79 (proL YE (.slice A9 l9 c9)) (by kernel_rfl) (by rfl) (XB.cell0) (pro_val _ _) ?_)
       | (go_at_call 35;(with_reducible refine (ck _ fa9).mono ?_);rintro r W2 ⟨hM,hb2⟩;obtain⟨s8,hr,A8,c8,rfl,hc8,fa8⟩:=hM.yes;replace hr:r=.returned (.agg #[.int .i64 X.1,.int .i64 (X.2.1 0).1,.int .i64 (X.2.1 0).2,.int .i64 (X.2.1 1).1,.int .i64 (X.2.1 1).2,.int .i64 (X.2.1 2).1,.int .i64 (X.2.1 2).2,.int .i64 (X.2.1 3).1,.int .i64 (X.2.1 3).2,.int .i64 (X.2.1 4).1,.int .i64 (X.2.1 4).2,.int .i64 (X.2.1 5).1,.int .i64 (X.2.1 5).2,.int .i64 (X.2.1 6).1,.int .i64 (X.2.1 6).2,.slice A8 X.2.2.length c8]):=hr;subst hr;replace HB:=later HB hb2;replace I2:=I2.keep hb2;replace KO:=KO.keep hb2;clear hb2 hM x14 XB fa9 ck)
       | (at_builtin;refine wpList_catK (by rfl) _ _ (by rfl) _ Ks [(X,.slice A8 X.2.2.length c8)] _ 1 1 (by rfl) (by rfl) rfl (by simp) (I2.keep (by go_grown)) (blk_new _ _ _) (fun z hz=>by rw [List.mem_singleton.1 hz];exact⟨A8,c8,rfl,hc8,fa8.keep (by go_grown)⟩) hly.out (by have:=HB.size;rw [World.size_alloc];omega) ?_;intro v' w8 I8 hb8 hs8 hk8 hW8))
      go_roundg (m-i-1)
      case measure=>omega
      case rel=>exact⟨i+1,Ks++[(X,.slice A8 X.2.2.length c8)],by omega,by go_num,I8,(fun z hz=>(List.mem_append.1 hz).elim (hk8 Ks (KO.keep (by go_grown)) z) (hk8 [(X,.slice A8 X.2.2.length c8)] (fun z hz=>by rw [List.mem_singleton.1 hz];exact⟨A8,c8,rfl,hc8,fa8.keep (by go_grown)⟩) z)),(by show allFrom _ _ _=_;rw [List.map_append];exact hF3.out),(by rw [List.map_append];exact hKs2),(by show (Ks++[(X,Value.slice A8 X.2.2.length c8)]).length<=i+1;rw [List.length_append];have:=hKl.out;have e1:[(X,Value.slice A8 X.2.2.length c8)].length=1:=rfl;rw [e1];omega),HB.trans ((Below.alloc (Below.refl _ _) HB.size _).trans hb8)⟩
theorem Try.infoDim:(Try.prog.info? 30).map (fun i=>(i.zero,i.size,i.bytes))=some (some (.agg #[.int .i64 0,.int .i64 0,.int .i64 0,.int .i64 0,.int .i64 0,.int .i64 0,.int .i64 0,.int .i64 0,.int .i64 0,.int .i64 0,.int .i64 0,.int .i64 0,.int .i64 0,.int .i64 0]),14,112):=by kernel_rfl
theorem wpList_makeD {w:World} {ops:Array Oper} {rest:List Oper} {o:Oper} {a:Act} {Q:Exit->Act->World->Prop} (hgd:o.guard=none) (l c:Operand)
  (ho:o.op=.makeSlice 24 l c) (n:Nat) (hl:a.eval l=.int .i64 (n:Int)) (hc:a.eval c=.int .i64 (n:Int)) (hn:n<=30000)
  (h:∀w',(∃cs,BlkAt w' w.heap.size 30 cs/\cs.length=n*14)->Below w.heap.size w w'->wpList Try.prog ops Q rest (a.put o.dst (.slice (some ⟨w.heap.size,0,none⟩) n n)) w'):wpList Try.prog ops Q (o :: rest) a w:=by
 obtain⟨i0,hi,hz0,hz1,hz2⟩:=info_parts Try.infoDim
 refine wpList_make_full w hgd l c 24 ho w.heap.size 30 i0 _ 14 Try.underlying24 hi hz0 hz1 .i64 .i64 _ _ n hl hc rfl rfl (by rw [hz2];omega) (by unfold maxLen;omega) (Nat.le_refl _) ?_
 intro w' h1 h2
 refine h w' ?_ ⟨h2.os,h2.tape,h2.output,h2.size,fun k hk=>h2.block k hk (by simp)⟩
 rcases h1.2 with ⟨e,_⟩ | ⟨g,cap,cur,e, -,hg, -, -,hs, -⟩
 ·cases e
 ·injection e with e1 e2 e3
  injection e1 with e1
  injection e1 with e1
  subst e1 e3
  exact⟨cur.toList,by show w'.heap[_]?=_;rw [hg],by rw [<-hs];simp⟩
def DmUp (w:World) (g n k:Nat) (D:Nat->Nat->Int×Int):Prop:=∃cs,BlkAt w g 30 cs/\cs.length=n*14/\∀v,v<k->∀j u,(dimL (D v))[j]?=some u->cs[v*14+j]?=some u
theorem DmUp.keep {w W:World} {g n k:Nat} {D:Nat->Nat->Int×Int} (h:DmUp w g n k D) (b:Below w.heap.size w W):DmUp W g n k D:=by
 obtain⟨cs,c,r⟩:=h
 exact⟨cs,c.keeps b,r⟩
theorem DmUp.set {W:World} {g n k t:Nat} {D:Nat->Nat->Int×Int} {E:Nat->Int×Int} {cs:List Value} (hl:cs.length=n*14) (f:∀v,v<k->∀j u,(dimL (D v))[j]?=some u->cs[v*14+j]?=some u) (ht:t<n)
  (bW:BlkAt W g 30 (cs.take (t*14)++dimL E++cs.drop (t*14+14))) {D':Nat->Nat->Int×Int} (h1:D' t=E) (h2:∀v,v<t->D' v=D v) (hk:t<=k):DmUp W g n (t+1) D':=by
 have h0:(cs.take (t*14)).length=t*14:=by rw [List.length_take];omega
 refine⟨_,bW, ?_,fun m hm j u hj=>?_⟩
 ·simp only [List.length_append,h0,dimL_len,List.length_drop]
  omega
 ·have hj2:=(List.getElem?_eq_some_iff.1 hj).1
  rw [dimL_len] at hj2
  by_cases e:m=t
  ·subst e
   rw [h1] at hj
   rw [List.append_assoc,List.getElem?_append_right (by omega),h0,show m*14+j-m*14=j by omega,List.getElem?_append_left (by rw [dimL_len];omega)]
   exact hj
  ·have c1:m<t:=by omega
   rw [h2 m c1] at hj
   have g1:=f m (by omega) j u hj
   have:m*14+j<t*14:=by omega
   rw [List.append_assoc,List.getElem?_append_left (by omega),List.getElem?_take_of_lt this]
   exact g1
theorem DmUp.all {w:World} {g n:Nat} {D:Nat->Nat->Int×Int} (h:DmUp w g n n D):DmAt w g n D:=h
def startD (G:Nat->Bool) (D:Nat->Nat->Int×Int):Nat->Nat->Int×Int:=fun v=>if G v then D v else plE
set_option maxRecDepth 4000 in
set_option maxHeartbeats 8000000 in
theorem ustart_w (A0 A1:Option Addr) (n0 C0 C1:Nat) (D:Nat->Nat->Int×Int) (G:Nat->Bool) (S:Nat->Int×Int) (hn0:n0<=500) (w:World) (VD:Dms w A0 n0 D) (VG:Bls w A1 n0 G) :
  Calls Try.prog 20 #[vrV (.slice A0 n0 C0) (.slice A1 n0 C1) S] w fun r w'=>(∃g,w.heap.size<=g/\r=.returned (.slice (some ⟨g,0,none⟩) n0 n0)/\DmAt w' g n0 (startD G D))/\Below w.heap.size w w':=by
 have cp:∀W,Calls Try.prog 40 #[] W fun r w'=>r=.returned (.agg #[.int .i64 (plE 0).1,.int .i64 (plE 0).2,.int .i64 (plE 1).1,.int .i64 (plE 1).2,.int .i64 (plE 2).1,.int .i64 (plE 2).2,.int .i64 (plE 3).1,.int .i64 (plE 3).2,.int .i64 (plE 4).1,.int .i64 (plE 4).2,.int .i64 (plE 5).1,.int .i64 (plE 5).2,.int .i64 (plE 6).1,.int .i64 (plE 6).2])/\Below W.heap.size W w':=fun W=>uplain_w W
 show Calls Try.prog _ #[.agg #[.slice A0 n0 C0,.slice A1 n0 C1,.int .i64 (S 0).1,.int .i64 (S 0).2,.int .i64 (S 1).1,.int .i64 (S 1).2,.int .i64 (S 2).1,.int .i64 (S 2).2,.int .i64 (S 3).1,.int .i64 (S 3).2,.int .i64 (S 4).1,.int .i64 (S 4).2,.int .i64 (S 5).1,.int .i64 (S 5).2,.int .i64 (S 6).1,.int .i64 (S 6).2]] w _
 obtain⟨XV,HB⟩:=blks1 w 43 [.slice A0 n0 C0,.slice A1 n0 C1,.int .i64 (S 0).1,.int .i64 (S 0).2,.int .i64 (S 1).1,.int .i64 (S 1).2,.int .i64 (S 2).1,.int .i64 (S 2).2,.int .i64 (S 3).1,.int .i64 (S 3).2,.int .i64 (S 4).1,.int .i64 (S 4).2,.int .i64 (S 5).1,.int .i64 (S 5).2,.int .i64 (S 6).1,.int .i64 (S 6).2]
 go_enter Try.func20,Try.ntmps20
 go_upto_region 1 with fail
 generalize (w.alloc (.cells #[.slice A0 n0 C0,.slice A1 n0 C1,.int .i64 (S 0).1,.int .i64 (S 0).2,.int .i64 (S 1).1,.int .i64 (S 1).2,.int .i64 (S 2).1,.int .i64 (S 2).2,.int .i64 (S 3).1,.int .i64 (S 3).2,.int .i64 (S 4).1,.int .i64 (S 4).2,.int .i64 (S 5).1,.int .i64 (S 5).2,.int .i64 (S 6).1,.int .i64 (S 6).2] 43))=V1 at *
 replace XV:BlkAt V1 w.heap.size 43 (vrL (.slice A0 n0 C0) (.slice A1 n0 C1) S):=XV
 have x0:=XV.cell 0 _ rfl
 go_wp2_with (at_make;refine wpList_makeD (by rfl) _ _ (by rfl) n0 (by rfl) (by rfl) (by omega) ?_;intro w3 ID hb3)
 obtain⟨cs0,ID1,ID2⟩:=ID
 have DU:DmUp w3 V1.heap.size n0 0 (startD G D):=⟨cs0,ID1,ID2,fun v hv=>absurd hv (by omega)⟩
 have hgv:w.heap.size<V1.heap.size:=XV.lt
 replace XV:=XV.keeps hb3
 replace HB:=later HB hb3
 clear hb3 ID1 ID2 x0
 obtain⟨g,hg⟩:∃g,g=V1.heap.size:=⟨_,rfl⟩
 rw [<-hg] at DU hgv ⊢
 clear hg
 go_loopg [11] n0 (fun T s11 wx=>∃i:Nat,i+T=n0/\s11=.int .i64 (i:Int)/\DmUp wx g n0 i (startD G D)/\BlkAt wx w.heap.size 43 (vrL (.slice A0 n0 C0) (.slice A1 n0 C1) S)/\Below w.heap.size w wx)
 case atStart=>exact⟨0,by omega,rfl,DU,XV,HB⟩
 case round =>
  clear HB XV DU
  obtain⟨i,hi,rfl,DU,XV,HB⟩:=hrel
  by_cases ci:i=n0
  ·subst ci
   go_wp2_with fail
   go_ret
   exact⟨⟨g,by omega,rfl,DU.all⟩,HB⟩
  ·have hin:i<n0:=by omega
   have hlt:(i:Int)<(n0:Int):=by omega
   go_upto_region 6 with (first
    | (go_at_call 40;(with_reducible refine (cp _).mono ?_);rintro _ W5 ⟨rfl,hb2⟩;replace HB:=later HB hb2;replace XV:=XV.keeps hb2;replace DU:=DU.keep hb2;clear hb2;obtain⟨cs,DB,Dl,Df⟩:=DU;replace Dl:Hid (cs.length=n0*14):=Dl)
    | (refine wpList_storeMid (off:=i*14) (by rfl) _ _ 30 (by rfl) DB (dimL plE) (by kernel_rfl) (by rw [Dl.out,dimL_len];omega) (by rfl) (by rfl) (by rfl) ?_;rintro V3 XR hs3 hB3 hk3))
   have DU2:DmUp V3 g n0 (i+1) (fun v=>if v=i then plE else startD G D v):=DmUp.set Dl.out Df hin XR (if_pos rfl) (fun v hv=>if_neg (by omega)) (Nat.le_refl i)
   replace XV:=hk3 _ _ _ (by omega) XV
   replace HB:=hB3 _ _ HB (by omega)
   clear XR hB3 hk3 hs3 DB Df Dl
   obtain⟨b1,o1,hA1,l1,g1⟩:=(VG.keep HB) i hin
   obtain⟨b0,o0,hA0,l0,g0⟩:=(VD.keep HB) i hin
   replace g0:Hid (∀j c,(dimL (D i))[j]?=some c->V3.cell? ⟨b0,o0+i*14+j,none⟩=some c):=g0
   subst hA1 hA0
   have x0:=XV.cell 0 _ rfl
   have x1:=XV.cell 1 _ rfl
   cases hG:G i with
   | false =>
    rw [hG] at g1
    have DU3:DmUp V3 g n0 (i+1) (startD G D):=by
     obtain⟨cs,b,l,f⟩:=DU2
     refine⟨cs,b,l,fun v hv j u hj=>f v hv j u ?_⟩
     by_cases e:v=i
     ·subst e
      have:startD G D v=plE:=by unfold startD;rw [hG];rfl
      rw [this] at hj
      simp only [if_true]
      exact hj
     ·simp only [if_neg e];exact hj
    clear DU2 hG
    go_wp2_with fail
    go_roundg (n0-i-1)
    case measure=>omega
    case rel=>exact⟨i+1,by omega,by go_num,DU3,XV,HB⟩
   | true =>
    rw [hG] at g1
    obtain⟨cs,DB,Dl,Df⟩:=DU2
    replace Dl:Hid (cs.length=n0*14):=Dl
    have hG2:Hid (G i=true):=hG
    clear hG
    go_wp2_with (first
     | (refine wpList_loadBig (by rfl) _ 30 (by rfl) Try.underlying30 (dimL (D i)) (by kernel_rfl) (by rfl) (g0.out) (dim_valU (D i)) ?_)
     | (refine wpList_storeMid (off:=i*14) (by rfl) _ _ 30 (by rfl) DB (dimL (D i)) (by kernel_rfl) (by rw [Dl.out,dimL_len];omega) (by rfl) (by rfl) (by rfl) ?_;rintro V4 XR hs3 hB3 hk3))
    have DU3:DmUp V4 g n0 (i+1) (startD G D):=DmUp.set Dl.out Df hin XR (by unfold startD;rw [hG2.out];rfl) (fun v hv=>(if_neg (by omega)).symm) (Nat.le_succ i)
    go_roundg (n0-i-1)
    case measure=>omega
    case rel=>exact⟨i+1,by omega,by go_num,DU3,hk3 _ _ _ (by omega) XV,hB3 _ _ HB (by omega)⟩
end Go.Proofs.Ytbejmklkicoibaa
namespace Go.Proofs.Ytbejmklkicoibaa
theorem opH_get (x:Nd) (s:Nat->Bool):∀(j q:Nat),opH x s j q=true↔(s q=true\/∃i,i<j/\(x.at i).toNat=q)
 | 0,q=>by
  unfold opH
  constructor
  ·exact Or.inl
  ·rintro (h | ⟨i,hi, -⟩)
   ·exact h
   ·omega
 | j+1,q=>by
  have ih:=opH_get x s j q
  unfold opH setN
  by_cases c:q=(x.at j).toNat
  ·rw [if_pos c]
   exact⟨fun _=>Or.inr ⟨j,Nat.lt_succ_self j,c.symm⟩,fun _=>rfl⟩
  ·rw [if_neg c,ih]
   constructor
   ·rintro (h | ⟨i,hi,he⟩)
    ·exact Or.inl h
    ·exact Or.inr ⟨i,by omega,he⟩
   ·rintro (h | ⟨i,hi,he⟩)
    ·exact Or.inl h
    ·refine Or.inr ⟨i, ?_,he⟩
     rcases Nat.lt_or_ge i j with d | d
     ·exact d
     ·exact absurd (by rw [<-he,show i=j by omega]) c
theorem backH_mono (X:Nat->Nd) (n:Nat) (s:Nat->Bool) (d q:Nat) (h:backH X n s d q=true):backH X n s (d+1) q=true:=by
 rw [backH]
 split
 ·exact (opH_get _ _ _ _).2 (Or.inl h)
 ·exact h
theorem backH_stay {X:Nat->Nd} {n:Nat} (hx:∀i,i<n->∀j,j<(X i).ar->0<=(X i).at j/\(X i).at j<(i:Int)) (s:Nat->Bool) {d q:Nat} (hd:d<n) (hq:n-1-d<=q) (h:backH X n s (d+1) q=true):backH X n s d q=true:=by
 rw [backH] at h
 split at h
 ·rcases (opH_get _ _ _ _).1 h with h | ⟨i,hi,he⟩
  ·exact h
  ·have:=hx (n-1-d) (by omega) i hi
   omega
 ·exact h
theorem backH_closed {X:Nat->Nd} {n:Nat} (hx:∀i,i<n->∀j,j<(X i).ar->0<=(X i).at j/\(X i).at j<(i:Int)) (s:Nat->Bool):∀d,d<=n->∀q,n-d<=q->q<n->backH X n s d q=true->∀j,j<(X q).ar->backH X n s d ((X q).at j).toNat=true
 | 0,_,q,h1,h2,_,_,_=>by omega
 | d+1,hd,q,h1,h2,h,j,hj=>by
  by_cases c:q=n-1-d
  ·have h3:=backH_stay hx s (by omega) (by omega) h
   rw [backH,if_pos (by rw [<-c];exact h3)]
   refine (opH_get _ _ _ _).2 (Or.inr ⟨j, ?_, ?_⟩)
   ·rw [<-c];exact hj
   ·rw [<-c]
  ·have h3:=backH_stay hx s (by omega) (by omega) h
   exact backH_mono X n s d _ (backH_closed hx s d (by omega) q (by omega) h2 h3 j hj)
theorem needH_closed {X:Nat->Nd} {n:Nat} (hx:∀i,i<n->∀j,j<(X i).ar->0<=(X i).at j/\(X i).at j<(i:Int)) (Y:Nat->Int) (m:Nat):∀i,i<n->needH X n Y m i=true->∀j,j<(X i).ar->needH X n Y m ((X i).at j).toNat=true :=
 fun i hi h j hj=>backH_closed hx (outN Y m) n (Nat.le_refl n) i (by omega) hi h j hj
theorem evN_congr {X:Nat->Nd} {U U':Int->Nat->Rat} {S0:Nat->Int×Int} {q q':Nat->Nat->Rat} {x:Nd} {e:Nat} (hU:x.k=2->U x.v e=U' x.v e) (ka:1<=arG x.k->q x.a.toNat e=q' x.a.toNat e) (kb:2<=arG x.k->q x.b.toNat e=q' x.b.toNat e):evN X U S0 q x e=evN X U' S0 q' x e:=by
 unfold evN
 by_cases c1:x.k=1
 ·rw [if_pos c1,if_pos c1]
 rw [if_neg c1,if_neg c1]
 by_cases c2:x.k=2
 ·rw [if_pos c2,if_pos c2,hU c2]
 rw [if_neg c2,if_neg c2]
 by_cases c15:x.k=15
 ·rw [if_pos c15,if_pos c15]
 rw [if_neg c15,if_neg c15]
 by_cases c3:x.k=3\/x.k=4
 ·have ar:arG x.k=2:=by rcases c3 with c | c <;> rw [c] <;> rfl
  rw [if_pos c3,if_pos c3,ka (by omega),kb (by omega)]
 rw [if_neg c3,if_neg c3]
 by_cases c5:x.k=5
 ·have ar:arG x.k=2:=by rw [c5];rfl
  rw [if_pos c5,if_pos c5,ka (by omega),kb (by omega)]
 rw [if_neg c5,if_neg c5]
 by_cases c6:x.k=6
 ·have ar:arG x.k=2:=by rw [c6];rfl
  rw [if_pos c6,if_pos c6,ka (by omega),kb (by omega)]
 rw [if_neg c6,if_neg c6]
 by_cases c7:x.k=7
 ·have ar:arG x.k=1:=by rw [c7];rfl
  rw [if_pos c7,if_pos c7,ka (by omega)]
 rw [if_neg c7,if_neg c7]
 by_cases c8:x.k=8
 ·have ar:arG x.k=1:=by rw [c8];rfl
  rw [if_pos c8,if_pos c8,ka (by omega)]
 rw [if_neg c8,if_neg c8]
 by_cases c9:x.k=9
 ·have ar:arG x.k=1:=by rw [c9];rfl
  rw [if_pos c9,if_pos c9,ka (by omega)]
 rw [if_neg c9,if_neg c9]
theorem ruleF_two {X:Nat->Nd} {Q Q':Nat->Pro} {x:Nd} {m:Nat} {L L':List Pro} {S:Int->Nat->Rat}
  (ka:1<=arG x.k->POk m (Q x.a.toNat)/\POk m (Q' x.a.toNat)/\∀e,e<7->evP S (Q' x.a.toNat) e=evP S (Q x.a.toNat) e) (kb:2<=arG x.k->POk m (Q x.b.toNat)/\POk m (Q' x.b.toNat)/\∀e,e<7->evP S (Q' x.b.toNat) e=evP S (Q x.b.toNat) e)
  (h:ruleF X Q x=some L) (h':ruleF X Q' x=some L'):∀R2,R2∈L'->∃R,R∈L/\∀e,e<7->evP S R2 e=evP S R e:=by
 have none:∀R2,R2∈([]:List Pro)->∃R,R∈L/\∀e,e<7->evP S R2 e=evP S R e:=fun Y hY=>by cases hY
 unfold ruleF at h h'
 by_cases c3:x.k=3\/x.k=4
 ·rw [if_pos c3] at h h'
  have ar:arG x.k=2:=by rcases c3 with c | c <;> rw [c] <;> rfl
  cases hf:frB (X x.a.toNat) with
  | true=>rw [hf] at h';have e:=Option.some.inj h';subst e;exact none
  | false =>
   rw [hf] at h h'
   cases hg:frB (X x.b.toNat) with
   | true=>rw [hg] at h';have e:=Option.some.inj h';subst e;exact none
   | false =>
    rw [hg] at h h'
    simp only [Bool.false_eq_true,if_false] at h h'
    obtain⟨a1,a2,a3⟩:=ka (by omega)
    obtain⟨b1,b2,b3⟩:=kb (by omega)
    cases ht:timesP (Q x.a.toNat) (Q x.b.toNat) (-1,1) with
    | none=>rw [ht] at h;cases h
    | some Y =>
     cases ht':timesP (Q' x.a.toNat) (Q' x.b.toNat) (-1,1) with
     | none=>rw [ht'] at h';cases h'
     | some Y' =>
      rw [ht] at h
      rw [ht'] at h'
      have e:=Option.some.inj h
      have e':=Option.some.inj h'
      subst e e'
      intro R2 hR
      rw [List.mem_singleton.1 hR]
      refine⟨Y,List.mem_singleton.2 rfl,fun e he=>?_⟩
      rw [(timesP_some a1 b1 rok_mone ht).2 S e he,(timesP_some a2 b2 rok_mone ht').2 S e he,a3 e he,b3 e he]
 ·rw [if_neg c3] at h h'
  by_cases c:10<=x.k/\x.k<=14
  ·rw [if_pos c] at h h'
   have ar:arG x.k=1:=by rcases (show x.k=10\/x.k=11\/x.k=12\/x.k=13\/x.k=14 by omega) with h | h | h | h | h <;> rw [h] <;> rfl
   cases hf:frB (X x.a.toNat) with
   | true=>rw [hf] at h';have e:=Option.some.inj h';subst e;exact none
   | false =>
    rw [hf] at h h'
    have e:=Option.some.inj h
    have e':=Option.some.inj h'
    subst e e'
    intro R2 hR
    rw [List.mem_singleton.1 hR]
    exact⟨_,List.mem_singleton.2 rfl,(ka (by omega)).2.2⟩
  ·rw [if_neg c] at h'
   have e:=Option.some.inj h'
   subst e
   exact none
theorem state_two {X:Nat->Nd} {N G G':Nat->Bool} {D D':Nat->Nat->Int×Int} {S0:Nat->Int×Int} {n m:Nat} {S:Int->Nat->Rat} (hX:∀i,i<n->Dim64 (X i).E) (hF:∀i,i<n->N i=true->Fit (X i) i m) (hN:∀i,i<n->N i=true->∀j,j<(X i).ar->N ((X i).at j).toNat=true)
  (hS:Dim64 S0) (rS:drK S0 7=true) (hD:∀v,v<m->G v=true->Dim64 (D v)/\drK (D v) 7=true) (hD':∀v,v<m->G' v=true->Dim64 (D' v)/\drK (D' v) 7=true)
  (hU:∀v,v<m->∀e,e<7->(if G v then qP (D v e) else S v e)=(if G' v then qP (D' v e) else S v e)):∀i,i<=n->∀st st',stateF X N G D S0 i=some st->stateF X N G' D' S0 i=some st' ->
  (∀j,j<i->N j=true->POk m (st.1 j)/\FG G (st.1 j).2/\POk m (st'.1 j)/\FG G' (st'.1 j).2/\∀e,e<7->evP S (st'.1 j) e=evP S (st.1 j) e)/\(∀R,R∈st.2->POk m R/\FG G R.2)/\(∀R,R∈st'.2->POk m R/\FG G' R.2/\∃R0,R0∈st.2/\∀e,e<7->evP S R e=evP S R0 e)/\st.2.length<=i/\st'.2.length<=i
 | 0,_,st,st',h,h'=>by
  have e:=Option.some.inj h
  have e':=Option.some.inj h'
  subst e e'
  exact⟨fun j hj=>by omega,fun R hR=>(by cases hR),fun R hR=>(by cases hR),Nat.le_refl 0,Nat.le_refl 0⟩
 | i+1,hi,st,st',h,h'=>by
  rw [stateF] at h h'
  cases hs:stateF X N G D S0 i with
  | none=>rw [hs] at h;cases h
  | some s =>
   cases hs':stateF X N G' D' S0 i with
   | none=>rw [hs'] at h';cases h'
   | some s' =>
    rw [hs] at h
    rw [hs'] at h'
    simp only [Option.bind_some] at h h'
    obtain⟨p1,p2,p3,p4,p5⟩:=state_two hX hF hN hS rS hD hD' hU i (by omega) s s' hs hs'
    cases hNi:N i with
    | false =>
     rw [hNi] at h h'
     simp only [Bool.false_eq_true,if_false] at h h'
     have e:=Option.some.inj h
     have e':=Option.some.inj h'
     subst e e'
     refine⟨fun j hj hj2=>p1 j ?_ hj2,p2,p3,by omega,by omega⟩
     rcases Nat.lt_or_ge j i with c | c
     ·exact c
     ·rw [show j=i by omega,hNi] at hj2;cases hj2
    | true =>
     rw [hNi] at h h'
     simp only [if_true] at h h'
     have fit:=hF i (by omega) hNi
     have op:∀j,j<(X i).ar->((X i).at j).toNat<i/\N ((X i).at j).toNat=true:=fun j hj=>⟨by have:=fit.o j hj;omega,hN i (by omega) hNi j hj⟩
     have pa:1<=arG (X i).k->(X i).a.toNat<i/\N (X i).a.toNat=true:=fun h=>by have:=op 0 h;unfold Nd.at at this;rwa [if_pos rfl] at this
     have pb:2<=arG (X i).k->(X i).b.toNat<i/\N (X i).b.toNat=true:=fun h=>by have:=op 1 h;unfold Nd.at at this;rwa [if_neg (by decide)] at this
     cases hd:dimF X G D S0 s.1 (X i) with
     | none=>rw [hd] at h;cases h
     | some Z =>
      cases hd':dimF X G' D' S0 s'.1 (X i) with
      | none=>rw [hd'] at h';cases h'
      | some Z' =>
       rw [hd] at h
       rw [hd'] at h'
       simp only [Option.bind_some] at h h'
       obtain⟨z1,z2⟩:=dimF_some fit (hX i (by omega)) hS rS hD (fun j hj=>(p1 _ (op j hj).1 (op j hj).2).1) hd
       obtain⟨y1,y2⟩:=dimF_some fit (hX i (by omega)) hS rS hD' (fun j hj=>(p1 _ (op j hj).1 (op j hj).2).2.2.1) hd'
       have zg:=dimF_fg (fun h=>(p1 _ (pa h).1 (pa h).2).2.1) (fun h=>(p1 _ (pb h).1 (pb h).2).2.1) hd
       have yg:=dimF_fg (fun h=>(p1 _ (pa h).1 (pa h).2).2.2.2.1) (fun h=>(p1 _ (pb h).1 (pb h).2).2.2.2.1) hd'
       have zy:∀e,e<7->evP S Z' e=evP S Z e:=fun e he=>by
        rw [z2 S e he,y2 S e he]
        refine evN_congr (fun hk=>?_) (fun h=>(p1 _ (pa h).1 (pa h).2).2.2.2.2 e he) (fun h=>(p1 _ (pb h).1 (pb h).2).2.2.2.2 e he)
        obtain⟨v1,v2⟩:=(fit.var hk).1
        have u:=hU (X i).v.toNat (by omega) e he
        have ev:(((X i).v.toNat:Nat):Int)=(X i).v:=by omega
        rw [ev] at u
        exact u.symm
       have all:∀j,j<i+1->N j=true->POk m ((fun j=>if j=i then Z else s.1 j) j)/\FG G ((fun j=>if j=i then Z else s.1 j) j).2/\POk m ((fun j=>if j=i then Z' else s'.1 j) j)/\FG G' ((fun j=>if j=i then Z' else s'.1 j) j).2/\∀e,e<7->evP S ((fun j=>if j=i then Z' else s'.1 j) j) e=evP S ((fun j=>if j=i then Z else s.1 j) j) e:=fun j hj hj2=>by
        by_cases c:j=i
        ·simp only [if_pos c];exact⟨z1,zg,y1,yg,zy⟩
        ·simp only [if_neg c];exact p1 j (by omega) hj2
       cases hr:ruleF X (fun j=>if j=i then Z else s.1 j) (X i) with
       | none=>rw [hr] at h;cases h
       | some L =>
        cases hr':ruleF X (fun j=>if j=i then Z' else s'.1 j) (X i) with
        | none=>rw [hr'] at h';cases h'
        | some L' =>
         rw [hr] at h
         rw [hr'] at h'
         have e:=Option.some.inj h
         have e':=Option.some.inj h'
         subst e e'
         have ra:=fun h=>all _ (Nat.lt_succ_of_lt (pa h).1) (pa h).2
         have rb:=fun h=>all _ (Nat.lt_succ_of_lt (pb h).1) (pb h).2
         have ro:=fun j hj=>all _ (Nat.lt_succ_of_lt (op j hj).1) (op j hj).2
         obtain⟨l1,l2⟩:=ruleF_some (fun j hj=>(ro j hj).1) hr
         obtain⟨k1,k2⟩:=ruleF_some (fun j hj=>(ro j hj).2.2.1) hr'
         have lg:=ruleF_fg (fun h=>(ra h).2.1) (fun h=>(rb h).2.1) hr
         have kg:=ruleF_fg (fun h=>(ra h).2.2.2.1) (fun h=>(rb h).2.2.2.1) hr'
         have two:=ruleF_two (S:=S) (fun h=>⟨(ra h).1,(ra h).2.2.1,(ra h).2.2.2.2⟩) (fun h=>⟨(rb h).1,(rb h).2.2.1,(rb h).2.2.2.2⟩) hr hr'
         refine⟨all,fun R hR=>?_,fun R hR=>?_,by rw [List.length_append];omega,by rw [List.length_append];omega⟩
         ·rcases List.mem_append.1 hR with c | c
          ·exact p2 R c
          ·exact⟨l1 R c,lg R c⟩
         ·rcases List.mem_append.1 hR with c | c
          ·obtain⟨q1,q2,R0,q3,q4⟩:=p3 R c
           exact⟨q1,q2,R0,List.mem_append_left _ q3,q4⟩
          ·obtain⟨R0,q3,q4⟩:=two R c
           exact⟨k1 R c,kg R c,R0,List.mem_append_right _ q3,q4⟩
def workR (X:Nat->Nd) (N G:Nat->Bool) (D:Nat->Nat->Int×Int) (S0:Nat->Int×Int) (n:Nat):Except Int (Nat->Nat->Int×Int):=match stateF X N G D S0 n with
 | none=>.error 3
 | some st=>allFrom [] st.2 (startD G D)
end Go.Proofs.Ytbejmklkicoibaa
