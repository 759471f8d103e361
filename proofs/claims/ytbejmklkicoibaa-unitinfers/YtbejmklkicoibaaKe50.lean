/- orreryref14's Finder.solve. -/
import Derived.Test.YtbejmklkicoibaaSh
import Derived.Test.YtbejmklkicoibaaKe49
import Derived.Test.YtbejmklkicoibaaKe31
import Derived.Test.YtbejmklkicoibaaKe25
import Derived.Test.YtbejmklkicoibaaKe11
namespace Go.Proofs.Ytbejmklkicoibaa
open Go.ChangeShapes Go.WideShapes Go.ChangeAt Go.RowKit
theorem own_offT {B sz n:Nat} {T T':TypeId} {w W:World} {v:Value} {xs:List Value} (h:w.ownsRow B T sz v n xs) {g:Nat} {cs:List Value} (hg:BlkAt w g T' cs) (hT:T'≠T) (k:∀k Tk ck,g≠k->BlkAt w k Tk ck->BlkAt W k Tk ck):W.ownsRow B T sz v n xs:=by
 refine⟨h.1, ?_⟩
 rcases h.2 with hn | ⟨b,cap,cur,hv,hb2,hg2,rest⟩
 ·exact .inl hn
 ·refine .inr ⟨b,cap,cur,hv,hb2, ?_,rest⟩
  have ne:g≠b:=hg.apart (show BlkAt w b T cur.toList by show w.heap[b]?=_;rw [hg2]) hT
  have:=k b T cur.toList ne (by show w.heap[b]?=_;rw [hg2])
  simpa [BlkAt] using this
theorem KSt.off {B m:Nat} {G:Nat->Bool} {v4 v5:Value} {KV:List FV} {K:List (Int×Pro)} {w W:World} (h:KSt B m G v4 v5 KV K w) {g:Nat} {cs:List Value} (hg:BlkAt w g 58 cs) (ha:ApartF v4 g) (k:∀k Tk ck,g≠k->BlkAt w k Tk ck->BlkAt W k Tk ck):KSt B m G v4 v5 KV K W :=
 ⟨h.f.off2 ha k,own_offT h.n hg (by decide) k,h.e,fun x hx=>by
  obtain⟨A,C,e,r⟩:=h.o x hx
  exact⟨A,C,e,r.other hg (by decide) k⟩,h.k⟩
theorem DgAt.congr {w:World} {g n:Nat} {D E:Nat->Nat->Int×Int} (h:DgAt w g n D) (e:∀v,v<n->D v=E v):DgAt w g n E:=by
 obtain⟨cs,b,l,f⟩:=h
 exact⟨cs,b,l,fun v hv=>by rw [<-e v hv];exact f v hv⟩
theorem DgAt.cells {w:World} {g n:Nat} {D:Nat->Nat->Int×Int} (h:DgAt w g n D) {v:Nat} (hv:v<n):∀j c,(dimL (D v))[j]?=some c->w.cell? ⟨g,v*14+j,none⟩=some c:=fun j c hj=>by
 obtain⟨cs,b, -,f⟩:=h
 exact b.cell _ _ (f v hv j c hj)
theorem DgAt.lt {w:World} {g n:Nat} {D:Nat->Nat->Int×Int} (h:DgAt w g n D):g<w.heap.size:=by
 obtain⟨cs,b, -⟩:=h
 exact b.lt
theorem DgAt.far {w W:World} {g n:Nat} {D:Nat->Nat->Int×Int} (h:DgAt w g n D) {d:Nat} (hd:d≠g) (k:∀k Tk ck,d≠k->BlkAt w k Tk ck->BlkAt W k Tk ck):DgAt W g n D:=by
 obtain⟨cs,b,l,f⟩:=h
 exact⟨cs,k _ _ _ hd b,l,f⟩
def finS (E:Nat->Int×Int):Option (Nat->Int×Int):=if tmF plE E (-1) 1 7=0 then some (tmD plE E (-1) 1 7) else none
theorem own_all {B sz n:Nat} {T:TypeId} {w W:World} {v:Value} {xs:List Value} (h:w.ownsRow B T sz v n xs) (k:∀b cs,BlkAt w b T cs->BlkAt W b T cs):W.ownsRow B T sz v n xs:=by
 refine⟨h.1, ?_⟩
 rcases h.2 with hn | ⟨b,cap,cur,hv,hb2,hg2,rest⟩
 ·exact .inl hn
 ·refine .inr ⟨b,cap,cur,hv,hb2, ?_,rest⟩
  have:=k b cur.toList (by show w.heap[b]?=_;rw [hg2])
  simpa [BlkAt] using this
set_option maxRecDepth 8000 in
theorem wpList_pushNk {B:Nat} {w0 wr:World} {ops:Array Oper} {rest:List Oper} {o:Oper} {a:Act} {Q:Exit->Act->World->Prop} (hgd:o.guard=none) (s x:Operand)
  (ho:o.op=.call { callee:=.builtin .append,args:=#[s,x],argTypes:=#[23,23] }) (v:Value) (zs:List Int) (z:Int) (hs:a.eval s=v) (hx:a.eval x=.slice (some ⟨wr.heap.size,0,none⟩) 1 1)
  (hown:OwnN B wr v zs) (hl:zs.length<=2000000) (hB:B<=wr.heap.size) (hbel:Below B w0 wr)
  (h:∀v' w',OwnN B w' v' (zs++[z])->Below B w0 w'->(∀b T cs,T≠3->BlkAt wr b T cs->BlkAt w' b T cs)->wpList Try.prog ops Q rest (a.put o.dst v') w'):wpList Try.prog ops Q (o :: rest) a (wr.alloc (.cells #[.int .i64 z] 3)):=by
 obtain⟨i0,hi,hz0,hz1,hz2⟩:=info_parts Try.infoInt
 have hal:Below wr.heap.size wr (wr.alloc (.cells #[.int .i64 z] 3)):=(Below.refl _ _).alloc (Nat.le_refl _) _
 have hown':(wr.alloc (.cells #[.int .i64 z] 3)).ownsRow B 3 1 v zs.length (zs.map fun z=>Value.int .i64 z):=own_keep hown hal
 refine wpList_append_own _ hgd s x 23 ho B 3 i0 (.int .i64 0) 1 8 Try.underlying23 hi hz0 hz1 hz2 rfl (by decide) v zs.length _ hs hown' ⟨wr.heap.size,0,none⟩ 1 1 [.int .i64 z] hx rfl ?_ ?_ (by unfold maxLen;omega) (by omega) (by simp;omega) ?_
 ·intro j u hj
  match j,hj with
  | 0,hj=>simp at hj;subst hj;simp [Addr.add]
 ·intro u hu
  simp at hu
  rw [hu]
  rfl
 ·intro v' w' h1 h2 _
  have lt:∀k,v.ownBlock=some k->B<=k:=fun k hk=>(World.ownsRow.lt hown k hk).1
  have sz:=h2.size
  simp only [World.size_alloc] at sz
  refine h v' w' ?_ ((hbel.alloc hB _).grown h2 (by simp;omega) lt) (fun b T cs hT hb=>?_)
  ·unfold OwnN
   rw [List.length_append,List.map_append]
   exact h1
  ·have hb':=hb.keeps hal
   refine (h2.block b hb'.lt (fun e2=>?_)).trans hb'
   rcases hown'.2 with ⟨hv, -⟩ | ⟨b2,cap,cur,hv, -,hg2, -⟩
   ·rw [hv] at e2;cases e2
   ·rw [hv] at e2
    have e3:b2=b:=by injection e2 with e2;exact e2.symm
    subst e3
    have q:some (Obj.cells cs.toArray T (0,0))=some (Obj.cells cur 3 (0,0)):=hb'.symm.trans hg2
    injection q with q
    injection q with _ q2 _
    exact hT q2
theorem divO_some {p:Int×Int} (hp:ROk p) (h0:p.1≠0):∃m,divO (1,1) p=some m/\divV11 1 1 p.1 p.2=(m.1,m.2,0):=by
 rcases divO_cases (a:=(1,1)) rok_1 hp h0 with ⟨m,h1,h2⟩ | ⟨-,h2⟩
 ·exact⟨m,h1,h2⟩
 ·exfalso
  have hr:=hp.1
  simp only [rightR,Bool.and_eq_true,decide_eq_true_eq] at hr
  obtain⟨⟨c1,c2⟩,d1,d2⟩:=hp.2
  have e:divV11 1 1 p.1 p.2=ofV (!(decide ((1:Int)<0)==decide (p.1<0))) (p.2.natAbs*1) (p.1.natAbs*1):=by
   unfold divV11
   rw [show rightR 1 1=true from rok_1.1,hp.1,Bool.and_self,if_pos rfl,if_neg h0]
   congr 1
   ·rw [show (1:Int).natAbs=1 from rfl,Nat.one_mul,Nat.mul_one]
   ·rw [show (1:Int).natAbs=1 from rfl,Nat.one_mul,Nat.mul_one]
  rw [show (divV11 ((1,1):Int×Int).1 ((1,1):Int×Int).2 p.1 p.2)=divV11 1 1 p.1 p.2 from rfl,e,ofV_low (by omega) (by omega) (by rw [Nat.gcd_comm];exact hr.2.2),if_pos ⟨by omega,by omega⟩] at h2
  cases h2
set_option maxRecDepth 4000 in
set_option maxHeartbeats 16000000 in
theorem fsolve_w {G:Nat->Bool} {D:Nat->Nat->Int×Int} (w0:World) (fb:Nat) (AN:Option Addr) (n CN:Nat) (A0:Option Addr) (m C0:Nat) (A1:Option Addr) (C1:Nat) (A2:Option Addr) (C2:Nat) (S:Nat->Int×Int) (g:Nat) (KN:Nat->Prop) (Q:Nat->Pro) (vr:Value) (L:List FV) (w:World) (hm:m<=500) (T:FSt w0 fb AN n CN A0 m C0 A1 C1 A2 C2 S g KN Q vr L w) (hL:L.length<=4000)
  (hP:∀x,x∈L->POk (m:Int) x.1/\FG G x.1.2) (hD:∀v,v<m->G v=true->Dim64 (D v)/\drK (D v) 7=true) (VD:Dms w A0 m D) (VG:Bls w A1 m G) :
  Calls Try.prog 26 #[.pointer (some ⟨fb,0,none⟩)] w fun r w'=>SlAns r w' m (allFrom [] (L.map (·.1)) (startD G D))/\Below w.heap.size w w':=by
 obtain⟨R,hR⟩:∃R,Hid (allFrom [] (L.map (·.1)) (startD G D)=R):=⟨_,rfl⟩
 rw [hR.out]
 have T0:=T
 obtain⟨Ar,Cr,er,hCr,VR⟩:=T.ow.form
 subst er
 have hfl:=T.fd.lt
 go_enter Try.func26,Try.ntmps26
 go_upto_region 3 with fail
 have hb0:Below w.heap.size w ((w.alloc (.cells #[] 58)).alloc (.cells #[] 3)):=Below.alloc (Below.alloc (Below.refl _ _) (Nat.le_refl _) _) (by rw [World.size_alloc];omega) _
 have k0:BlkAt ((w.alloc (.cells #[] 58)).alloc (.cells #[] 3)) w.heap.size 58 []:=(blk_new w 58 []).keeps (Below.alloc (Below.refl _ _) (Nat.le_refl _) _)
 have k1:BlkAt ((w.alloc (.cells #[] 58)).alloc (.cells #[] 3)) (w.heap.size+1) 3 []:=by
  have q:=blk_new (w.alloc (.cells #[] 58)) 3 []
  rwa [World.size_alloc] at q
 have KS:KSt w.heap.size m G (.slice (some ⟨w.heap.size,0,none⟩) 0 0) (.slice (some ⟨w.heap.size+1,0,none⟩) 0 0) [] [] ((w.alloc (.cells #[] 58)).alloc (.cells #[] 3)):=⟨own_none k0 (Nat.le_refl _),own_none k1 (Nat.le_succ _),rfl,fun x hx=>(by cases hx),fun x hx=>(by cases hx)⟩
 have c5:=(T.keep hb0).fd.cell 19 _ rfl
 clear k0 k1
 generalize ((w.alloc (.cells #[] 58)).alloc (.cells #[] 3))=V1 at *
 go_wp2_with fail
 go_loopg [4,5,37] L.length (fun M s4 s5 s37 wx=>∃(i:Nat) (KV:List FV) (K:List (Int×Pro)),i+M=L.length/\s37=.int .i64 (i:Int)/\KSt w.heap.size m G s4 s5 KV K wx/\K.length<=i/\K.Pairwise (fun a b=>coF a.1 b.2.2=(0,1))/\Below w.heap.size w wx/\Hid (allFrom K ((L.drop i).map (·.1)) (startD G D)=R))
 case atStart=>exact⟨0,[],[],by omega,rfl,KS,Nat.le_refl _,List.Pairwise.nil,hb0,hR⟩
 case round =>
  clear KS hb0 hR c5
  obtain⟨i,KV,K,hi,rfl,KS,hKl,hKp,HB,hall⟩:=hrel
  by_cases ci:i=L.length
  ·have hF:Hid (orOver (backF K.reverse (startD G D))=R):=by
    have q:=hall.out
    rw [ci,List.drop_length] at q
    exact q
   obtain⟨A4,C4,e4, -,VK⟩:=KS.f.form
   obtain⟨A5,C5,e5,VO⟩:=own_insK KS.n
   subst e4 e5
   rw [List.length_map] at VO
   rw [show (K.map (·.1)).length=K.length by rw [List.length_map]]
   have hKV:Hid (KV.length=K.length):=KS.len
   have hK5:K.length<=4000:=by omega
   have FO:=KS.o
   have FE:Hid (KV.map (·.1)=K.map (·.2)):=KS.e
   have FK:Hid (∀x,x∈K->KOk (m:Int) G x):=KS.k
   have T1:=T0.keep HB
   have VD1:=VD.keep HB
   have VG1:=VG.keep HB
   have hsD:Hid (∀v:Nat,v<m->Dim64 (startD G D v)/\drK (startD G D v) 7=true):=fun v hv=>by
    unfold startD
    cases hG:G v with
    | true=>rw [if_pos rfl];exact hD v hv hG
    | false=>rw [if_neg (by simp)];exact plE_ok
   have cp:∀W,Calls Try.prog 43 #[] W fun r w'=>r=.returned (.agg #[.int .i64 (plE 0).1,.int .i64 (plE 0).2,.int .i64 (plE 1).1,.int .i64 (plE 1).2,.int .i64 (plE 2).1,.int .i64 (plE 2).2,.int .i64 (plE 3).1,.int .i64 (plE 3).2,.int .i64 (plE 4).1,.int .i64 (plE 4).2,.int .i64 (plE 5).1,.int .i64 (plE 5).2,.int .i64 (plE 6).1,.int .i64 (plE 6).2])/\Below W.heap.size W w':=fun W=>dplain_w W
   have cw:=fun W=>dwhole_w (-1) W
   clear KS hall hKp hKl VD VG hD hP
   subst ci
   obtain⟨W0,rfl⟩:∃W0,W0=wr:=⟨_,rfl⟩
   go_upto_region 33 with fail
   have hb0:Below W0.heap.size W0 (W0.alloc (.cells #[] 30)):=Below.alloc (Below.refl _ _) (Nat.le_refl _) _
   have I0:OwnDg W0.heap.size (W0.alloc (.cells #[] 30)) (.slice (some ⟨W0.heap.size,0,none⟩) 0 0) []:=own_none (blk_new W0 30 []) (Nat.le_refl _)
   have c1:=(T1.keep hb0).fd.cell 1 _ rfl
   generalize (W0.alloc (.cells #[] 30))=V1 at *
   go_wp2_with fail
   go_loopg [19,138] m (fun M s19 s138 wx=>∃j:Nat,j+M=m/\s138=.int .i64 (j:Int)/\OwnDg W0.heap.size wx s19 ((List.range j).map (startD G D))/\Below W0.heap.size W0 wx)
   case atStart=>exact⟨0,by omega,rfl,I0,hb0⟩
   case round =>
    clear I0 hb0 c1
    obtain⟨j,hj,rfl,I,HB2⟩:=hrel
    obtain⟨A9,C9,e9, -,hA9⟩:=I.form
    have el:((List.range j).map (startD G D)).length=j:=by rw [List.length_map,List.length_range]
    rw [el] at e9 hA9
    subst e9
    by_cases cj:j=m
    ·obtain rfl:m=j:=cj.symm
     obtain⟨g9,hg9⟩:∃g9,0<m->A9=some ⟨g9,0,none⟩/\W0.heap.size<=g9/\DgAt wr g9 m (startD G D):=by
      by_cases h0:0<m
      ·obtain⟨b,q1,q2,q3⟩:=hA9 h0
       exact⟨b,fun _=>⟨q1,q2,q3.congr fun v hv=>by rw [List.getD_eq_getElem?_getD,List.getElem?_map,List.getElem?_range hv];rfl⟩⟩
      ·exact⟨0,fun h=>absurd h h0⟩
     obtain⟨Rb,hRb⟩:∃Rb,Hid (backF K.reverse (startD G D)=Rb):=⟨_,rfl⟩
     have hR2:Hid (R=orOver Rb):=by show _=_;rw [<-hF.out,hRb.out]
     have hA9':0<m->A9=some ⟨g9,0,none⟩/\W0.heap.size<=g9:=fun h=>⟨(hg9 h).1,(hg9 h).2.1⟩
     have DA:0<m->DgAt wr g9 m (startD G D):=fun h=>(hg9 h).2.2
     obtain⟨q,hq⟩:∃q,Hid (q=KV.length):=⟨_,rfl⟩
     rw [<-hq.out]
     have hqK:Hid (q=K.length):=hq.out.trans hKV.out
     have hq5:q<=4000:=by have:=hqK.out;omega
     rw [<-hqK.out]
     rw [<-hqK.out] at VO
     clear hA9 hg9 I el hF hKV hj
     go_wp2_with fail
     go_loopg [22] q (fun M s22 wx=>∃(d:Nat) (z:Int) (Dc:Nat->Nat->Int×Int),d+M=q/\z=(q:Int)-1-(d:Int)/\s22=.int .i64 z/\Hid (backF (K.reverse.drop d) Dc=Rb)/\Hid (∀v:Nat,v<m->Dim64 (Dc v)/\drK (Dc v) 7=true)/\(0<m->DgAt wx g9 m Dc)/\Below W0.heap.size W0 wx)
     case atStart=>exact⟨0,(q:Int)-1,startD G D,by omega,by omega,by first | rfl | go_num,by rw [List.drop_zero];exact hRb,hsD,DA,HB2⟩
     case round =>
      clear HB2 DA hsD hRb
      obtain⟨d,z,Dc,hd,hz,rfl,hF,hDc,DA,HB2⟩:=hrel
      by_cases cd:d=q
      ·have hz0:¬(0:Int)<=z:=by omega
       have e1:Hid (R=.ok Dc):=by
        have q1:=hF.out
        rw [List.drop_of_length_le (by rw [List.length_reverse];have:=hqK.out;omega)] at q1
        have q2:=hR2.out
        rw [<-q1] at q2
        exact q2
       have DM:Dms wr A9 m Dc:=by
        by_cases h0:0<m
        ·rw [(hA9' h0).1]
         exact (DA h0).dms
        ·exact fun v hv=>absurd hv (by omega)
       clear hF hR2
       go_wp2_with fail
       have e2:=e1.out
       subst e2
       exact bodyPost_ret (v:=.tuple #[.slice A9 m C9,.int .i64 0]) (by simp [results,Try.results26,go_sem, *]) rfl ⟨⟨A9,C9,rfl,DM⟩,later HB HB2⟩
      ·obtain⟨t,rfl⟩:∃t:Nat,z=(t:Int):=⟨z.toNat,by omega⟩
       have hz0:(0:Int)<=(t:Int):=by omega
       have htq:t<q:=by omega
       have htq2:(t:Int)<(q:Int):=by omega
       have htK:t<K.length:=by have:=hqK.out;omega
       obtain⟨y,hy⟩:∃y,KV[t]?=some y:=⟨KV[t]'(by have:=hq.out;omega),List.getElem?_eq_getElem _⟩
       obtain⟨kk,hkk⟩:∃kk,K[t]?=some kk:=⟨K[t],List.getElem?_eq_getElem htK⟩
       have eyk:y.1=kk.2:=by
        have q:=congrArg (fun l=>l[t]?) FE.out
        simp only [List.getElem?_map,hy,hkk,Option.map_some] at q
        injection q
       have hdr:K.reverse.drop d=kk :: K.reverse.drop (d+1):=by
        have hdl:d<K.reverse.length:=by rw [List.length_reverse];have:=hqK.out;omega
        rw [List.drop_eq_getElem_cons hdl]
        congr 1
        have e1:K.reverse[d]?=some kk:=by
         rw [List.getElem?_reverse (by have:=hqK.out;omega),show K.length-1-d=t by have:=hqK.out;omega,hkk]
        rw [List.getElem?_eq_getElem hdl] at e1
        exact Option.some.inj e1
       have KO:=FK.out kk (List.mem_of_getElem? hkk)
       obtain⟨b4,hA4,hb4,yc⟩:=(VK.keep HB2) t y hy
       obtain⟨Ay,Cy,ey,ry⟩:=(FO.keep HB2) y (List.mem_of_getElem? hy)
       rw [ey,eyk] at yc
       rw [eyk] at ry
       obtain⟨b5,o5,hA5,hb5,oc⟩:=VO t (by omega)
       obtain⟨u,hu⟩:∃u:Nat,kk.1=(u:Int):=⟨kk.1.toNat,by have:=KO.l;omega⟩
       have hum:u<m:=by have:=KO.h;omega
       have hm0:0<m:=by omega
       dsimp only at oc
       rw [show (K.map (·.1)).getD t 0=(u:Int) by rw [List.getD_eq_getElem?_getD,List.getElem?_map,hkk];exact hu] at oc
       obtain⟨hA,hgl⟩:=hA9' hm0
       replace DA:=DA hm0
       subst hA4 hA5 hA
       have oc0:∀W,Below W0.heap.size W0 W->W.cell? ⟨b5,o5+t,none⟩=some (.int .i64 (u:Int)):=fun W h=>keepsC h oc hb5
       have HKO:Hid (KOk (m:Int) G kk):=KO
       have hF2:Hid (((denS Dc (u:Int) (fun v=>coF (v:Int) kk.2.2) 0 m kk.2.1).bind finS).bind (fun E=>backF (K.reverse.drop (d+1)) (fun v=>if v=u then E else Dc v))=Rb):=by
        have q1:=hF.out
        rw [hdr,backF,hu,Int.toNat_natCast] at q1
        rw [<-q1,den_is Dc (u:Int) (fun v=>coF (v:Int) kk.2.2) m 0 kk.2.2 kk.2.1 (by rw [Nat.zero_add];exact KO.p.s) KO.p.f (fun f hf=>(KO.g f hf).2) (fun v _ _=>rfl),toldF,hu]
        rfl
       have HZ:Hid ((t:Int)=(q:Int)-1-(d:Int)):=hz
       have hEc:Hid (Dim64 kk.2.1/\drK kk.2.1 7=true):=⟨KO.p.d,KO.p.r⟩
       have hrk:Hid (∀v:Nat,ROk (coF (v:Int) kk.2.2)):=fun v=>coF_ok KO.p.f
       replace yc:Hid (∀q v,(fmL (.slice Ay m Cy) kk.2.1)[q]?=some v->wr.cell? ⟨b4,t*15+q,none⟩=some v):=yc
       have yd:Hid (∀q v,(dimL kk.2.1)[q]?=some v->wr.cell? ⟨b4,t*15+1+q,none⟩=some v):=fun q v hq=>by rw [Nat.add_assoc];exact yc.out (1+q) v (fmL_dim q v hq)
       have y0:wr.cell? ⟨b4,t*15,none⟩=some (.slice Ay m Cy):=yc.out 0 _ rfl
       have hb4r:b4<wr.heap.size:=hb4
       clear hF hdr KO eyk ey hy hu hz cd oc yc
       go_upto_region 44 with (first
        | (refine wpList_loadBig (by rfl) _ 30 (by rfl) Try.underlying30 (dimL kk.2.1) (by kernel_rfl) (by rfl) (yd.out) (dim_valU kk.2.1) ?_)
        | (refine wpList_storeBig (by rfl) _ _ 30 (by rfl) (blk_new _ _ _) (dimL kk.2.1) (by kernel_rfl) (by rfl) (by rfl) (by rfl) (by rfl) ?_;rintro V2 XR hs2 hB2 hk2))
       have grw:Below wr.heap.size wr V2:=hB2 _ _ (Below.alloc (Below.refl _ _) (Nat.le_refl _) _) (Nat.le_refl _)
       have XD:=XR
       obtain⟨db,hdb⟩:∃db,db=wr.heap.size:=⟨_,rfl⟩
       have hgd:g9<db:=by rw [hdb];exact DA.lt
       have hdl:W0.heap.size<=db:=by omega
       rw [<-hdb] at XD ⊢
       replace DA:=DA.keep grw
       replace ry:=ry.keep grw
       replace HB2:=later HB2 grw
       replace y0:=keepsC grw y0 hb4r
       clear hB2 hk2 hs2 grw XR yd hdb hb4r
       obtain⟨W1,hW1⟩:∃W1,W1=V2:=⟨_,rfl⟩
       go_wp2_with fail
       clear y0
       go_loopg [175] m (fun M s175 wx=>∃(v:Nat) (E:Nat->Int×Int),v+M=m/\s175=.int .i64 (v:Int)/\BlkAt wx db 30 (dimL E)/\RtAt wx Ay m (fun v=>coF (v:Int) kk.2.2)/\DgAt wx g9 m Dc/\Below W0.heap.size W0 wx/\Hid (Dim64 E/\drK E 7=true)/\Hid (((denS Dc (u:Int) (fun v=>coF (v:Int) kk.2.2) v (m-v) E).bind finS).bind (fun E=>backF (K.reverse.drop (d+1)) (fun v=>if v=u then E else Dc v))=Rb))
       case atStart=>exact⟨0,kk.2.1,by omega,rfl,XD,ry,DA,HB2,hEc,hF2⟩
       case round =>
        clear XD ry DA HB2 hEc hF2 W1 hW1
        obtain⟨v,E,hv,rfl,XD,ry,DA,HB2,hE,hF⟩:=hrel
        have o0:=oc0 _ HB2
        by_cases cv:v=m
        ·obtain rfl:m=v:=cv.symm
         have hF2:Hid ((finS E).bind (fun E=>backF (K.reverse.drop (d+1)) (fun v=>if v=u then E else Dc v))=Rb):=by
          have q:=hF.out
          rw [Nat.sub_self] at q
          exact q
         obtain⟨tt,htt⟩:∃tt,Hid (tmF plE E (-1) 1 7=tt):=⟨_,rfl⟩
         obtain⟨E2,hE2⟩:∃E2,Hid (jD plE E (-1,1)=E2):=⟨_,rfl⟩
         have ct:∀W,Calls Try.prog 48 #[.agg #[.int .i64 (plE 0).1,.int .i64 (plE 0).2,.int .i64 (plE 1).1,.int .i64 (plE 1).2,.int .i64 (plE 2).1,.int .i64 (plE 2).2,.int .i64 (plE 3).1,.int .i64 (plE 3).2,.int .i64 (plE 4).1,.int .i64 (plE 4).2,.int .i64 (plE 5).1,.int .i64 (plE 5).2,.int .i64 (plE 6).1,.int .i64 (plE 6).2],.agg #[.int .i64 (E 0).1,.int .i64 (E 0).2,.int .i64 (E 1).1,.int .i64 (E 1).2,.int .i64 (E 2).1,.int .i64 (E 2).2,.int .i64 (E 3).1,.int .i64 (E 3).2,.int .i64 (E 4).1,.int .i64 (E 4).2,.int .i64 (E 5).1,.int .i64 (E 5).2,.int .i64 (E 6).1,.int .i64 (E 6).2],.agg #[.int .i64 (-1),.int .i64 1]] W fun r w'=>r=.returned (.tuple #[.agg #[.int .i64 (E2 0).1,.int .i64 (E2 0).2,.int .i64 (E2 1).1,.int .i64 (E2 1).2,.int .i64 (E2 2).1,.int .i64 (E2 2).2,.int .i64 (E2 3).1,.int .i64 (E2 3).2,.int .i64 (E2 4).1,.int .i64 (E2 4).2,.int .i64 (E2 5).1,.int .i64 (E2 5).2,.int .i64 (E2 6).1,.int .i64 (E2 6).2],.int .i64 tt])/\Below W.heap.size W w':=fun W=>by
          have q:=dTimes_w plE E ((-1,1):Int×Int).1 ((-1,1):Int×Int).2 plE_ok.1 hE.out.1 rok_mone.2 W
          rw [tmV_jD (p:=(-1,1)) plE_ok.2 hE.out.2 rok_mone.1] at q
          rw [<-htt.out,<-hE2.out]
          exact q
         have HT:(fun W=>BlkAt W db 30 (dimL E)/\DgAt W g9 m Dc/\Below W0.heap.size W0 W) wr:=⟨XD,DA,HB2⟩
         clear XD DA HB2 ry hF o0
         go_upto_region 53 with fail
         generalize wr=V2 at *
         go_cut [28,29] from 205 to 211 (fun s28 s29 wx=>∃xb,s28=.pointer (some ⟨xb,0,none⟩)/\s29=.int .i64 tt/\g9<xb/\(fun W=>BlkAt W db 30 (dimL E)/\DgAt W g9 m Dc/\Below W0.heap.size W0 W) wx/\BlkAt wx xb 30 (dimL E2))
         case first =>
          have hJ:∀W W',(fun W=>BlkAt W db 30 (dimL E)/\DgAt W g9 m Dc/\Below W0.heap.size W0 W) W->Below W.heap.size W W'->(fun W=>BlkAt W db 30 (dimL E)/\DgAt W g9 m Dc/\Below W0.heap.size W0 W) W':=fun W W' h k=>⟨h.1.keeps k,h.2.1.keep k,later h.2.2 k⟩
          have hJl:∀W,(fun W=>BlkAt W db 30 (dimL E)/\DgAt W g9 m Dc/\Below W0.heap.size W0 W) W->g9<W.heap.size:=fun W h=>h.2.1.lt
          have hS:∀W,(fun W=>BlkAt W db 30 (dimL E)/\DgAt W g9 m Dc/\Below W0.heap.size W0 W) W->(fun W=>∀j c,(dimL E)[j]?=some c->W.cell? ⟨db,0+j,none⟩=some c) W:=fun W h j c hj=>h.1.cell0 j c hj
          have HD:Below V2.heap.size V2 V2.drew:=(Below.refl _ _).drew
          refine wp_region_held_drew (S:=fun W=>∀j c,(dimL E)[j]?=some c->W.cell? ⟨db,0+j,none⟩=some c) (by kernel_rfl) (hS _ (hJ _ _ HT HD)) (fun hHeld=>?_)
          have T:=hJ _ _ HT HD
          clear HD HT hF2
          generalize V2.drew=V4 at *
          refine wpAnyH_take (i:=1) (v:=.agg #[.int .i64 (E 0).1,.int .i64 (E 0).2,.int .i64 (E 1).1,.int .i64 (E 1).2,.int .i64 (E 2).1,.int .i64 (E 2).2,.int .i64 (E 3).1,.int .i64 (E 3).2,.int .i64 (E 4).1,.int .i64 (E 4).2,.int .i64 (E 5).1,.int .i64 (E 5).2,.int .i64 (E 6).1,.int .i64 (E 6).2]) rfl (by kernel_rfl) (by kernel_rfl) (by kernel_rfl) (fun _ _ _ h=>h) (yields_loadBig (by rfl) _ 30 (by rfl) Try.underlying30 (dimL E) (by kernel_rfl) (by rfl) (fun W hS2=>hS2) (dim_valU E)) hHeld ?_;simp only[gA,gB,gC,Act.put,gD,gE,gF]
          refine wpAnyH_ready (rs:=[0,7]) (by kernel_rfl) (by simp) ?_
          refine AllReadyH.cons rfl (fun K hK=>?_) (AllReadyH.cons rfl (fun K hK=>?_) AllReadyH.nil)
          ·simp only[gA,gB,Act.put,gD,gE,gF]
           go_simp
           go_at_call 43
           (with_reducible refine (cp _).mono ?_)
           rintro _ W5 ⟨rfl,hb1⟩
           replace T:=hJ _ _ T hb1
           skip
           clear hb1
           dsimp only
           refine hK.out _ _ (hS _ T) (fun hHeld=>?_)
           clear hK K
           refine wpAnyH_ready (rs:=[2,7]) (by kernel_rfl) (by simp) ?_
           refine AllReadyH.cons rfl (fun K hK=>?_) (AllReadyH.cons rfl (fun K hK=>?_) AllReadyH.nil)
           ·simp only[gA,gB,gC,Act.put,gD,gE,gF]
            go_simp
            go_at_call 44
            (with_reducible refine (cw _).mono ?_)
            rintro _ W6 ⟨rfl,hb1⟩
            replace T:=hJ _ _ T hb1
            skip
            clear hb1
            dsimp only
            refine hK.out _ _ (hS _ T) (fun hHeld=>?_)
            clear hK K
            refine wpAnyH_ready (rs:=[3,7]) (by kernel_rfl) (by simp) ?_
            refine AllReadyH.cons rfl (fun K hK=>?_) (AllReadyH.cons rfl (fun K hK=>?_) AllReadyH.nil)
            ·simp only[gA,gB,gC,Act.put,gD,gE,gF]
             go_simp
             go_at_call 48
             (with_reducible refine (ct _).mono ?_)
             rintro _ W7 ⟨rfl,hb1⟩
             replace T:=hJ _ _ T hb1
             skip
             clear hb1
             dsimp only
             refine hK.out _ _ (hS _ T) (fun hHeld=>?_)
             clear hK K
             refine tk (v:=?_) 4 rfl ?_ hHeld ?_;rotate_left;(focus ((intro w hSw;(try dsimp only at hSw);go_simp);try with_reducible rfl));simp only[gA,gB,gC,Act.put,gD,gE,gF];refine tk (v:=?_) 5 rfl ?_ hHeld ?_;rotate_left;(focus ((intro w hSw;(try dsimp only at hSw);go_simp);try with_reducible rfl));simp only[gA,gB,gC,Act.put,gD,gE,gF];refine tk (v:=?_) 6 rfl ?_ hHeld ?_;rotate_left;(focus ((intro w hSw;(try dsimp only at hSw);go_simp);try with_reducible rfl));simp only[gA,gB,gC,Act.put,gD,gE,gF]
             refine rd 7 rfl (fun K hK=>?_);simp only[gA,gB,gC,Act.put,gD,gE,gF];go_simp
             have TA:=T
             have hh:Below W7.heap.size W7 (W7.alloc (.cells #[.int .i64 0,.int .i64 0,.int .i64 0,.int .i64 0,.int .i64 0,.int .i64 0,.int .i64 0,.int .i64 0,.int .i64 0,.int .i64 0,.int .i64 0,.int .i64 0,.int .i64 0,.int .i64 0] 30)):=Below.alloc (Below.refl _ _) (Nat.le_refl _) _
             have nbk:BlkAt (W7.alloc (.cells #[.int .i64 0,.int .i64 0,.int .i64 0,.int .i64 0,.int .i64 0,.int .i64 0,.int .i64 0,.int .i64 0,.int .i64 0,.int .i64 0,.int .i64 0,.int .i64 0,.int .i64 0,.int .i64 0] 30)) W7.heap.size 30 [.int .i64 0,.int .i64 0,.int .i64 0,.int .i64 0,.int .i64 0,.int .i64 0,.int .i64 0,.int .i64 0,.int .i64 0,.int .i64 0,.int .i64 0,.int .i64 0,.int .i64 0,.int .i64 0]:=blk_new _ _ _
             have hnl:=hJl _ T
             replace T:=hJ _ _ T hh
             refine hK.out _ _ (hS _ T) (fun hHeld=>?_)
             clear hK K
             refine rd 8 rfl (fun K hK=>?_)
             refine step_storeBig (by rfl) _ _ 30 (by rfl) nbk (dimL E2) (by kernel_rfl) (by rfl) (by rfl) (by rfl) (by rfl) ?_
             rintro V5 XR hs2 hB2 hk2
             have hb2:=hB2 _ _ hh (Nat.le_refl _)
             clear T
             have T:=hJ _ _ TA hb2
             obtain⟨xb,hxb⟩:∃xb,xb=W7.heap.size:=⟨_,rfl⟩
             rw [<-hxb] at XR hnl ⊢
             refine hK.out _ _ (hS _ T) (fun hHeld=>?_)
             clear hK K
             refine tk (v:=?_) 9 rfl ?_ hHeld ?_;rotate_left;(focus ((intro w hSw;(try dsimp only at hSw);go_simp);try with_reducible rfl));simp only[gA,gB,gC,Act.put,gD,gE,gF]
             refine wpAnyH_done (by kernel_rfl) ?_ _
             clear hb2 hB2 hk2 hs2 nbk hh hxb TA
             go_wp2_with fail
             go_meet
             case rel=>exact⟨xb,rfl,rfl,hnl,T,XR⟩
            ·simp only[gA,gB,gC,Act.put,gD,gE,gF]
             go_simp
             have TA:=T
             have hh:Below W6.heap.size W6 (W6.alloc (.cells #[.int .i64 0,.int .i64 0,.int .i64 0,.int .i64 0,.int .i64 0,.int .i64 0,.int .i64 0,.int .i64 0,.int .i64 0,.int .i64 0,.int .i64 0,.int .i64 0,.int .i64 0,.int .i64 0] 30)):=Below.alloc (Below.refl _ _) (Nat.le_refl _) _
             have nbk:BlkAt (W6.alloc (.cells #[.int .i64 0,.int .i64 0,.int .i64 0,.int .i64 0,.int .i64 0,.int .i64 0,.int .i64 0,.int .i64 0,.int .i64 0,.int .i64 0,.int .i64 0,.int .i64 0,.int .i64 0,.int .i64 0] 30)) W6.heap.size 30 [.int .i64 0,.int .i64 0,.int .i64 0,.int .i64 0,.int .i64 0,.int .i64 0,.int .i64 0,.int .i64 0,.int .i64 0,.int .i64 0,.int .i64 0,.int .i64 0,.int .i64 0,.int .i64 0]:=blk_new _ _ _
             have hnl:=hJl _ T
             replace T:=hJ _ _ T hh
             refine hK.out _ _ (hS _ T) (fun hHeld=>?_)
             clear hK K
             refine rd 3 rfl (fun K hK=>?_);simp only[gA,gB,gC,Act.put,gD,gE,gF];go_simp
             go_at_call 48
             (with_reducible refine (ct _).mono ?_)
             rintro _ W7 ⟨rfl,hb1⟩
             replace T:=hJ _ _ T hb1
             replace hh:=later hh hb1;replace nbk:=nbk.keeps hb1
             clear hb1
             dsimp only
             refine hK.out _ _ (hS _ T) (fun hHeld=>?_)
             clear hK K
             refine tk (v:=?_) 4 rfl ?_ hHeld ?_;rotate_left;(focus ((intro w hSw;(try dsimp only at hSw);go_simp);try with_reducible rfl));simp only[gA,gB,gC,Act.put,gD,gE,gF];refine tk (v:=?_) 5 rfl ?_ hHeld ?_;rotate_left;(focus ((intro w hSw;(try dsimp only at hSw);go_simp);try with_reducible rfl));simp only[gA,gB,gC,Act.put,gD,gE,gF];refine tk (v:=?_) 6 rfl ?_ hHeld ?_;rotate_left;(focus ((intro w hSw;(try dsimp only at hSw);go_simp);try with_reducible rfl));simp only[gA,gB,gC,Act.put,gD,gE,gF]
             refine rd 8 rfl (fun K hK=>?_)
             refine step_storeBig (by rfl) _ _ 30 (by rfl) nbk (dimL E2) (by kernel_rfl) (by rfl) (by rfl) (by rfl) (by rfl) ?_
             rintro V5 XR hs2 hB2 hk2
             have hb2:=hB2 _ _ hh (Nat.le_refl _)
             clear T
             have T:=hJ _ _ TA hb2
             obtain⟨xb,hxb⟩:∃xb,xb=W6.heap.size:=⟨_,rfl⟩
             rw [<-hxb] at XR hnl ⊢
             refine hK.out _ _ (hS _ T) (fun hHeld=>?_)
             clear hK K
             refine tk (v:=?_) 9 rfl ?_ hHeld ?_;rotate_left;(focus ((intro w hSw;(try dsimp only at hSw);go_simp);try with_reducible rfl));simp only[gA,gB,gC,Act.put,gD,gE,gF]
             refine wpAnyH_done (by kernel_rfl) ?_ _
             clear hb2 hB2 hk2 hs2 nbk hh hxb TA
             go_wp2_with fail
             go_meet
             case rel=>exact⟨xb,rfl,rfl,hnl,T,XR⟩
           ·simp only[gA,gB,gC,Act.put,gD,gE,gF]
            go_simp
            have TA:=T
            have hh:Below W5.heap.size W5 (W5.alloc (.cells #[.int .i64 0,.int .i64 0,.int .i64 0,.int .i64 0,.int .i64 0,.int .i64 0,.int .i64 0,.int .i64 0,.int .i64 0,.int .i64 0,.int .i64 0,.int .i64 0,.int .i64 0,.int .i64 0] 30)):=Below.alloc (Below.refl _ _) (Nat.le_refl _) _
            have nbk:BlkAt (W5.alloc (.cells #[.int .i64 0,.int .i64 0,.int .i64 0,.int .i64 0,.int .i64 0,.int .i64 0,.int .i64 0,.int .i64 0,.int .i64 0,.int .i64 0,.int .i64 0,.int .i64 0,.int .i64 0,.int .i64 0] 30)) W5.heap.size 30 [.int .i64 0,.int .i64 0,.int .i64 0,.int .i64 0,.int .i64 0,.int .i64 0,.int .i64 0,.int .i64 0,.int .i64 0,.int .i64 0,.int .i64 0,.int .i64 0,.int .i64 0,.int .i64 0]:=blk_new _ _ _
            have hnl:=hJl _ T
            replace T:=hJ _ _ T hh
            refine hK.out _ _ (hS _ T) (fun hHeld=>?_)
            clear hK K
            refine rd 2 rfl (fun K hK=>?_);simp only[gA,gB,gC,Act.put,gD,gE,gF];go_simp
            go_at_call 44
            (with_reducible refine (cw _).mono ?_)
            rintro _ W6 ⟨rfl,hb1⟩
            replace T:=hJ _ _ T hb1
            replace hh:=later hh hb1;replace nbk:=nbk.keeps hb1
            clear hb1
            dsimp only
            refine hK.out _ _ (hS _ T) (fun hHeld=>?_)
            clear hK K
            refine rd 3 rfl (fun K hK=>?_);simp only[gA,gB,gC,Act.put,gD,gE,gF];go_simp
            go_at_call 48
            (with_reducible refine (ct _).mono ?_)
            rintro _ W7 ⟨rfl,hb1⟩
            replace T:=hJ _ _ T hb1
            replace hh:=later hh hb1;replace nbk:=nbk.keeps hb1
            clear hb1
            dsimp only
            refine hK.out _ _ (hS _ T) (fun hHeld=>?_)
            clear hK K
            refine tk (v:=?_) 4 rfl ?_ hHeld ?_;rotate_left;(focus ((intro w hSw;(try dsimp only at hSw);go_simp);try with_reducible rfl));simp only[gA,gB,gC,Act.put,gD,gE,gF];refine tk (v:=?_) 5 rfl ?_ hHeld ?_;rotate_left;(focus ((intro w hSw;(try dsimp only at hSw);go_simp);try with_reducible rfl));simp only[gA,gB,gC,Act.put,gD,gE,gF];refine tk (v:=?_) 6 rfl ?_ hHeld ?_;rotate_left;(focus ((intro w hSw;(try dsimp only at hSw);go_simp);try with_reducible rfl));simp only[gA,gB,gC,Act.put,gD,gE,gF]
            refine rd 8 rfl (fun K hK=>?_)
            refine step_storeBig (by rfl) _ _ 30 (by rfl) nbk (dimL E2) (by kernel_rfl) (by rfl) (by rfl) (by rfl) (by rfl) ?_
            rintro V5 XR hs2 hB2 hk2
            have hb2:=hB2 _ _ hh (Nat.le_refl _)
            clear T
            have T:=hJ _ _ TA hb2
            obtain⟨xb,hxb⟩:∃xb,xb=W5.heap.size:=⟨_,rfl⟩
            rw [<-hxb] at XR hnl ⊢
            refine hK.out _ _ (hS _ T) (fun hHeld=>?_)
            clear hK K
            refine tk (v:=?_) 9 rfl ?_ hHeld ?_;rotate_left;(focus ((intro w hSw;(try dsimp only at hSw);go_simp);try with_reducible rfl));simp only[gA,gB,gC,Act.put,gD,gE,gF]
            refine wpAnyH_done (by kernel_rfl) ?_ _
            clear hb2 hB2 hk2 hs2 nbk hh hxb TA
            go_wp2_with fail
            go_meet
            case rel=>exact⟨xb,rfl,rfl,hnl,T,XR⟩
          ·simp only[gA,gB,gC,Act.put,gD,gE,gF]
           go_simp
           have TA:=T
           have hh:Below V4.heap.size V4 (V4.alloc (.cells #[.int .i64 0,.int .i64 0,.int .i64 0,.int .i64 0,.int .i64 0,.int .i64 0,.int .i64 0,.int .i64 0,.int .i64 0,.int .i64 0,.int .i64 0,.int .i64 0,.int .i64 0,.int .i64 0] 30)):=Below.alloc (Below.refl _ _) (Nat.le_refl _) _
           have nbk:BlkAt (V4.alloc (.cells #[.int .i64 0,.int .i64 0,.int .i64 0,.int .i64 0,.int .i64 0,.int .i64 0,.int .i64 0,.int .i64 0,.int .i64 0,.int .i64 0,.int .i64 0,.int .i64 0,.int .i64 0,.int .i64 0] 30)) V4.heap.size 30 [.int .i64 0,.int .i64 0,.int .i64 0,.int .i64 0,.int .i64 0,.int .i64 0,.int .i64 0,.int .i64 0,.int .i64 0,.int .i64 0,.int .i64 0,.int .i64 0,.int .i64 0,.int .i64 0]:=blk_new _ _ _
           have hnl:=hJl _ T
           replace T:=hJ _ _ T hh
           refine hK.out _ _ (hS _ T) (fun hHeld=>?_)
           clear hK K
           refine rd 0 rfl (fun K hK=>?_);simp only[gA,gB,Act.put,gD,gE,gF];go_simp
           go_at_call 43
           (with_reducible refine (cp _).mono ?_)
           rintro _ W5 ⟨rfl,hb1⟩
           replace T:=hJ _ _ T hb1
           replace hh:=later hh hb1;replace nbk:=nbk.keeps hb1
           clear hb1
           dsimp only
           refine hK.out _ _ (hS _ T) (fun hHeld=>?_)
           clear hK K
           refine rd 2 rfl (fun K hK=>?_);simp only[gA,gB,gC,Act.put,gD,gE,gF];go_simp
           go_at_call 44
           (with_reducible refine (cw _).mono ?_)
           rintro _ W6 ⟨rfl,hb1⟩
           replace T:=hJ _ _ T hb1
           replace hh:=later hh hb1;replace nbk:=nbk.keeps hb1
           clear hb1
           dsimp only
           refine hK.out _ _ (hS _ T) (fun hHeld=>?_)
           clear hK K
           refine rd 3 rfl (fun K hK=>?_);simp only[gA,gB,gC,Act.put,gD,gE,gF];go_simp
           go_at_call 48
           (with_reducible refine (ct _).mono ?_)
           rintro _ W7 ⟨rfl,hb1⟩
           replace T:=hJ _ _ T hb1
           replace hh:=later hh hb1;replace nbk:=nbk.keeps hb1
           clear hb1
           dsimp only
           refine hK.out _ _ (hS _ T) (fun hHeld=>?_)
           clear hK K
           refine tk (v:=?_) 4 rfl ?_ hHeld ?_;rotate_left;(focus ((intro w hSw;(try dsimp only at hSw);go_simp);try with_reducible rfl));simp only[gA,gB,gC,Act.put,gD,gE,gF];refine tk (v:=?_) 5 rfl ?_ hHeld ?_;rotate_left;(focus ((intro w hSw;(try dsimp only at hSw);go_simp);try with_reducible rfl));simp only[gA,gB,gC,Act.put,gD,gE,gF];refine tk (v:=?_) 6 rfl ?_ hHeld ?_;rotate_left;(focus ((intro w hSw;(try dsimp only at hSw);go_simp);try with_reducible rfl));simp only[gA,gB,gC,Act.put,gD,gE,gF]
           refine rd 8 rfl (fun K hK=>?_)
           refine step_storeBig (by rfl) _ _ 30 (by rfl) nbk (dimL E2) (by kernel_rfl) (by rfl) (by rfl) (by rfl) (by rfl) ?_
           rintro V5 XR hs2 hB2 hk2
           have hb2:=hB2 _ _ hh (Nat.le_refl _)
           clear T
           have T:=hJ _ _ TA hb2
           obtain⟨xb,hxb⟩:∃xb,xb=V4.heap.size:=⟨_,rfl⟩
           rw [<-hxb] at XR hnl ⊢
           refine hK.out _ _ (hS _ T) (fun hHeld=>?_)
           clear hK K
           refine tk (v:=?_) 9 rfl ?_ hHeld ?_;rotate_left;(focus ((intro w hSw;(try dsimp only at hSw);go_simp);try with_reducible rfl));simp only[gA,gB,gC,Act.put,gD,gE,gF]
           refine wpAnyH_done (by kernel_rfl) ?_ _
           clear hb2 hB2 hk2 hs2 nbk hh hxb TA
           go_wp2_with fail
           go_meet
           case rel=>exact⟨xb,rfl,rfl,hnl,T,XR⟩
         case rest =>
         clear HT
         obtain⟨xb,rfl,rfl,hxb,⟨XD,DA,HB2⟩,XX⟩:=hcut
         by_cases z:tt=0
         ·subst z
          have e3:E2=tmD plE E (-1) 1 7:=by rw [<-hE2.out];exact if_pos htt.out
          have hF3:Hid (backF (K.reverse.drop (d+1)) (fun v=>if v=u then E2 else Dc v)=Rb):=by
           have q:=hF2.out
           unfold finS at q
           rw [if_pos htt.out,<-e3] at q
           exact q
          have hD3:Hid (∀v:Nat,v<m->Dim64 ((fun v=>if v=u then E2 else Dc v) v)/\drK ((fun v=>if v=u then E2 else Dc v) v) 7=true):=fun v hv=>by
           dsimp only
           by_cases c:v=u
           ·rw [if_pos c,e3]
            obtain⟨a1,a2, -⟩:=tm_ok (p:=(-1,1)) plE_ok.2 hE.out.2 rok_mone htt.out
            exact⟨a1,a2⟩
           ·rw [if_neg c];exact hDc.out v hv
          have hum2:(u:Int)<(m:Int):=by omega
          clear hF2 e3 ct hE2 XD
          go_upto_region 56 with fail
          have hS:∀W,Below W0.heap.size W0 W->BlkAt W xb 30 (dimL E2)->(fun W=>W.cell? ⟨b5,o5+t,none⟩=some (.int .i64 (u:Int))/\(∀j c,(dimL E2)[j]?=some c->W.cell? ⟨xb,0+j,none⟩=some c)) W:=fun W h h2=>⟨oc0 W h,fun j c hj=>h2.cell0 j c hj⟩
          have HD:Below wc.heap.size wc wc.drew:=(Below.refl _ _).drew
          replace DA:=DA.keep HD
          replace XX:=XX.keeps HD
          replace HB2:=later HB2 HD
          refine wp_region_held_drew (S:=fun W=>W.cell? ⟨b5,o5+t,none⟩=some (.int .i64 (u:Int))/\(∀j c,(dimL E2)[j]?=some c->W.cell? ⟨xb,0+j,none⟩=some c)) (by kernel_rfl) (hS _ HB2 XX) (fun hHeld=>?_)
          clear HD
          generalize wc.drew=V4 at *
          obtain⟨cs,DB,Dl,Df⟩:=DA
          replace Dl:Hid (m*14<=cs.length):=Dl
          refine tk (v:=?_) 0 rfl ?_ hHeld ?_;rotate_left;(focus ((intro w hSw;(try dsimp only at hSw);go_simp);try with_reducible rfl));simp only[gA,gB,Act.put,gD,gE,gF];refine tk (v:=?_) 1 rfl ?_ hHeld ?_;rotate_left;(focus ((intro w hSw;(try dsimp only at hSw);go_simp);try with_reducible rfl));simp only[gA,gB,gC,Act.put,gD,gE,gF];refine tk (v:=?_) 2 rfl ?_ hHeld ?_;rotate_left;(focus ((intro w hSw;(try dsimp only at hSw);go_simp);try with_reducible rfl));simp only[gA,gB,gC,Act.put,gD,gE,gF];refine tk (v:=?_) 3 rfl ?_ hHeld ?_;rotate_left;(focus ((intro w hSw;(try dsimp only at hSw);go_simp);try with_reducible rfl));simp only[gA,gB,gC,Act.put,gD,gE,gF];refine tk (v:=?_) 4 rfl ?_ hHeld ?_;rotate_left;(focus ((intro w hSw;(try dsimp only at hSw);go_simp);try with_reducible rfl));simp only[gA,gB,gC,Act.put,gD,gE,gF]
          refine wpAnyH_take (i:=5) (v:=.agg #[.int .i64 (E2 0).1,.int .i64 (E2 0).2,.int .i64 (E2 1).1,.int .i64 (E2 1).2,.int .i64 (E2 2).1,.int .i64 (E2 2).2,.int .i64 (E2 3).1,.int .i64 (E2 3).2,.int .i64 (E2 4).1,.int .i64 (E2 4).2,.int .i64 (E2 5).1,.int .i64 (E2 5).2,.int .i64 (E2 6).1,.int .i64 (E2 6).2]) rfl (by kernel_rfl) (by kernel_rfl) (by kernel_rfl) (fun _ _ _ h=>h) (yields_loadBig (by rfl) _ 30 (by rfl) Try.underlying30 (dimL E2) (by kernel_rfl) (by rfl) (fun W hS2=>hS2.2) (dim_valU E2)) hHeld ?_;simp only[gA,gB,gC,Act.put,gD,gE,gF]
          refine tk (v:=?_) 6 rfl ?_ hHeld ?_;rotate_left;(focus ((intro w hSw;(try dsimp only at hSw);go_simp);try with_reducible rfl));simp only[gA,gB,gC,Act.put,gD,gE,gF]
          refine rd 7 rfl (fun K hK=>?_)
          refine step_storeMid (off:=u*14) (by rfl) _ _ 30 (by rfl) DB (dimL E2) (by kernel_rfl) (by rw [dimL_len];have:=Dl.out;omega) (by rfl) (by rfl) (by rfl) ?_
          rintro V3 XR hs3 hB3 hk3
          have DA3:=DgAt.set (t:=u) Dl.out Df hum XR
          have HB3:=hB3 _ _ HB2 hgl
          refine hK.out _ _ (hS _ HB3 (hk3 _ _ _ (by omega) XX)) (fun _=>wpAnyH_done (by kernel_rfl) ?_ _)
          clear hK K
          go_wp2_with fail
          go_roundg (q-d-1)
          case measure=>have:=HZ.out;omega
          case rel=>exact⟨d+1,(t:Int)-1,_,by have:=HZ.out;omega,by have:=HZ.out;omega,by first | rfl | go_num,hF3,hD3,fun _=>DA3,HB3⟩
         ·have e1:Hid (R=.error 3):=by
           have q:=hF2.out
           unfold finS at q
           rw [if_neg (by rw [htt.out];exact z)] at q
           have q2:=hR2.out
           rw [<-q] at q2
           exact q2
          have z2:(tt != 0)=true:=bne_iff_ne.2 z
          clear hF2
          go_wp2_with fail
          have e2:=e1.out
          subst e2
          exact bodyPost_ret (v:=.tuple #[.slice none 0 0,.int .i64 3]) (by simp [results,Try.results26,go_sem, *]) rfl ⟨rfl,later HB HB2⟩
        ·have hvm:v<m:=by omega
         have hvl:(v:Int)<(m:Int):=by omega
         have hF2:Hid ((((if (v:Int)=(u:Int)\/(coF (v:Int) kk.2.2).1=0 then denS Dc (u:Int) (fun v=>coF (v:Int) kk.2.2) (v+1) (m-(v+1)) E else if tmF E (Dc v) (coF (v:Int) kk.2.2).1 (coF (v:Int) kk.2.2).2 7=0 then denS Dc (u:Int) (fun v=>coF (v:Int) kk.2.2) (v+1) (m-(v+1)) (tmD E (Dc v) (coF (v:Int) kk.2.2).1 (coF (v:Int) kk.2.2).2 7) else none)).bind finS).bind (fun E=>backF (K.reverse.drop (d+1)) (fun v=>if v=u then E else Dc v))=Rb):=by
          have q:=hF.out
          rw [show m-v=(m-(v+1))+1 by omega,denS] at q
          exact q
         obtain⟨e,he⟩:∃e,Hid (coF (v:Int) kk.2.2=e):=⟨_,rfl⟩
         have hRe:Hid (ROk e):=by show ROk e;rw [<-he.out];exact hrk.out v
         obtain⟨ba,hba,hbal,a0,a1⟩:=ry.at hvm
         try dsimp only at a0 a1
         rw [he.out] at a0 a1 hF2
         subst hba
         clear hF he
         go_upto_region 47 with (refine wpList_storeBig (by rfl) _ _ 27 (by rfl) (blk_new _ _ _) ([.int .i64 e.1,.int .i64 e.2]) (by kernel_rfl) (by rfl) (by rfl) (by rfl) (by rfl) ?_;rintro V3 XR hs2 hB2 hk2)
         have grw:Below wr.heap.size wr V3:=hB2 _ _ (Below.alloc (Below.refl _ _) (Nat.le_refl _) _) (Nat.le_refl _)
         have XC:=XR
         obtain⟨rb,hrb⟩:∃rb,rb=wr.heap.size:=⟨_,rfl⟩
         rw [<-hrb] at XC ⊢
         replace XD:=XD.keeps grw
         replace DA:=DA.keep grw
         replace ry:=ry.keep grw
         replace HB2:=later HB2 grw
         replace o0:=oc0 _ HB2
         clear hB2 hk2 hs2 grw XR hrb a0 a1 hbal
         have z0:=XC.cell 0 _ rfl
         by_cases cu:v=u
         ·have hF3:Hid (((denS Dc (u:Int) (fun v=>coF (v:Int) kk.2.2) (v+1) (m-(v+1)) E).bind finS).bind (fun E=>backF (K.reverse.drop (d+1)) (fun v=>if v=u then E else Dc v))=Rb):=by
           have q:=hF2.out
           rw [if_pos (Or.inl (by rw [cu]))] at q
           exact q
          have cu2:((v:Int)==(u:Int))=true:=by rw [cu];exact beq_self_eq_true _
          replace cu:Hid (v=u):=cu
          clear hF2
          go_wp2_with fail
          go_roundg (m-v-1)
          case measure=>omega
          case rel=>exact⟨v+1,E,by omega,by go_num,XD,ry,DA,HB2,hE,hF3⟩
         ·have cu2:((v:Int)==(u:Int))=false:=beq_eq_false_iff_ne.2 (by omega)
          by_cases cz:e.1=0
          ·have hF3:Hid (((denS Dc (u:Int) (fun v=>coF (v:Int) kk.2.2) (v+1) (m-(v+1)) E).bind finS).bind (fun E=>backF (K.reverse.drop (d+1)) (fun v=>if v=u then E else Dc v))=Rb):=by
            have q:=hF2.out
            rw [if_pos (Or.inr cz)] at q
            exact q
           rw [cz] at z0
           replace cz:Hid (e.1=0):=cz
           clear hF2 XC
           go_wp2_with fail
           go_roundg (m-v-1)
           case measure=>omega
           case rel=>exact⟨v+1,E,by omega,by go_num,XD,ry,DA,HB2,hE,hF3⟩
          ·have cz2:(e.1==0)=false:=beq_eq_false_iff_ne.2 cz
           have hF3:Hid ((((if tmF E (Dc v) e.1 e.2 7=0 then denS Dc (u:Int) (fun v=>coF (v:Int) kk.2.2) (v+1) (m-(v+1)) (tmD E (Dc v) e.1 e.2 7) else none)).bind finS).bind (fun E=>backF (K.reverse.drop (d+1)) (fun v=>if v=u then E else Dc v))=Rb):=by
            have q:=hF2.out
            rw [if_neg (fun c=>c.elim (fun c=>cu (by omega)) (fun c=>cz c))] at q
            exact q
           obtain⟨tt,htt⟩:∃tt,Hid (tmF E (Dc v) e.1 e.2 7=tt):=⟨_,rfl⟩
           obtain⟨E2,hE2⟩:∃E2,Hid (jD E (Dc v) e=E2):=⟨_,rfl⟩
           have ct:∀W,Calls Try.prog 48 #[.agg #[.int .i64 (E 0).1,.int .i64 (E 0).2,.int .i64 (E 1).1,.int .i64 (E 1).2,.int .i64 (E 2).1,.int .i64 (E 2).2,.int .i64 (E 3).1,.int .i64 (E 3).2,.int .i64 (E 4).1,.int .i64 (E 4).2,.int .i64 (E 5).1,.int .i64 (E 5).2,.int .i64 (E 6).1,.int .i64 (E 6).2],.agg #[.int .i64 (Dc v 0).1,.int .i64 (Dc v 0).2,.int .i64 (Dc v 1).1,.int .i64 (Dc v 1).2,.int .i64 (Dc v 2).1,.int .i64 (Dc v 2).2,.int .i64 (Dc v 3).1,.int .i64 (Dc v 3).2,.int .i64 (Dc v 4).1,.int .i64 (Dc v 4).2,.int .i64 (Dc v 5).1,.int .i64 (Dc v 5).2,.int .i64 (Dc v 6).1,.int .i64 (Dc v 6).2],.agg #[.int .i64 e.1,.int .i64 e.2]] W fun r w'=>r=.returned (.tuple #[.agg #[.int .i64 (E2 0).1,.int .i64 (E2 0).2,.int .i64 (E2 1).1,.int .i64 (E2 1).2,.int .i64 (E2 2).1,.int .i64 (E2 2).2,.int .i64 (E2 3).1,.int .i64 (E2 3).2,.int .i64 (E2 4).1,.int .i64 (E2 4).2,.int .i64 (E2 5).1,.int .i64 (E2 5).2,.int .i64 (E2 6).1,.int .i64 (E2 6).2],.int .i64 tt])/\Below W.heap.size W w':=fun W=>by
            have q:=dTimes_w E (Dc v) e.1 e.2 hE.out.1 (hDc.out v hvm).1 hRe.out.2 W
            rw [tmV_jD hE.out.2 (hDc.out v hvm).2 hRe.out.1] at q
            rw [<-htt.out,<-hE2.out]
            exact q
           have HT:(fun W=>BlkAt W db 30 (dimL E)/\DgAt W g9 m Dc/\Below W0.heap.size W0 W/\BlkAt W rb 27 [.int .i64 e.1,.int .i64 e.2]/\RtAt W (some ⟨ba,0,none⟩) m (fun v=>coF (v:Int) kk.2.2)) V3:=⟨XD,DA,HB2,XC,ry⟩
           clear hF2
           go_upto_region 48 with fail
           clear XD DA HB2 XC ry o0 z0
           generalize V3=V2 at *
           go_cut [26,27] from 191 to 200 (fun s26 s27 wx=>∃xb,s26=.pointer (some ⟨xb,0,none⟩)/\s27=.int .i64 tt/\db<xb/\(fun W=>BlkAt W db 30 (dimL E)/\DgAt W g9 m Dc/\Below W0.heap.size W0 W/\BlkAt W rb 27 [.int .i64 e.1,.int .i64 e.2]/\RtAt W (some ⟨ba,0,none⟩) m (fun v=>coF (v:Int) kk.2.2)) wx/\BlkAt wx xb 30 (dimL E2))
           case first =>
            have hJ:∀W W',(fun W=>BlkAt W db 30 (dimL E)/\DgAt W g9 m Dc/\Below W0.heap.size W0 W/\BlkAt W rb 27 [.int .i64 e.1,.int .i64 e.2]/\RtAt W (some ⟨ba,0,none⟩) m (fun v=>coF (v:Int) kk.2.2)) W->Below W.heap.size W W'->(fun W=>BlkAt W db 30 (dimL E)/\DgAt W g9 m Dc/\Below W0.heap.size W0 W/\BlkAt W rb 27 [.int .i64 e.1,.int .i64 e.2]/\RtAt W (some ⟨ba,0,none⟩) m (fun v=>coF (v:Int) kk.2.2)) W':=fun W W' h k=>⟨h.1.keeps k,h.2.1.keep k,later h.2.2.1 k,h.2.2.2.1.keeps k,h.2.2.2.2.keep k⟩
            have hJl:∀W,(fun W=>BlkAt W db 30 (dimL E)/\DgAt W g9 m Dc/\Below W0.heap.size W0 W/\BlkAt W rb 27 [.int .i64 e.1,.int .i64 e.2]/\RtAt W (some ⟨ba,0,none⟩) m (fun v=>coF (v:Int) kk.2.2)) W->db<W.heap.size:=fun W h=>h.1.lt
            have hS:∀W,(fun W=>BlkAt W db 30 (dimL E)/\DgAt W g9 m Dc/\Below W0.heap.size W0 W/\BlkAt W rb 27 [.int .i64 e.1,.int .i64 e.2]/\RtAt W (some ⟨ba,0,none⟩) m (fun v=>coF (v:Int) kk.2.2)) W->(fun W=>(∀j c,(dimL E)[j]?=some c->W.cell? ⟨db,0+j,none⟩=some c)/\(∀j c,(dimL (Dc v))[j]?=some c->W.cell? ⟨g9,v*14+j,none⟩=some c)/\W.cell? ⟨rb,0,none⟩=some (.int .i64 e.1)/\W.cell? ⟨rb,1,none⟩=some (.int .i64 e.2)) W:=fun W h=>⟨fun j c hj=>h.1.cell0 j c hj,h.2.1.cells hvm,h.2.2.2.1.cell 0 _ rfl,h.2.2.2.1.cell 1 _ rfl⟩
            have HD:Below V2.heap.size V2 V2.drew:=(Below.refl _ _).drew
            refine wp_region_held_drew (S:=fun W=>(∀j c,(dimL E)[j]?=some c->W.cell? ⟨db,0+j,none⟩=some c)/\(∀j c,(dimL (Dc v))[j]?=some c->W.cell? ⟨g9,v*14+j,none⟩=some c)/\W.cell? ⟨rb,0,none⟩=some (.int .i64 e.1)/\W.cell? ⟨rb,1,none⟩=some (.int .i64 e.2)) (by kernel_rfl) (hS _ (hJ _ _ HT HD)) (fun hHeld=>?_)
            have T:=hJ _ _ HT HD
            clear HD HT hF3
            generalize V2.drew=V4 at *
            refine wpAnyH_take (i:=0) (v:=.agg #[.int .i64 (E 0).1,.int .i64 (E 0).2,.int .i64 (E 1).1,.int .i64 (E 1).2,.int .i64 (E 2).1,.int .i64 (E 2).2,.int .i64 (E 3).1,.int .i64 (E 3).2,.int .i64 (E 4).1,.int .i64 (E 4).2,.int .i64 (E 5).1,.int .i64 (E 5).2,.int .i64 (E 6).1,.int .i64 (E 6).2]) rfl (by kernel_rfl) (by kernel_rfl) (by kernel_rfl) (fun _ _ _ h=>h) (yields_loadBig (by rfl) _ 30 (by rfl) Try.underlying30 (dimL E) (by kernel_rfl) (by rfl) (fun W hS2=>hS2.1) (dim_valU E)) hHeld ?_;simp only[gA,gB,Act.put,gD,gE,gF]
            refine tk (v:=?_) 1 rfl ?_ hHeld ?_;rotate_left;(focus ((intro w hSw;(try dsimp only at hSw);go_simp);try with_reducible rfl));simp only[gA,gB,gC,Act.put,gD,gE,gF];refine tk (v:=?_) 2 rfl ?_ hHeld ?_;rotate_left;(focus ((intro w hSw;(try dsimp only at hSw);go_simp);try with_reducible rfl));simp only[gA,gB,gC,Act.put,gD,gE,gF];refine tk (v:=?_) 3 rfl ?_ hHeld ?_;rotate_left;(focus ((intro w hSw;(try dsimp only at hSw);go_simp);try with_reducible rfl));simp only[gA,gB,gC,Act.put,gD,gE,gF]
            refine wpAnyH_take (i:=4) (v:=.agg #[.int .i64 (Dc v 0).1,.int .i64 (Dc v 0).2,.int .i64 (Dc v 1).1,.int .i64 (Dc v 1).2,.int .i64 (Dc v 2).1,.int .i64 (Dc v 2).2,.int .i64 (Dc v 3).1,.int .i64 (Dc v 3).2,.int .i64 (Dc v 4).1,.int .i64 (Dc v 4).2,.int .i64 (Dc v 5).1,.int .i64 (Dc v 5).2,.int .i64 (Dc v 6).1,.int .i64 (Dc v 6).2]) rfl (by kernel_rfl) (by kernel_rfl) (by kernel_rfl) (fun _ _ _ h=>h) (yields_loadBig (by rfl) _ 30 (by rfl) Try.underlying30 (dimL (Dc v)) (by kernel_rfl) (by rfl) (fun W hS2=>hS2.2.1) (dim_valU (Dc v))) hHeld ?_;simp only[gA,gB,gC,Act.put,gD,gE,gF]
            refine tk (v:=?_) 5 rfl ?_ hHeld ?_;rotate_left;(focus ((intro w hSw;(try dsimp only at hSw);go_simp);try with_reducible rfl));simp only[gA,gB,gC,Act.put,gD,gE,gF]
            refine wpAnyH_ready (rs:=[6,10]) (by kernel_rfl) (by simp) ?_
            refine AllReadyH.cons rfl (fun K hK=>?_) (AllReadyH.cons rfl (fun K hK=>?_) AllReadyH.nil)
            ·simp only[gA,gB,gC,Act.put,gD,gE,gF]
             go_simp
             go_at_call 48
             (with_reducible refine (ct _).mono ?_)
             rintro _ W1 ⟨rfl,hb1⟩
             replace T:=hJ _ _ T hb1
             clear hb1
             dsimp only
             refine hK.out _ _ (hS _ T) (fun hHeld=>?_)
             clear hK K
             refine tk (v:=?_) 7 rfl ?_ hHeld ?_;rotate_left;(focus ((intro w hSw;(try dsimp only at hSw);go_simp);try with_reducible rfl));simp only[gA,gB,gC,Act.put,gD,gE,gF];refine tk (v:=?_) 8 rfl ?_ hHeld ?_;rotate_left;(focus ((intro w hSw;(try dsimp only at hSw);go_simp);try with_reducible rfl));simp only[gA,gB,gC,Act.put,gD,gE,gF];refine tk (v:=?_) 9 rfl ?_ hHeld ?_;rotate_left;(focus ((intro w hSw;(try dsimp only at hSw);go_simp);try with_reducible rfl));simp only[gA,gB,gC,Act.put,gD,gE,gF]
             refine rd 10 rfl (fun K hK=>?_);simp only[gA,gB,gC,Act.put,gD,gE,gF];go_simp
             have hg:Below W1.heap.size W1 (W1.alloc (.cells #[.int .i64 0,.int .i64 0,.int .i64 0,.int .i64 0,.int .i64 0,.int .i64 0,.int .i64 0,.int .i64 0,.int .i64 0,.int .i64 0,.int .i64 0,.int .i64 0,.int .i64 0,.int .i64 0] 30)):=Below.alloc (Below.refl _ _) (Nat.le_refl _) _
             have nb:BlkAt (W1.alloc (.cells #[.int .i64 0,.int .i64 0,.int .i64 0,.int .i64 0,.int .i64 0,.int .i64 0,.int .i64 0,.int .i64 0,.int .i64 0,.int .i64 0,.int .i64 0,.int .i64 0,.int .i64 0,.int .i64 0] 30)) W1.heap.size 30 [.int .i64 0,.int .i64 0,.int .i64 0,.int .i64 0,.int .i64 0,.int .i64 0,.int .i64 0,.int .i64 0,.int .i64 0,.int .i64 0,.int .i64 0,.int .i64 0,.int .i64 0,.int .i64 0]:=blk_new _ _ _
             refine hK.out _ _ (hS _ (hJ _ _ T hg)) (fun hHeld=>?_)
             clear hK K
             refine rd 11 rfl (fun K hK=>?_)
             refine step_storeBig (by rfl) _ _ 30 (by rfl) nb (dimL E2) (by kernel_rfl) (by rfl) (by rfl) (by rfl) (by rfl) ?_
             rintro V5 XR hs2 hB2 -
             have hb2:Below W1.heap.size W1 V5:=hB2 _ _ hg (Nat.le_refl _)
             obtain⟨nbk,hnbk⟩:∃nbk,nbk=W1.heap.size:=⟨_,rfl⟩
             have hnl:=hJl _ T
             rw [<-hnbk] at XR hnl ⊢
             replace T:=hJ _ _ T hb2
             refine hK.out _ _ (hS _ T) (fun hHeld=>?_)
             clear hK K
             refine tk (v:=?_) 12 rfl ?_ hHeld ?_;rotate_left;(focus ((intro w hSw;(try dsimp only at hSw);go_simp);try with_reducible rfl));simp only[gA,gB,gC,Act.put,gD,gE,gF]
             refine wpAnyH_done (by kernel_rfl) ?_ _
             clear hb2 hB2 hs2 nb hg hnbk
             go_wp2_with fail
             go_meet
             case rel=>exact⟨nbk,rfl,rfl,hnl,T,XR⟩
            ·simp only[gA,gB,gC,Act.put,gD,gE,gF]
             go_simp
             have hg:Below V4.heap.size V4 (V4.alloc (.cells #[.int .i64 0,.int .i64 0,.int .i64 0,.int .i64 0,.int .i64 0,.int .i64 0,.int .i64 0,.int .i64 0,.int .i64 0,.int .i64 0,.int .i64 0,.int .i64 0,.int .i64 0,.int .i64 0] 30)):=Below.alloc (Below.refl _ _) (Nat.le_refl _) _
             have nb:BlkAt (V4.alloc (.cells #[.int .i64 0,.int .i64 0,.int .i64 0,.int .i64 0,.int .i64 0,.int .i64 0,.int .i64 0,.int .i64 0,.int .i64 0,.int .i64 0,.int .i64 0,.int .i64 0,.int .i64 0,.int .i64 0] 30)) V4.heap.size 30 [.int .i64 0,.int .i64 0,.int .i64 0,.int .i64 0,.int .i64 0,.int .i64 0,.int .i64 0,.int .i64 0,.int .i64 0,.int .i64 0,.int .i64 0,.int .i64 0,.int .i64 0,.int .i64 0]:=blk_new _ _ _
             refine hK.out _ _ (hS _ (hJ _ _ T hg)) (fun hHeld=>?_)
             clear hK K
             refine rd 6 rfl (fun K hK=>?_);simp only[gA,gB,gC,Act.put,gD,gE,gF];go_simp
             go_at_call 48
             (with_reducible refine (ct _).mono ?_)
             rintro _ W1 ⟨rfl,hb1⟩
             have hh:Below V4.heap.size V4 W1:=hg.trans (hb1.mono (by rw [World.size_alloc];omega))
             replace nb:=nb.keeps hb1
             clear hb1
             dsimp only
             refine hK.out _ _ (hS _ (hJ _ _ T hh)) (fun hHeld=>?_)
             clear hK K
             refine tk (v:=?_) 7 rfl ?_ hHeld ?_;rotate_left;(focus ((intro w hSw;(try dsimp only at hSw);go_simp);try with_reducible rfl));simp only[gA,gB,gC,Act.put,gD,gE,gF];refine tk (v:=?_) 8 rfl ?_ hHeld ?_;rotate_left;(focus ((intro w hSw;(try dsimp only at hSw);go_simp);try with_reducible rfl));simp only[gA,gB,gC,Act.put,gD,gE,gF];refine tk (v:=?_) 9 rfl ?_ hHeld ?_;rotate_left;(focus ((intro w hSw;(try dsimp only at hSw);go_simp);try with_reducible rfl));simp only[gA,gB,gC,Act.put,gD,gE,gF]
             refine rd 11 rfl (fun K hK=>?_)
             refine step_storeBig (by rfl) _ _ 30 (by rfl) nb (dimL E2) (by kernel_rfl) (by rfl) (by rfl) (by rfl) (by rfl) ?_
             rintro V5 XR hs2 hB2 -
             have hb2:Below V4.heap.size V4 V5:=hB2 _ _ hh (Nat.le_refl _)
             obtain⟨nbk,hnbk⟩:∃nbk,nbk=V4.heap.size:=⟨_,rfl⟩
             have hnl:=hJl _ T
             rw [<-hnbk] at XR hnl ⊢
             replace T:=hJ _ _ T hb2
             refine hK.out _ _ (hS _ T) (fun hHeld=>?_)
             clear hK K
             refine tk (v:=?_) 12 rfl ?_ hHeld ?_;rotate_left;(focus ((intro w hSw;(try dsimp only at hSw);go_simp);try with_reducible rfl));simp only[gA,gB,gC,Act.put,gD,gE,gF]
             refine wpAnyH_done (by kernel_rfl) ?_ _
             clear hb2 hB2 hs2 nb hg hh hnbk
             go_wp2_with fail
             go_meet
             case rel=>exact⟨nbk,rfl,rfl,hnl,T,XR⟩
           case rest =>
           clear HT
           obtain⟨xb,rfl,rfl,hxb,⟨XD,DA,HB2,XC,ry⟩,XX⟩:=hcut
           by_cases z:tt=0
           ·subst z
            have e3:E2=tmD E (Dc v) e.1 e.2 7:=by rw [<-hE2.out];exact if_pos htt.out
            have hF4:Hid (((denS Dc (u:Int) (fun v=>coF (v:Int) kk.2.2) (v+1) (m-(v+1)) E2).bind finS).bind (fun E=>backF (K.reverse.drop (d+1)) (fun v=>if v=u then E else Dc v))=Rb):=by
             have q:=hF3.out
             rw [if_pos htt.out,<-e3] at q
             exact q
            have hE3:Hid (Dim64 E2/\drK E2 7=true):=by
             rw [e3]
             obtain⟨a1,a2, -⟩:=tm_ok (p:=e) hE.out.2 (hDc.out v hvm).2 hRe.out htt.out
             exact⟨a1,a2⟩
            clear hF3 e3 ct hE2 htt
            go_wp2_with (first
             | (refine wpList_loadBig (by rfl) _ 30 (by rfl) Try.underlying30 (dimL E2) (by kernel_rfl) (by rfl) (XX.cell0) (dim_valU E2) ?_)
             | (refine wpList_storeBig (by rfl) _ _ 30 (by rfl) (XD) (dimL E2) (by kernel_rfl) (by rfl) (by rfl) (by rfl) (by rfl) ?_;rintro V9 XR hs2 hB2 hk2))
            go_roundg (m-v-1)
            case measure=>omega
            case rel=>exact⟨v+1,E2,by omega,by go_num,XR,ry.other XD (by decide) hk2,DA.far (by omega) hk2,hB2 _ _ HB2 hdl,hE3,hF4⟩
           ·have e1:Hid (R=.error 3):=by
             have q:=hF3.out
             rw [if_neg (by rw [htt.out];exact z)] at q
             have q2:=hR2.out
             rw [<-q] at q2
             exact q2
            have z2:(tt != 0)=true:=bne_iff_ne.2 z
            clear hF3
            go_wp2_with fail
            have e2:=e1.out
            subst e2
            exact bodyPost_ret (v:=.tuple #[.slice none 0 0,.int .i64 3]) (by simp [results,Try.results26,go_sem, *]) rfl ⟨rfl,later HB HB2⟩
    ·have hjm:j<m:=by omega
     have hlt:(j:Int)<(m:Int):=by omega
     obtain⟨b0,o0,hA0,l0,g0⟩:=(VD1.keep HB2) j hjm
     obtain⟨b1,o1,hA1,l1,g1⟩:=(VG1.keep HB2) j hjm
     replace g0:Hid (∀q c,(dimL (D j))[q]?=some c->wr.cell? ⟨b0,o0+j*14+q,none⟩=some c):=g0
     subst hA0 hA1
     go_upto_region 36 with (first
      | (refine wpList_loadBig (by rfl) _ 30 (by rfl) Try.underlying30 (dimL (D j)) (by kernel_rfl) (by rfl) (g0.out) (dim_valU (D j)) ?_)
      | (refine wpList_storeBig (by rfl) _ _ 30 (by rfl) (blk_new _ _ _) (dimL (D j)) (by kernel_rfl) (by rfl) (by rfl) (by rfl) (by rfl) ?_;rintro V2 XR hs2 hB2 hk2))
     have HD:Below wr.heap.size wr V2:=hB2 _ _ (Below.alloc (Below.refl _ _) (Nat.le_refl _) _) (Nat.le_refl _)
     have XD:=XR
     obtain⟨db,hdb⟩:∃db,db=wr.heap.size:=⟨_,rfl⟩
     have hdl:wr.heap.size<=db:=by omega
     rw [<-hdb] at XD ⊢
     replace g1:=keepsC HD g1 l1
     have x1:=(T1.keep (later HB2 HD)).fd.cell 2 _ rfl
     clear hB2 hk2 hs2 XR g0 l0 l1 hdb
     have hl5:Hid (((List.range j).map (startD G D)).length<=100000):=by show _<=_;rw [el];omega
     cases hG:G j with
     | true =>
      rw [hG] at g1
      have hs:startD G D j=D j:=by unfold startD;rw [hG];rfl
      go_wp2_with (first
       | (refine wpList_loadBig (by rfl) _ 30 (by rfl) Try.underlying30 (dimL (D j)) (by kernel_rfl) (by rfl) (XD.cell0) (dim_valU (D j)) ?_)
       | (at_builtin;refine wpList_catDg (B:=W0.heap.size) (by rfl) _ _ (by rfl) _ ((List.range j).map (startD G D)) (D j) _ (by rfl) (by rfl) (I.keep (later HD (by go_grown))) (blk_new _ _ _) hl5.out (by have:=HB2.size;have:=HD.size;rw [World.size_alloc];omega) ?_;intro v8 w8 I8 hb8 hk8 hs8))
      go_roundg (m-j-1)
      case measure=>omega
      case rel=>exact⟨j+1,by omega,by go_num,by rw [List.range_succ,List.map_append,List.map_singleton,hs];exact I8,(later HB2 (later HD (by go_grown))).trans hb8⟩
     | false =>
      rw [hG] at g1
      have hs:startD G D j=plE:=by unfold startD;rw [hG];rfl
      go_upto_region 38 with (first
       | (go_at_call 43;(with_reducible refine (cp _).mono ?_);rintro _ W5 ⟨rfl,hb2⟩;replace HD:=later HD hb2;replace XD:=XD.keeps hb2;clear hb2 x1 g1)
       | (refine wpList_storeBig (by rfl) _ _ 30 (by rfl) (XD) (dimL plE) (by kernel_rfl) (by rfl) (by rfl) (by rfl) (by rfl) ?_;rintro V6 XR hs2 hB2 hk2))
      replace HD:=hB2 _ _ HD hdl
      replace XD:=XR
      clear XR hB2 hk2 hs2
      go_wp2_with (first
       | (refine wpList_loadBig (by rfl) _ 30 (by rfl) Try.underlying30 (dimL plE) (by kernel_rfl) (by rfl) (XD.cell0) (dim_valU plE) ?_)
       | (at_builtin;refine wpList_catDg (B:=W0.heap.size) (by rfl) _ _ (by rfl) _ ((List.range j).map (startD G D)) plE _ (by rfl) (by rfl) (I.keep (later HD (by go_grown))) (blk_new _ _ _) hl5.out (by have:=HB2.size;have:=HD.size;rw [World.size_alloc];omega) ?_;intro v8 w8 I8 hb8 hk8 hs8))
      go_roundg (m-j-1)
      case measure=>omega
      case rel=>exact⟨j+1,by omega,by go_num,by rw [List.range_succ,List.map_append,List.map_singleton,hs];exact I8,(later HB2 (later HD (by go_grown))).trans hb8⟩
  ·have hin:i<L.length:=by omega
   have hlt:(i:Int)<(L.length:Int):=by omega
   obtain⟨x,hx⟩:∃x,L[i]?=some x:=⟨L[i],List.getElem?_eq_getElem hin⟩
   obtain⟨hPx,hGx⟩:=hP x (List.mem_of_getElem? hx)
   obtain⟨Ax,Cx,ex,rx⟩:=T0.ok x (List.mem_of_getElem? hx)
   obtain⟨br,hAr,hbr,xc⟩:=VR i x hx
   subst hAr
   rw [ex] at xc
   have XC:Hid (∀j u,(fmL (.slice Ax m Cx) x.1.1)[j]?=some u->wr.cell? ⟨br,i*15+j,none⟩=some u):=fun j u hj=>keepsC HB (xc j u hj) hbr
   clear xc
   obtain⟨A4,C4,e4,hC4,VK⟩:=KS.f.form
   obtain⟨A5,C5,e5,VO⟩:=own_insK KS.n
   subst e4 e5
   rw [List.length_map] at VO
   rw [show (K.map (·.1)).length=K.length by rw [List.length_map]] at KS ⊢
   have hKV:Hid (KV.length=K.length):=KS.len
   obtain⟨FR,hFR⟩:∃FR,Hid (freedF x.1 K=FR):=⟨_,rfl⟩
   have hdx:L.drop i=x :: L.drop (i+1):=by
    rw [List.drop_eq_getElem_cons hin]
    have q:=List.getElem?_eq_getElem (l:=L) hin
    rw [hx] at q
    injection q with q
    rw [<-q]
   have hN:Hid (FR=none->R=.error 3):=fun h=>by
    rw [<-hall.out,hdx,List.map_cons]
    exact all_none (hFR.out.trans h)
   have hdx2:Hid (L.drop i=x :: L.drop (i+1)):=hdx
   clear hdx
   have hap0:∀b,wr.heap.size<=b->ApartF (.slice A4 KV.length C4) b:=fun b hb=>KS.f.apart hb
   go_upto_region 6 with (first
    | (refine wpList_loadBig (by rfl) _ 58 (by rfl) Try.underlying58 (fmL (.slice Ax m Cx) x.1.1) (by kernel_rfl) (by rfl) (XC.out) (fm_val _ _) ?_)
    | (refine wpList_storeBig (by rfl) _ _ 58 (by rfl) (blk_new _ _ _) (fmL (.slice Ax m Cx) x.1.1) (by kernel_rfl) (by rfl) (by rfl) (by rfl) (by rfl) ?_;rintro V2 XR hs2 hB2 hk2))
   have grw:Below wr.heap.size wr V2:=hB2 _ _ (Below.alloc (Below.refl _ _) (Nat.le_refl _) _) (Nat.le_refl _)
   have XN:=XR
   obtain⟨xb,hxb⟩:∃xb,xb=wr.heap.size:=⟨_,rfl⟩
   have hxl:w.heap.size<=xb:=by rw [hxb];exact HB.size
   have hap:ApartF (.slice A4 KV.length C4) xb:=hap0 xb (by omega)
   clear hap0
   rw [<-hxb] at XN ⊢
   have rx2:RtAt V2 Ax m (fun u=>coF (u:Int) x.1.2):=(rx.keep HB).keep grw
   replace HB:=later HB grw
   replace KS:=KS.keep grw
   replace VK:=VK.keep grw
   replace VO:=VO.keep grw
   clear hB2 hk2 hs2 grw XR XC rx hxb
   have HFX:Hid (freedF x.1 K=FR/\POk (m:Int) x.1/\FG G x.1.2):=⟨hFR.out,hPx,hGx⟩
   go_wp2_with fail
   go_loopg [43] KV.length (fun M s43 wx=>∃(j:Nat) (Rc:Pro) (Ac:Option Addr) (Cc:Nat),j+M=KV.length/\s43=.int .i64 (j:Int)/\BlkAt wx xb 58 (fmL (.slice Ac m Cc) Rc.1)/\RtAt wx Ac m (fun u=>coF (u:Int) Rc.2)/\POk (m:Int) Rc/\FG G Rc.2/\KSt w.heap.size m G (.slice A4 KV.length C4) (.slice A5 K.length C5) KV K wx/\Below w.heap.size w wx/\Hid (freedF Rc (K.drop j)=FR))
   case atStart=>exact⟨0,x.1,Ax,Cx,by omega,rfl,XN,rx2,hPx,hGx,KS,HB,hFR⟩
   case round =>
    clear XN rx2 hPx hGx KS HB hFR VK VO
    obtain⟨j,Rc,Ac,Cc,hj,rfl,XB,rc,hPc,hGc,KS,HB,hFR⟩:=hrel
    by_cases cj:j=KV.length
    ·have hFR2:Hid (FR=some Rc):=by
      have q:=hFR.out
      rw [List.drop_of_length_le (by have:=hKV.out;omega)] at q
      exact q.symm
     have hall2:Hid (allFrom K (x.1 :: (L.drop (i+1)).map (·.1)) (startD G D)=R):=by
      have q:=hall.out
      rw [hdx2.out] at q
      exact q
     have HF:Hid (freedF x.1 K=some Rc):=HFX.out.1.trans hFR2.out
     have HPc:Hid (POk (m:Int) Rc/\FG G Rc.2):=⟨hPc,hGc⟩
     have cp:∀W,Calls Try.prog 43 #[] W fun r w'=>r=.returned (.agg #[.int .i64 (plE 0).1,.int .i64 (plE 0).2,.int .i64 (plE 1).1,.int .i64 (plE 1).2,.int .i64 (plE 2).1,.int .i64 (plE 2).2,.int .i64 (plE 3).1,.int .i64 (plE 3).2,.int .i64 (plE 4).1,.int .i64 (plE 4).2,.int .i64 (plE 5).1,.int .i64 (plE 5).2,.int .i64 (plE 6).1,.int .i64 (plE 6).2])/\Below W.heap.size W w':=fun W=>dplain_w W
     clear hFR hFR2 hN hdx2 hPc hGc hap hj
     subst cj
     have x0:=XB.cell 0 _ rfl
     obtain⟨W0,rfl⟩:∃W0,W0=wr:=⟨_,rfl⟩
     go_wp2_with fail
     go_loopg [13,14] m (fun M s13 s14 wx=>∃(d:Nat) (z:Int),d+M=m/\z=(m:Int)-1-(d:Int)/\s14=.int .i64 z/\s13=.int .i64 (lowD (fun v=>coF (v:Int) Rc.2) (m-d) d)/\wx=W0)
     case atStart=>exact⟨0,(m:Int)-1,by omega,by omega,by first | rfl | go_num,rfl,rfl⟩
     case round =>
      obtain⟨d,z,hd,hz,rfl,rfl,rfl⟩:=hrel
      by_cases cd:d=m
      ·obtain rfl:m=d:=cd.symm
       have hz0:¬(0:Int)<=z:=by omega
       have hl:=low_is (fun v=>coF (v:Int) Rc.2) m 0 Rc.2 (by rw [Nat.zero_add];exact HPc.out.1.s) HPc.out.1.f (fun f hf=>(HPc.out.2 f hf).2) (fun v _ _=>rfl)
       rw [Nat.sub_self,hl]
       clear hl
       replace hz:Hid (z=(m:Int)-1-(m:Int)):=hz
       obtain⟨E,Lf⟩:=Rc
       cases Lf with
       | nil =>
        dsimp only
        obtain⟨b,hb⟩:∃b,Hid (eqD E plE=b):=⟨_,rfl⟩
        have q1:=fun W=>run_eq_dim E plE b hb.out W
        go_upto_region 23 with fail
        obtain⟨PE,hPE⟩:∃PE,plE=PE:=⟨_,rfl⟩
        rw [hPE] at cp q1
        clear hPE x0
        refine region_behind (by kernel_rfl) (by kernel_rfl) ?_
        repeat (first
         | (go_big_quiet_want;refine quiet_loadBig _ 30 (by rfl) Try.underlying30 (dimL E) (by kernel_rfl) (by rfl) (XB.fdimb) (dim_valU E) ?_;simp only [Act.put,List.setIfInBounds_toArray,List.set_cons_zero,List.set_cons_succ];go_big_quiet_on)
         | (go_big_quiet_step (first | (go_at_call 43;with_reducible refine Behind.call (cp _))))
         | (go_big_quiet_want;refine quiet_run (.bool (!b)) (fun W _=>by simp [execOp,go_sem,q1 W];cases b <;> rfl) ?_;simp only [Act.put,List.setIfInBounds_toArray,List.set_cons_zero,List.set_cons_succ];go_big_quiet_on))
        refine wpQuiet_nil ?_
        rintro _ ⟨q,rfl⟩
        obtain⟨W,hb1⟩:=q
        dsimp only
        replace KS:=KS.keep hb1
        replace HB:=later HB hb1
        clear hb1 XB rc cp q1
        cases b with
        | true =>
         have hall3:Hid (allFrom K ((L.drop (i+1)).map (·.1)) (startD G D)=R):=by show _=_;rw [<-hall2.out,all_plain HF.out hb.out]
         clear hall hall2 HF HFX HPc hb
         go_wp2_with fail
         go_roundg (L.length-i-1)
         case measure=>omega
         case rel=>exact⟨i+1,KV,K,by omega,by go_num,KS,Nat.le_succ_of_le hKl,hKp,HB,hall3⟩
        | false =>
         have e1:Hid (R=.error 140):=by show _=_;rw [<-hall2.out,all_bad HF.out hb.out]
         clear hall hall2 HF HFX HPc hb
         go_wp2_with fail
         have e2:=e1.out
         subst e2
         exact bodyPost_ret (v:=.tuple #[.slice none 0 0,.int .i64 140]) (by simp [results,Try.results26,go_sem, *]) rfl ⟨rfl,HB⟩
       | cons f F =>
        dsimp only
        obtain⟨fu,fN,fD⟩:=f
        have hrs:=HPc.out.1.s
        have hfO:ROk (fN,fD):=HPc.out.1.f (fu,fN,fD) (List.mem_cons_self ..)
        have hf0:fN≠0:=fac_n0 hfO (HPc.out.2 (fu,fN,fD) (List.mem_cons_self ..)).2
        have hfu0:0<=fu:=hrs.1
        have hfum:fu<(m:Int):=hrs.2.1
        obtain⟨u,rfl⟩:∃u:Nat,fu=(u:Int):=⟨fu.toNat,by omega⟩
        have hum:u<m:=by omega
        have hum0:¬((u:Int)<0):=by omega
        obtain⟨dq,hdq,hdv⟩:=divO_some hfO hf0
        have hdO:Hid (ROk dq):=(divO_one hfO hf0 hdq).1
        have hco:Hid (coF (u:Int) (((u:Int),fN,fD) :: F)=(fN,fD)):=co_head rfl
        have cd:∀W,Calls Try.prog 47 #[.agg #[.int .i64 1,.int .i64 1],.agg #[.int .i64 fN,.int .i64 fD]] W fun r w'=>r=.returned (.tuple #[.agg #[.int .i64 dq.1,.int .i64 dq.2],.int .i64 0])/\Below W.heap.size W w':=fun W=>by
         have q:=div11_w 1 1 fN fD rok_1.2 hfO.2 W
         rw [show divV11 1 1 fN fD=(dq.1,dq.2,0) from hdv] at q
         exact q
        have cw:=fun W=>dwhole_w 1 W
        have ce:=fun W=>fempty_w m hm W
        obtain⟨TT,hTT⟩:∃TT,Hid (timesP (plE,[]) (E,((u:Int),fN,fD) :: F) dq=TT):=⟨_,rfl⟩
        have hkeep:Hid (keepO (E,((u:Int),fN,fD) :: F)=TT.map (fun Y=>((u:Int),Y))):=by
         show ((divO (1,1) (fN,fD)).bind fun d=>(powerP (E,((u:Int),fN,fD) :: F) d).map fun Y=>((u:Int),Y))=_
         rw [hdq]
         show (powerP (E,((u:Int),fN,fD) :: F) dq).map _=_
         rw [show powerP (E,((u:Int),fN,fD) :: F) dq=TT from hTT.out]
        obtain⟨ba,hba, -, -, -⟩:=rc.at hum
        subst hba
        have cj:∀W Ae Ce,RtAt W Ae m (fun _=>(0,1))->RtAt W (some ⟨ba,0,none⟩) m (fun v=>coF (v:Int) (((u:Int),fN,fD) :: F))->Calls Try.prog 45 #[fmV (.slice Ae m Ce) plE,fmV (.slice (some ⟨ba,0,none⟩) m Cc) E,.agg #[.int .i64 dq.1,.int .i64 dq.2]] W fun r w'=>PjAns r w' m TT/\Below W.heap.size W w':=fun W Ae Ce h1 h2=>by
         rw [<-hTT.out]
         exact fjoin_w m hm (plE,[]) (E,((u:Int),fN,fD) :: F) dq (pOk_dim plE_ok.1 plE_ok.2) HPc.out.1 HPc.out.2 hdO.out Ae (some ⟨ba,0,none⟩) Ce Cc W (h1.congr fun u _=>(co_nil u).symm) h2
        have T:(fun W=>BlkAt W xb 58 (fmL (.slice (some ⟨ba,0,none⟩) m Cc) E)/\RtAt W (some ⟨ba,0,none⟩) m (fun v=>coF (v:Int) (((u:Int),fN,fD) :: F))/\KSt w.heap.size m G (.slice A4 KV.length C4) (.slice A5 K.length C5) KV K W/\Below w.heap.size w W) wr:=⟨XB,rc,KS,HB⟩
        have hum2:(u:Int)<(m:Int):=by omega
        clear hrs hfO hf0 hdv hdq hfu0 hfum XB rc KS HB hTT
        go_upto_region 25 with fail
        clear x0
        generalize wr=V2 at *
        go_cut [15,16] from 97 to 106 (fun s15 s16 wx=>∃qb,s15=.pointer (some ⟨qb,0,none⟩)/\s16=.int .i64 0/\xb<qb/\(fun W=>BlkAt W xb 58 (fmL (.slice (some ⟨ba,0,none⟩) m Cc) E)/\RtAt W (some ⟨ba,0,none⟩) m (fun v=>coF (v:Int) (((u:Int),fN,fD) :: F))/\KSt w.heap.size m G (.slice A4 KV.length C4) (.slice A5 K.length C5) KV K W/\Below w.heap.size w W) wx/\BlkAt wx qb 27 [.int .i64 dq.1,.int .i64 dq.2])
        case first =>
         have hJ:∀W W',(fun W=>BlkAt W xb 58 (fmL (.slice (some ⟨ba,0,none⟩) m Cc) E)/\RtAt W (some ⟨ba,0,none⟩) m (fun v=>coF (v:Int) (((u:Int),fN,fD) :: F))/\KSt w.heap.size m G (.slice A4 KV.length C4) (.slice A5 K.length C5) KV K W/\Below w.heap.size w W) W->Below W.heap.size W W'->(fun W=>BlkAt W xb 58 (fmL (.slice (some ⟨ba,0,none⟩) m Cc) E)/\RtAt W (some ⟨ba,0,none⟩) m (fun v=>coF (v:Int) (((u:Int),fN,fD) :: F))/\KSt w.heap.size m G (.slice A4 KV.length C4) (.slice A5 K.length C5) KV K W/\Below w.heap.size w W) W':=fun W W' h k=>⟨h.1.keeps k,h.2.1.keep k,h.2.2.1.keep k,later h.2.2.2 k⟩
         have hJl:∀W,(fun W=>BlkAt W xb 58 (fmL (.slice (some ⟨ba,0,none⟩) m Cc) E)/\RtAt W (some ⟨ba,0,none⟩) m (fun v=>coF (v:Int) (((u:Int),fN,fD) :: F))/\KSt w.heap.size m G (.slice A4 KV.length C4) (.slice A5 K.length C5) KV K W/\Below w.heap.size w W) W->xb<W.heap.size:=fun W h=>h.1.lt
         have hS:∀W,(fun W=>BlkAt W xb 58 (fmL (.slice (some ⟨ba,0,none⟩) m Cc) E)/\RtAt W (some ⟨ba,0,none⟩) m (fun v=>coF (v:Int) (((u:Int),fN,fD) :: F))/\KSt w.heap.size m G (.slice A4 KV.length C4) (.slice A5 K.length C5) KV K W/\Below w.heap.size w W) W->(fun W=>W.cell? ⟨xb,0,none⟩=some (.slice (some ⟨ba,0,none⟩) m Cc)/\W.cell? ⟨ba,u*2,none⟩=some (.int .i64 fN)/\W.cell? ⟨ba,u*2+1,none⟩=some (.int .i64 fD)) W:=fun W h=>⟨h.1.cell 0 _ rfl,by
          have q:W.cell? ⟨ba,u*2,none⟩=some (.int .i64 (coF (u:Int) (((u:Int),fN,fD) :: F)).1):=(h.2.1.cells hum).2.1
          rw [hco.out] at q
          exact q,by
          have q:W.cell? ⟨ba,u*2+1,none⟩=some (.int .i64 (coF (u:Int) (((u:Int),fN,fD) :: F)).2):=(h.2.1.cells hum).2.2
          rw [hco.out] at q
          exact q⟩
         have HD:Below V2.heap.size V2 V2.drew:=(Below.refl _ _).drew
         refine wp_region_held_drew (S:=fun W=>W.cell? ⟨xb,0,none⟩=some (.slice (some ⟨ba,0,none⟩) m Cc)/\W.cell? ⟨ba,u*2,none⟩=some (.int .i64 fN)/\W.cell? ⟨ba,u*2+1,none⟩=some (.int .i64 fD)) (by kernel_rfl) (hS _ (hJ _ _ T HD)) (fun hHeld=>?_)
         replace T:=hJ _ _ T HD
         clear HD hall hall2 HF HFX HPc hkeep ce cj
         generalize V2.drew=V3 at *
         refine tk (v:=?_) 1 rfl ?_ hHeld ?_;rotate_left;(focus ((intro w hSw;(try dsimp only at hSw);go_simp);try with_reducible rfl));simp only[gA,gB,gC,Act.put,gD,gE,gF];refine tk (v:=?_) 2 rfl ?_ hHeld ?_;rotate_left;(focus ((intro w hSw;(try dsimp only at hSw);go_simp);try with_reducible rfl));simp only[gA,gB,gC,Act.put,gD,gE,gF];refine tk (v:=?_) 3 rfl ?_ hHeld ?_;rotate_left;(focus ((intro w hSw;(try dsimp only at hSw);go_simp);try with_reducible rfl));simp only[gA,gB,gC,Act.put,gD,gE,gF];refine tk (v:=?_) 4 rfl ?_ hHeld ?_;rotate_left;(focus ((intro w hSw;(try dsimp only at hSw);go_simp);try with_reducible rfl));simp only[gA,gB,gC,Act.put,gD,gE,gF];refine tk (v:=?_) 5 rfl ?_ hHeld ?_;rotate_left;(focus ((intro w hSw;(try dsimp only at hSw);go_simp);try with_reducible rfl));simp only[gA,gB,gC,Act.put,gD,gE,gF]
         refine wpAnyH_ready (rs:=[0,10]) (by kernel_rfl) (by simp) ?_
         refine AllReadyH.cons rfl (fun K hK=>?_) (AllReadyH.cons rfl (fun K hK=>?_) AllReadyH.nil)
         ·simp only[gA,gB,Act.put,gD,gE,gF]
          go_simp
          go_at_call 44
          (with_reducible refine (cw _).mono ?_)
          rintro _ V4 ⟨rfl,hb1⟩
          replace T:=hJ _ _ T hb1
          skip
          clear hb1
          dsimp only
          refine hK.out _ _ (hS _ T) (fun hHeld=>?_)
          clear hK K
          refine wpAnyH_ready (rs:=[6,10]) (by kernel_rfl) (by simp) ?_
          refine AllReadyH.cons rfl (fun K hK=>?_) (AllReadyH.cons rfl (fun K hK=>?_) AllReadyH.nil)
          ·simp only[gA,gB,gC,Act.put,gD,gE,gF]
           go_simp
           go_at_call 47
           (with_reducible refine (cd _).mono ?_)
           rintro _ W1 ⟨rfl,hb1⟩
           replace T:=hJ _ _ T hb1
           clear hb1
           dsimp only
           refine hK.out _ _ (hS _ T) (fun hHeld=>?_)
           clear hK K
           refine tk (v:=?_) 7 rfl ?_ hHeld ?_;rotate_left;(focus ((intro w hSw;(try dsimp only at hSw);go_simp);try with_reducible rfl));simp only[gA,gB,gC,Act.put,gD,gE,gF];refine tk (v:=?_) 8 rfl ?_ hHeld ?_;rotate_left;(focus ((intro w hSw;(try dsimp only at hSw);go_simp);try with_reducible rfl));simp only[gA,gB,gC,Act.put,gD,gE,gF];refine tk (v:=?_) 9 rfl ?_ hHeld ?_;rotate_left;(focus ((intro w hSw;(try dsimp only at hSw);go_simp);try with_reducible rfl));simp only[gA,gB,gC,Act.put,gD,gE,gF]
           refine rd 10 rfl (fun K hK=>?_);simp only[gA,gB,gC,Act.put,gD,gE,gF];go_simp
           have hg:Below W1.heap.size W1 (W1.alloc (.cells #[.int .i64 0,.int .i64 0] 27)):=Below.alloc (Below.refl _ _) (Nat.le_refl _) _
           have nb:BlkAt (W1.alloc (.cells #[.int .i64 0,.int .i64 0] 27)) W1.heap.size 27 [.int .i64 0,.int .i64 0]:=blk_new _ _ _
           refine hK.out _ _ (hS _ (hJ _ _ T hg)) (fun hHeld=>?_)
           clear hK K
           refine rd 11 rfl (fun K hK=>?_)
           refine step_storeBig (by rfl) _ _ 27 (by rfl) nb ([.int .i64 dq.1,.int .i64 dq.2]) (by kernel_rfl) (by rfl) (by rfl) (by rfl) (by rfl) ?_
           rintro V5 XR hs2 hB2 -
           have hb2:Below W1.heap.size W1 V5:=hB2 _ _ hg (Nat.le_refl _)
           obtain⟨nbk,hnbk⟩:∃nbk,nbk=W1.heap.size:=⟨_,rfl⟩
           have hnl:=hJl _ T
           rw [<-hnbk] at XR hnl ⊢
           replace T:=hJ _ _ T hb2
           refine hK.out _ _ (hS _ T) (fun hHeld=>?_)
           clear hK K
           refine tk (v:=?_) 12 rfl ?_ hHeld ?_;rotate_left;(focus ((intro w hSw;(try dsimp only at hSw);go_simp);try with_reducible rfl));simp only[gA,gB,gC,Act.put,gD,gE,gF]
           refine wpAnyH_done (by kernel_rfl) ?_ _
           clear hb2 hB2 hs2 nb hg hnbk
           go_wp2_with fail
           go_meet
           case rel=>exact⟨nbk,rfl,rfl,hnl,T,XR⟩
          ·simp only[gA,gB,gC,Act.put,gD,gE,gF]
           go_simp
           have hg:Below V4.heap.size V4 (V4.alloc (.cells #[.int .i64 0,.int .i64 0] 27)):=Below.alloc (Below.refl _ _) (Nat.le_refl _) _
           have nb:BlkAt (V4.alloc (.cells #[.int .i64 0,.int .i64 0] 27)) V4.heap.size 27 [.int .i64 0,.int .i64 0]:=blk_new _ _ _
           refine hK.out _ _ (hS _ (hJ _ _ T hg)) (fun hHeld=>?_)
           clear hK K
           refine rd 6 rfl (fun K hK=>?_);simp only[gA,gB,gC,Act.put,gD,gE,gF];go_simp
           go_at_call 47
           (with_reducible refine (cd _).mono ?_)
           rintro _ W1 ⟨rfl,hb1⟩
           have hh:Below V4.heap.size V4 W1:=hg.trans (hb1.mono (by rw [World.size_alloc];omega))
           replace nb:=nb.keeps hb1
           clear hb1
           dsimp only
           refine hK.out _ _ (hS _ (hJ _ _ T hh)) (fun hHeld=>?_)
           clear hK K
           refine tk (v:=?_) 7 rfl ?_ hHeld ?_;rotate_left;(focus ((intro w hSw;(try dsimp only at hSw);go_simp);try with_reducible rfl));simp only[gA,gB,gC,Act.put,gD,gE,gF];refine tk (v:=?_) 8 rfl ?_ hHeld ?_;rotate_left;(focus ((intro w hSw;(try dsimp only at hSw);go_simp);try with_reducible rfl));simp only[gA,gB,gC,Act.put,gD,gE,gF];refine tk (v:=?_) 9 rfl ?_ hHeld ?_;rotate_left;(focus ((intro w hSw;(try dsimp only at hSw);go_simp);try with_reducible rfl));simp only[gA,gB,gC,Act.put,gD,gE,gF]
           refine rd 11 rfl (fun K hK=>?_)
           refine step_storeBig (by rfl) _ _ 27 (by rfl) nb ([.int .i64 dq.1,.int .i64 dq.2]) (by kernel_rfl) (by rfl) (by rfl) (by rfl) (by rfl) ?_
           rintro V5 XR hs2 hB2 -
           have hb2:Below V4.heap.size V4 V5:=hB2 _ _ hh (Nat.le_refl _)
           obtain⟨nbk,hnbk⟩:∃nbk,nbk=V4.heap.size:=⟨_,rfl⟩
           have hnl:=hJl _ T
           rw [<-hnbk] at XR hnl ⊢
           replace T:=hJ _ _ T hb2
           refine hK.out _ _ (hS _ T) (fun hHeld=>?_)
           clear hK K
           refine tk (v:=?_) 12 rfl ?_ hHeld ?_;rotate_left;(focus ((intro w hSw;(try dsimp only at hSw);go_simp);try with_reducible rfl));simp only[gA,gB,gC,Act.put,gD,gE,gF]
           refine wpAnyH_done (by kernel_rfl) ?_ _
           clear hb2 hB2 hs2 nb hg hh hnbk
           go_wp2_with fail
           go_meet
           case rel=>exact⟨nbk,rfl,rfl,hnl,T,XR⟩
         ·simp only[gA,gB,gC,Act.put,gD,gE,gF]
          go_simp
          have TA:=T
          have hh:Below V3.heap.size V3 (V3.alloc (.cells #[.int .i64 0,.int .i64 0] 27)):=Below.alloc (Below.refl _ _) (Nat.le_refl _) _
          have nbk:BlkAt (V3.alloc (.cells #[.int .i64 0,.int .i64 0] 27)) V3.heap.size 27 [.int .i64 0,.int .i64 0]:=blk_new _ _ _
          have hnl:=hJl _ T
          replace T:=hJ _ _ T hh
          refine hK.out _ _ (hS _ T) (fun hHeld=>?_)
          clear hK K
          refine rd 0 rfl (fun K hK=>?_);simp only[gA,gB,Act.put,gD,gE,gF];go_simp
          go_at_call 44
          (with_reducible refine (cw _).mono ?_)
          rintro _ W5 ⟨rfl,hb1⟩
          replace T:=hJ _ _ T hb1
          replace hh:=later hh hb1;replace nbk:=nbk.keeps hb1
          clear hb1
          dsimp only
          refine hK.out _ _ (hS _ T) (fun hHeld=>?_)
          clear hK K
          refine rd 6 rfl (fun K hK=>?_);simp only[gA,gB,gC,Act.put,gD,gE,gF];go_simp
          go_at_call 47
          (with_reducible refine (cd _).mono ?_)
          rintro _ W6 ⟨rfl,hb1⟩
          replace T:=hJ _ _ T hb1
          replace hh:=later hh hb1;replace nbk:=nbk.keeps hb1
          clear hb1
          dsimp only
          refine hK.out _ _ (hS _ T) (fun hHeld=>?_)
          clear hK K
          refine tk (v:=?_) 7 rfl ?_ hHeld ?_;rotate_left;(focus ((intro w hSw;(try dsimp only at hSw);go_simp);try with_reducible rfl));simp only[gA,gB,gC,Act.put,gD,gE,gF];refine tk (v:=?_) 8 rfl ?_ hHeld ?_;rotate_left;(focus ((intro w hSw;(try dsimp only at hSw);go_simp);try with_reducible rfl));simp only[gA,gB,gC,Act.put,gD,gE,gF];refine tk (v:=?_) 9 rfl ?_ hHeld ?_;rotate_left;(focus ((intro w hSw;(try dsimp only at hSw);go_simp);try with_reducible rfl));simp only[gA,gB,gC,Act.put,gD,gE,gF]
          refine rd 11 rfl (fun K hK=>?_)
          refine step_storeBig (by rfl) _ _ 27 (by rfl) nbk [.int .i64 dq.1,.int .i64 dq.2] (by kernel_rfl) (by rfl) (by rfl) (by rfl) (by rfl) ?_
          rintro V5 XR hs2 hB2 hk2
          have hb2:=hB2 _ _ hh (Nat.le_refl _)
          clear T
          have T:=hJ _ _ TA hb2
          obtain⟨qb,hqb⟩:∃qb,qb=V3.heap.size:=⟨_,rfl⟩
          rw [<-hqb] at XR hnl ⊢
          refine hK.out _ _ (hS _ T) (fun hHeld=>?_)
          clear hK K
          refine tk (v:=?_) 12 rfl ?_ hHeld ?_;rotate_left;(focus ((intro w hSw;(try dsimp only at hSw);go_simp);try with_reducible rfl));simp only[gA,gB,gC,Act.put,gD,gE,gF]
          refine wpAnyH_done (by kernel_rfl) ?_ _
          clear hb2 hB2 hk2 hs2 nbk hh hqb TA
          go_wp2_with fail
          go_meet
          case rel=>exact⟨qb,rfl,rfl,hnl,T,XR⟩
        case rest =>
        clear T cd cw hco
        obtain⟨qb,rfl,rfl,hxq,T,XQ⟩:=hcut
        replace T:(fun W=>(BlkAt W xb 58 (fmL (.slice (some ⟨ba,0,none⟩) m Cc) E)/\RtAt W (some ⟨ba,0,none⟩) m (fun v=>coF (v:Int) (((u:Int),fN,fD) :: F))/\KSt w.heap.size m G (.slice A4 KV.length C4) (.slice A5 K.length C5) KV K W/\Below w.heap.size w W)/\BlkAt W qb 27 [.int .i64 dq.1,.int .i64 dq.2]) wc:=⟨T,XQ⟩
        clear XQ
        go_upto_region 26 with fail
        generalize wc=V2 at *
        go_cut [17,18] from 107 to 116 (fun s17 s18 wx=>∃nb2 A9 C9 E9 ok,s17=.pointer (some ⟨nb2,0,none⟩)/\s18=.bool ok/\KSt w.heap.size m G (.slice A4 KV.length C4) (.slice A5 K.length C5) KV K wx/\Below w.heap.size w wx/\BlkAt wx nb2 58 (fmL (.slice A9 m C9) E9)/\JoinR TT ok A9 E9 m wx)
        case first =>
         have hJ:∀W W',(fun W=>(BlkAt W xb 58 (fmL (.slice (some ⟨ba,0,none⟩) m Cc) E)/\RtAt W (some ⟨ba,0,none⟩) m (fun v=>coF (v:Int) (((u:Int),fN,fD) :: F))/\KSt w.heap.size m G (.slice A4 KV.length C4) (.slice A5 K.length C5) KV K W/\Below w.heap.size w W)/\BlkAt W qb 27 [.int .i64 dq.1,.int .i64 dq.2]) W->Below W.heap.size W W'->(fun W=>(BlkAt W xb 58 (fmL (.slice (some ⟨ba,0,none⟩) m Cc) E)/\RtAt W (some ⟨ba,0,none⟩) m (fun v=>coF (v:Int) (((u:Int),fN,fD) :: F))/\KSt w.heap.size m G (.slice A4 KV.length C4) (.slice A5 K.length C5) KV K W/\Below w.heap.size w W)/\BlkAt W qb 27 [.int .i64 dq.1,.int .i64 dq.2]) W':=fun W W' h k=>⟨⟨h.1.1.keeps k,h.1.2.1.keep k,h.1.2.2.1.keep k,later h.1.2.2.2 k⟩,h.2.keeps k⟩
         have hS:∀W,(fun W=>(BlkAt W xb 58 (fmL (.slice (some ⟨ba,0,none⟩) m Cc) E)/\RtAt W (some ⟨ba,0,none⟩) m (fun v=>coF (v:Int) (((u:Int),fN,fD) :: F))/\KSt w.heap.size m G (.slice A4 KV.length C4) (.slice A5 K.length C5) KV K W/\Below w.heap.size w W)/\BlkAt W qb 27 [.int .i64 dq.1,.int .i64 dq.2]) W->(fun W=>W.cell? ⟨xb,0,none⟩=some (.slice (some ⟨ba,0,none⟩) m Cc)/\(∀j c,(fmL (.slice (some ⟨ba,0,none⟩) m Cc) E)[j]?=some c->W.cell? ⟨xb,0+j,none⟩=some c)/\W.cell? ⟨qb,0,none⟩=some (.int .i64 dq.1)/\W.cell? ⟨qb,1,none⟩=some (.int .i64 dq.2)) W:=fun W h=>⟨h.1.1.cell 0 _ rfl,fun j c hj=>h.1.1.cell0 j c hj,h.2.cell 0 _ rfl,h.2.cell 1 _ rfl⟩
         have HD:Below V2.heap.size V2 V2.drew:=(Below.refl _ _).drew
         refine wp_region_held_drew (S:=fun W=>W.cell? ⟨xb,0,none⟩=some (.slice (some ⟨ba,0,none⟩) m Cc)/\(∀j c,(fmL (.slice (some ⟨ba,0,none⟩) m Cc) E)[j]?=some c->W.cell? ⟨xb,0+j,none⟩=some c)/\W.cell? ⟨qb,0,none⟩=some (.int .i64 dq.1)/\W.cell? ⟨qb,1,none⟩=some (.int .i64 dq.2)) (by kernel_rfl) (hS _ (hJ _ _ T HD)) (fun hHeld=>?_)
         replace T:=hJ _ _ T HD
         clear HD hall hall2 HF HFX HPc hkeep
         generalize V2.drew=V4 at *
         refine tk (v:=?_) 0 rfl ?_ hHeld ?_;rotate_left;(focus ((intro w hSw;(try dsimp only at hSw);go_simp);try with_reducible rfl));simp only[gA,gB,Act.put,gD,gE,gF];refine tk (v:=?_) 1 rfl ?_ hHeld ?_;rotate_left;(focus ((intro w hSw;(try dsimp only at hSw);go_simp);try with_reducible rfl));simp only[gA,gB,gC,Act.put,gD,gE,gF];refine tk (v:=?_) 2 rfl ?_ hHeld ?_;rotate_left;(focus ((intro w hSw;(try dsimp only at hSw);go_simp);try with_reducible rfl));simp only[gA,gB,gC,Act.put,gD,gE,gF]
         refine wpAnyH_take (i:=4) (v:=fmV (.slice (some ⟨ba,0,none⟩) m Cc) E) rfl (by kernel_rfl) (by kernel_rfl) (by kernel_rfl) (fun _ _ _ h=>h) (yields_loadBig (by rfl) _ 58 (by rfl) Try.underlying58 (fmL (.slice (some ⟨ba,0,none⟩) m Cc) E) (by kernel_rfl) (by rfl) (fun W hS2=>hS2.2.1) (fm_val _ _)) hHeld ?_;simp only[gA,gB,gC,Act.put,gD,gE,gF]
         refine tk (v:=?_) 5 rfl ?_ hHeld ?_;rotate_left;(focus ((intro w hSw;(try dsimp only at hSw);go_simp);try with_reducible rfl));simp only[gA,gB,gC,Act.put,gD,gE,gF]
         refine wpAnyH_ready (rs:=[3,10]) (by kernel_rfl) (by simp) ?_
         refine AllReadyH.cons rfl (fun K hK=>?_) (AllReadyH.cons rfl (fun K hK=>?_) AllReadyH.nil)
         ·simp only[gA,gB,gC,Act.put,gD,gE,gF]
          go_simp
          go_at_call 24
          (with_reducible refine (ce _).mono ?_)
          rintro _ V5 ⟨⟨ve,rfl,Ie⟩,hb1⟩
          obtain⟨Ae,Ce,e7, -,re, -⟩:=Ie.form
          rw [List.length_replicate] at e7 re
          subst e7
          replace re:RtAt V5 Ae m (fun _=>(0,1)):=re.congr fun u hu=>by rw [List.getD_eq_getElem?_getD,List.getElem?_replicate,if_pos hu];rfl
          clear Ie
          replace T:=hJ _ _ T hb1
          skip
          clear hb1
          dsimp only
          refine hK.out _ _ (hS _ T) (fun hHeld=>?_)
          clear hK K
          refine wpAnyH_ready (rs:=[6,10]) (by kernel_rfl) (by simp) ?_
          refine AllReadyH.cons rfl (fun K hK=>?_) (AllReadyH.cons rfl (fun K hK=>?_) AllReadyH.nil)
          ·simp only[gA,gB,gC,Act.put,gD,gE,gF]
           go_simp
           go_at_call 45
           (with_reducible refine (cj _ _ _ re T.1.2.1).mono ?_)
           rintro r W9 ⟨hM,hb1⟩
           obtain⟨A9,C9,E9,ok,hr,hR9⟩:=pj_join hM
           replace hr:r=.returned (.tuple #[.agg #[.slice A9 m C9,.int .i64 (E9 0).1,.int .i64 (E9 0).2,.int .i64 (E9 1).1,.int .i64 (E9 1).2,.int .i64 (E9 2).1,.int .i64 (E9 2).2,.int .i64 (E9 3).1,.int .i64 (E9 3).2,.int .i64 (E9 4).1,.int .i64 (E9 4).2,.int .i64 (E9 5).1,.int .i64 (E9 5).2,.int .i64 (E9 6).1,.int .i64 (E9 6).2],.bool ok]):=hr
           subst hr
           replace T:=hJ _ _ T hb1
           skip
           clear hb1 hM
           dsimp only
           refine hK.out _ _ (hS _ T) (fun hHeld=>?_)
           clear hK K
           refine tk (v:=?_) 7 rfl ?_ hHeld ?_;rotate_left;(focus ((intro w hSw;(try dsimp only at hSw);go_simp);try with_reducible rfl));simp only[gA,gB,gC,Act.put,gD,gE,gF];refine tk (v:=?_) 8 rfl ?_ hHeld ?_;rotate_left;(focus ((intro w hSw;(try dsimp only at hSw);go_simp);try with_reducible rfl));simp only[gA,gB,gC,Act.put,gD,gE,gF];refine tk (v:=?_) 9 rfl ?_ hHeld ?_;rotate_left;(focus ((intro w hSw;(try dsimp only at hSw);go_simp);try with_reducible rfl));simp only[gA,gB,gC,Act.put,gD,gE,gF]
           refine rd 10 rfl (fun K hK=>?_);simp only[gA,gB,gC,Act.put,gD,gE,gF];go_simp
           have TA:=T
           have hh:Below W9.heap.size W9 (W9.alloc (.cells #[.slice none 0 0,.int .i64 0,.int .i64 0,.int .i64 0,.int .i64 0,.int .i64 0,.int .i64 0,.int .i64 0,.int .i64 0,.int .i64 0,.int .i64 0,.int .i64 0,.int .i64 0,.int .i64 0,.int .i64 0] 58)):=Below.alloc (Below.refl _ _) (Nat.le_refl _) _
           have nbk:BlkAt (W9.alloc (.cells #[.slice none 0 0,.int .i64 0,.int .i64 0,.int .i64 0,.int .i64 0,.int .i64 0,.int .i64 0,.int .i64 0,.int .i64 0,.int .i64 0,.int .i64 0,.int .i64 0,.int .i64 0,.int .i64 0,.int .i64 0] 58)) W9.heap.size 58 [.slice none 0 0,.int .i64 0,.int .i64 0,.int .i64 0,.int .i64 0,.int .i64 0,.int .i64 0,.int .i64 0,.int .i64 0,.int .i64 0,.int .i64 0,.int .i64 0,.int .i64 0,.int .i64 0,.int .i64 0]:=blk_new _ _ _
           replace T:=hJ _ _ T hh
           replace hR9:=hR9.keep hh
           refine hK.out _ _ (hS _ T) (fun hHeld=>?_)
           clear hK K
           refine rd 11 rfl (fun K hK=>?_)
           refine step_storeBig (by rfl) _ _ 58 (by rfl) nbk (fmL (.slice A9 m C9) E9) (by kernel_rfl) (by rfl) (by rfl) (by rfl) (by rfl) ?_
           rintro V8 XR hs2 hB2 hk2
           have hb2:=hB2 _ _ hh (Nat.le_refl _)
           replace hR9:=hR9.other nbk hk2
           clear T
           have T:=hJ _ _ TA hb2
           obtain⟨nb2,hnb2⟩:∃nb2,nb2=W9.heap.size:=⟨_,rfl⟩
           rw [<-hnb2] at XR ⊢
           refine hK.out _ _ (hS _ T) (fun hHeld=>?_)
           clear hK K
           refine tk (v:=?_) 12 rfl ?_ hHeld ?_;rotate_left;(focus ((intro w hSw;(try dsimp only at hSw);go_simp);try with_reducible rfl));simp only[gA,gB,gC,Act.put,gD,gE,gF]
           refine wpAnyH_done (by kernel_rfl) ?_ _
           clear hb2 hB2 hk2 hs2 nbk hh hnb2 TA
           go_wp2_with fail
           go_meet
           case rel=>exact⟨nb2,A9,C9,E9,ok,rfl,rfl,T.1.2.2.1,T.1.2.2.2,XR,hR9⟩
          ·simp only[gA,gB,gC,Act.put,gD,gE,gF]
           go_simp
           have TA:=T
           have hh:Below V5.heap.size V5 (V5.alloc (.cells #[.slice none 0 0,.int .i64 0,.int .i64 0,.int .i64 0,.int .i64 0,.int .i64 0,.int .i64 0,.int .i64 0,.int .i64 0,.int .i64 0,.int .i64 0,.int .i64 0,.int .i64 0,.int .i64 0,.int .i64 0] 58)):=Below.alloc (Below.refl _ _) (Nat.le_refl _) _
           have nbk:BlkAt (V5.alloc (.cells #[.slice none 0 0,.int .i64 0,.int .i64 0,.int .i64 0,.int .i64 0,.int .i64 0,.int .i64 0,.int .i64 0,.int .i64 0,.int .i64 0,.int .i64 0,.int .i64 0,.int .i64 0,.int .i64 0,.int .i64 0] 58)) V5.heap.size 58 [.slice none 0 0,.int .i64 0,.int .i64 0,.int .i64 0,.int .i64 0,.int .i64 0,.int .i64 0,.int .i64 0,.int .i64 0,.int .i64 0,.int .i64 0,.int .i64 0,.int .i64 0,.int .i64 0,.int .i64 0]:=blk_new _ _ _
           replace T:=hJ _ _ T hh
           replace re:=re.keep hh
           refine hK.out _ _ (hS _ T) (fun hHeld=>?_)
           clear hK K
           refine rd 6 rfl (fun K hK=>?_);simp only[gA,gB,gC,Act.put,gD,gE,gF];go_simp
           go_at_call 45
           (with_reducible refine (cj _ _ _ re T.1.2.1).mono ?_)
           rintro r W9 ⟨hM,hb1⟩
           obtain⟨A9,C9,E9,ok,hr,hR9⟩:=pj_join hM
           replace hr:r=.returned (.tuple #[.agg #[.slice A9 m C9,.int .i64 (E9 0).1,.int .i64 (E9 0).2,.int .i64 (E9 1).1,.int .i64 (E9 1).2,.int .i64 (E9 2).1,.int .i64 (E9 2).2,.int .i64 (E9 3).1,.int .i64 (E9 3).2,.int .i64 (E9 4).1,.int .i64 (E9 4).2,.int .i64 (E9 5).1,.int .i64 (E9 5).2,.int .i64 (E9 6).1,.int .i64 (E9 6).2],.bool ok]):=hr
           subst hr
           replace T:=hJ _ _ T hb1
           replace hh:=later hh hb1;replace nbk:=nbk.keeps hb1
           clear hb1 hM
           dsimp only
           refine hK.out _ _ (hS _ T) (fun hHeld=>?_)
           clear hK K
           refine tk (v:=?_) 7 rfl ?_ hHeld ?_;rotate_left;(focus ((intro w hSw;(try dsimp only at hSw);go_simp);try with_reducible rfl));simp only[gA,gB,gC,Act.put,gD,gE,gF];refine tk (v:=?_) 8 rfl ?_ hHeld ?_;rotate_left;(focus ((intro w hSw;(try dsimp only at hSw);go_simp);try with_reducible rfl));simp only[gA,gB,gC,Act.put,gD,gE,gF];refine tk (v:=?_) 9 rfl ?_ hHeld ?_;rotate_left;(focus ((intro w hSw;(try dsimp only at hSw);go_simp);try with_reducible rfl));simp only[gA,gB,gC,Act.put,gD,gE,gF]
           refine rd 11 rfl (fun K hK=>?_)
           refine step_storeBig (by rfl) _ _ 58 (by rfl) nbk (fmL (.slice A9 m C9) E9) (by kernel_rfl) (by rfl) (by rfl) (by rfl) (by rfl) ?_
           rintro V8 XR hs2 hB2 hk2
           have hb2:=hB2 _ _ hh (Nat.le_refl _)
           replace hR9:=hR9.other nbk hk2
           clear T
           have T:=hJ _ _ TA hb2
           obtain⟨nb2,hnb2⟩:∃nb2,nb2=V5.heap.size:=⟨_,rfl⟩
           rw [<-hnb2] at XR ⊢
           refine hK.out _ _ (hS _ T) (fun hHeld=>?_)
           clear hK K
           refine tk (v:=?_) 12 rfl ?_ hHeld ?_;rotate_left;(focus ((intro w hSw;(try dsimp only at hSw);go_simp);try with_reducible rfl));simp only[gA,gB,gC,Act.put,gD,gE,gF]
           refine wpAnyH_done (by kernel_rfl) ?_ _
           clear hb2 hB2 hk2 hs2 nbk hh hnb2 TA
           go_wp2_with fail
           go_meet
           case rel=>exact⟨nb2,A9,C9,E9,ok,rfl,rfl,T.1.2.2.1,T.1.2.2.2,XR,hR9⟩
         ·simp only[gA,gB,gC,Act.put,gD,gE,gF]
          go_simp
          have TA:=T
          have hh:Below V4.heap.size V4 (V4.alloc (.cells #[.slice none 0 0,.int .i64 0,.int .i64 0,.int .i64 0,.int .i64 0,.int .i64 0,.int .i64 0,.int .i64 0,.int .i64 0,.int .i64 0,.int .i64 0,.int .i64 0,.int .i64 0,.int .i64 0,.int .i64 0] 58)):=Below.alloc (Below.refl _ _) (Nat.le_refl _) _
          have nbk:BlkAt (V4.alloc (.cells #[.slice none 0 0,.int .i64 0,.int .i64 0,.int .i64 0,.int .i64 0,.int .i64 0,.int .i64 0,.int .i64 0,.int .i64 0,.int .i64 0,.int .i64 0,.int .i64 0,.int .i64 0,.int .i64 0,.int .i64 0] 58)) V4.heap.size 58 [.slice none 0 0,.int .i64 0,.int .i64 0,.int .i64 0,.int .i64 0,.int .i64 0,.int .i64 0,.int .i64 0,.int .i64 0,.int .i64 0,.int .i64 0,.int .i64 0,.int .i64 0,.int .i64 0,.int .i64 0]:=blk_new _ _ _
          replace T:=hJ _ _ T hh
          skip
          refine hK.out _ _ (hS _ T) (fun hHeld=>?_)
          clear hK K
          refine rd 3 rfl (fun K hK=>?_);simp only[gA,gB,gC,Act.put,gD,gE,gF];go_simp
          go_at_call 24
          (with_reducible refine (ce _).mono ?_)
          rintro _ V5 ⟨⟨ve,rfl,Ie⟩,hb1⟩
          obtain⟨Ae,Ce,e7, -,re, -⟩:=Ie.form
          rw [List.length_replicate] at e7 re
          subst e7
          replace re:RtAt V5 Ae m (fun _=>(0,1)):=re.congr fun u hu=>by rw [List.getD_eq_getElem?_getD,List.getElem?_replicate,if_pos hu];rfl
          clear Ie
          replace T:=hJ _ _ T hb1
          replace hh:=later hh hb1;replace nbk:=nbk.keeps hb1
          clear hb1
          dsimp only
          refine hK.out _ _ (hS _ T) (fun hHeld=>?_)
          clear hK K
          refine rd 6 rfl (fun K hK=>?_);simp only[gA,gB,gC,Act.put,gD,gE,gF];go_simp
          go_at_call 45
          (with_reducible refine (cj _ _ _ re T.1.2.1).mono ?_)
          rintro r W9 ⟨hM,hb1⟩
          obtain⟨A9,C9,E9,ok,hr,hR9⟩:=pj_join hM
          replace hr:r=.returned (.tuple #[.agg #[.slice A9 m C9,.int .i64 (E9 0).1,.int .i64 (E9 0).2,.int .i64 (E9 1).1,.int .i64 (E9 1).2,.int .i64 (E9 2).1,.int .i64 (E9 2).2,.int .i64 (E9 3).1,.int .i64 (E9 3).2,.int .i64 (E9 4).1,.int .i64 (E9 4).2,.int .i64 (E9 5).1,.int .i64 (E9 5).2,.int .i64 (E9 6).1,.int .i64 (E9 6).2],.bool ok]):=hr
          subst hr
          replace T:=hJ _ _ T hb1
          replace hh:=later hh hb1;replace nbk:=nbk.keeps hb1
          clear hb1 hM
          dsimp only
          refine hK.out _ _ (hS _ T) (fun hHeld=>?_)
          clear hK K
          refine tk (v:=?_) 7 rfl ?_ hHeld ?_;rotate_left;(focus ((intro w hSw;(try dsimp only at hSw);go_simp);try with_reducible rfl));simp only[gA,gB,gC,Act.put,gD,gE,gF];refine tk (v:=?_) 8 rfl ?_ hHeld ?_;rotate_left;(focus ((intro w hSw;(try dsimp only at hSw);go_simp);try with_reducible rfl));simp only[gA,gB,gC,Act.put,gD,gE,gF];refine tk (v:=?_) 9 rfl ?_ hHeld ?_;rotate_left;(focus ((intro w hSw;(try dsimp only at hSw);go_simp);try with_reducible rfl));simp only[gA,gB,gC,Act.put,gD,gE,gF]
          refine rd 11 rfl (fun K hK=>?_)
          refine step_storeBig (by rfl) _ _ 58 (by rfl) nbk (fmL (.slice A9 m C9) E9) (by kernel_rfl) (by rfl) (by rfl) (by rfl) (by rfl) ?_
          rintro V8 XR hs2 hB2 hk2
          have hb2:=hB2 _ _ hh (Nat.le_refl _)
          replace hR9:=hR9.other nbk hk2
          clear T
          have T:=hJ _ _ TA hb2
          obtain⟨nb2,hnb2⟩:∃nb2,nb2=V4.heap.size:=⟨_,rfl⟩
          rw [<-hnb2] at XR ⊢
          refine hK.out _ _ (hS _ T) (fun hHeld=>?_)
          clear hK K
          refine tk (v:=?_) 12 rfl ?_ hHeld ?_;rotate_left;(focus ((intro w hSw;(try dsimp only at hSw);go_simp);try with_reducible rfl));simp only[gA,gB,gC,Act.put,gD,gE,gF]
          refine wpAnyH_done (by kernel_rfl) ?_ _
          clear hb2 hB2 hk2 hs2 nbk hh hnb2 TA
          go_wp2_with fail
          go_meet
          case rel=>exact⟨nb2,A9,C9,E9,ok,rfl,rfl,T.1.2.2.1,T.1.2.2.2,XR,hR9⟩
        case rest =>
        clear T ce cj
        obtain⟨nb2,A9,C9,E9,ok,rfl,rfl,KS,HB,XX,hR9⟩:=hcut
        cases TT with
        | none =>
         have hok:ok=false:=hR9
         subst hok
         have e1:Hid (R=.error 3):=by show _=_;rw [<-hall2.out,all_no HF.out hkeep.out]
         clear hall hall2 HF HFX HPc hkeep XX KS hR9
         go_wp2_with fail
         have e2:=e1.out
         subst e2
         exact bodyPost_ret (v:=.tuple #[.slice none 0 0,.int .i64 3]) (by simp [results,Try.results26,go_sem, *]) rfl ⟨rfl,HB⟩
        | some Y =>
         obtain⟨hok,hE,rY⟩:=hR9
         subst hok hE
         have hkeep2:keepO (E,((u:Int),fN,fD) :: F)=some ((u:Int),Y):=hkeep.out
         have hall3:Hid (allFrom (K++[((u:Int),Y)]) ((L.drop (i+1)).map (·.1)) (startD G D)=R):=by show _=_;rw [<-hall2.out,all_kept HF.out hkeep2]
         have hmore:Hid ((∀j,j∈K++[((u:Int),Y)]->KOk (m:Int) G j)/\(K++[((u:Int),Y)]).Pairwise (fun a b=>coF a.1 b.2.2=(0,1))):=kept_more KS.k hKp HFX.out.2.1 HFX.out.2.2 HF.out hkeep2
         have hKe:=KS.e
         have hlK:Hid (KV.length<=100000):=by show _<=_;have:=hKV.out;omega
         have hlK2:Hid ((K.map (·.1)).length<=2000000):=by show _<=_;rw [List.length_map];omega
         replace hKe:Hid (KV.map (·.1)=K.map (·.2)):=hKe
         replace hKp:Hid (K.Pairwise (fun a b=>coF a.1 b.2.2=(0,1))):=hKp
         clear hall hall2 HF HFX HPc hkeep hkeep2
         go_upto_region 30 with (first
          | (refine wpList_loadBig (by rfl) _ 58 (by rfl) Try.underlying58 (fmL (.slice A9 m C9) Y.1) (by kernel_rfl) (by rfl) (XX.cell0) (fm_valU _ _) ?_)
          | (at_builtin;refine wpList_catFr (B:=w.heap.size) (n:=m) (by rfl) _ _ (by rfl) _ KV (Y,.slice A9 m C9) _ (by rfl) (by rfl) (KS.f.keep (by go_grown)) (blk_new _ _ _) (FvOk.one (rY.keep (by go_grown))) hlK.out (by have:=HB.size;rw [World.size_alloc];omega) ?_;intro v8 w8 I8 hb8 hk8 hs8))
         obtain⟨Wg,hWg⟩:∃Wg,Wg=wc.alloc (.cells (fmL (.slice A9 m C9) Y.1).toArray 58):=⟨_,rfl⟩
         have hgw:Below wc.heap.size wc Wg:=by rw [hWg];exact Below.alloc (Below.refl _ _) (Nat.le_refl _) _
         replace hk8:∀b T cs,T≠58->BlkAt Wg b T cs->BlkAt w8 b T cs:=by rw [hWg];exact hk8
         replace hb8:Below w.heap.size Wg w8:=by rw [hWg];exact hb8
         have n8:OwnN w.heap.size w8 (.slice A5 K.length C5) (K.map (·.1)):=own_all (own_keep KS.n hgw) (fun b cs=>hk8 b _ cs (by decide))
         have o8:FvOk w8 m KV:=(KS.o.keep hgw).all (fun b cs=>hk8 b _ cs (by decide))
         have y8:FvOk w8 m [(Y,.slice A9 m C9)]:=(FvOk.one (rY.keep hgw)).all (fun b cs=>hk8 b _ cs (by decide))
         have HB8:Below w.heap.size w w8:=(later HB hgw).trans hb8
         clear hWg hgw hk8 hb8 hs8 KS rY XX
         go_wp2_with (at_builtin;refine wpList_pushNk (B:=w.heap.size) (w0:=w) (by rfl) _ _ (by rfl) _ (K.map (·.1)) (u:Int) (by rfl) (by rfl) n8 hlK2.out HB8.size HB8 ?_;intro v9 w9 I9 hb9 hk9)
         have KS9:KSt w.heap.size m G v8 v9 (KV++[(Y,.slice A9 m C9)]) (K++[((u:Int),Y)]) w9:=⟨own_all I8 (fun b cs=>hk9 b _ cs (by decide)),by rw [List.map_append];exact I9,by rw [List.map_append,List.map_append,hKe.out];rfl,fun z hz=>(List.mem_append.1 hz).elim (o8.all (fun b cs=>hk9 b _ cs (by decide)) z) (y8.all (fun b cs=>hk9 b _ cs (by decide)) z),hmore.out.1⟩
         go_roundg (L.length-i-1)
         case measure=>omega
         case rel=>exact⟨i+1,_,_,by omega,by go_num,KS9,by rw [List.length_append];show K.length+1<=i+1;omega,hmore.out.2,hb9,hall3⟩
      ·obtain⟨t,rfl⟩:∃t:Nat,z=(t:Int):=⟨z.toNat,by omega⟩
       have hz0:(0:Int)<=(t:Int):=by omega
       have htm:t<m:=by omega
       have htl:(t:Int)<(m:Int):=by omega
       obtain⟨ba,hba,hbal,a0, -⟩:=rc.at htm
       subst hba
       have hst:lowD (fun v=>coF (v:Int) Rc.2) (m-(d+1)) (d+1)=if (coF (t:Int) Rc.2).1=0 then lowD (fun v=>coF (v:Int) Rc.2) (m-d) d else (t:Int):=by
        rw [show m-(d+1)=t by omega,lowD,show t+1=m-d by omega]
       have HZ:Hid ((t:Int)=(m:Int)-1-(d:Int)):=hz
       try dsimp only at a0
       obtain⟨lo,hlo⟩:∃lo,Hid (lowD (fun v=>coF (v:Int) Rc.2) (m-d) d=lo):=⟨_,rfl⟩
       obtain⟨eN,heN⟩:∃eN,Hid ((coF (t:Int) Rc.2).1=eN):=⟨_,rfl⟩
       rw [hlo.out,heN.out] at hst
       rw [hlo.out]
       rw [heN.out] at a0
       clear hz
       by_cases cz:eN=0
       ·subst cz
        have hst2:Hid (lowD (fun v=>coF (v:Int) Rc.2) (m-(d+1)) (d+1)=lo):=hst
        clear hst
        go_wp2_with fail
        go_roundg (m-d-1)
        case measure=>omega
        case rel=>exact⟨d+1,(t:Int)-1,by omega,by have:=HZ.out;omega,by first | rfl | go_num,by rw [hst2.out],rfl⟩
       ·have cz2:(eN==0)=false:=beq_eq_false_iff_ne.2 cz
        have cz3:(eN != 0)=true:=bne_iff_ne.2 cz
        rw [if_neg cz] at hst
        have hst2:Hid (lowD (fun v=>coF (v:Int) Rc.2) (m-(d+1)) (d+1)=(t:Int)):=hst
        clear hst
        go_wp2_with fail
        go_roundg (m-d-1)
        case measure=>omega
        case rel=>exact⟨d+1,(t:Int)-1,by omega,by have:=HZ.out;omega,by first | rfl | go_num,by rw [hst2.out],rfl⟩
    ·have hjn:j<KV.length:=by omega
     have hjK:j<K.length:=by have:=hKV.out;omega
     have hjK2:(j:Int)<(K.length:Int):=by omega
     have hjl:(j:Int)<(KV.length:Int):=by omega
     obtain⟨y,hy⟩:∃y,KV[j]?=some y:=⟨KV[j],List.getElem?_eq_getElem hjn⟩
     obtain⟨kk,hkk⟩:∃kk,K[j]?=some kk:=⟨K[j]'(by omega),List.getElem?_eq_getElem _⟩
     have eyk:y.1=kk.2:=by
      have q:=congrArg (fun l=>l[j]?) KS.e
      simp only [List.getElem?_map,hy,hkk,Option.map_some] at q
      injection q
     have KO:=KS.k kk (List.mem_of_getElem? hkk)
     obtain⟨A4',C4',e4', -,VK⟩:=KS.f.form
     obtain⟨A5',C5',e5',VO⟩:=own_insK KS.n
     have eA4:A4=A4':=by injection e4'
     have eA5:A5=A5':=by injection e5'
     subst eA4 eA5
     clear e4' e5'
     obtain⟨b4,hA4,hb4,yc⟩:=VK j y hy
     obtain⟨Ay,Cy,ey,ry⟩:=KS.o y (List.mem_of_getElem? hy)
     rw [ey,eyk] at yc
     rw [eyk] at ry
     obtain⟨b5,o5,hA5,hb5,oc⟩:=VO j (by rw [List.length_map];omega)
     obtain⟨u,hu⟩:∃u:Nat,kk.1=(u:Int):=⟨kk.1.toNat,by have:=KO.l;omega⟩
     have hum:u<m:=by have:=KO.h;omega
     dsimp only at oc
     rw [show (K.map (·.1)).getD j 0=(u:Int) by rw [List.getD_eq_getElem?_getD,List.getElem?_map,hkk];exact hu] at oc
     obtain⟨ba,hba,hbal,a0,a1⟩:=rc.at hum
     subst hA4 hA5 hba
     have HKO:Hid (KOk (m:Int) G kk):=KO
     have HPc:Hid (POk (m:Int) Rc/\FG G Rc.2):=⟨hPc,hGc⟩
     have hstep:Hid (freedF Rc (K.drop j)=if coF (u:Int) Rc.2=(0,1) then freedF Rc (K.drop (j+1)) else (timesP Rc kk.2 (negR (coF (u:Int) Rc.2))).bind fun Y=>freedF Y (K.drop (j+1))):=by
      show _=_
      rw [List.drop_eq_getElem_cons (by omega:j<K.length),show K[j]'(by omega)=kk by have:=List.getElem?_eq_getElem (l:=K) (i:=j) (by omega);rw [hkk] at this;injection this with this;exact this.symm]
      rw [freedF,hu]
     replace hkk:Hid (K[j]?=some kk):=hkk
     replace hy:Hid (KV[j]?=some y):=hy
     replace yc:Hid (∀q v,(fmL (.slice Ay m Cy) kk.2.1)[q]?=some v->wr.cell? ⟨b4,j*15+q,none⟩=some v):=yc
     clear eyk ey hu KO hPc hGc VK VO hjK
     have hum2:(u:Int)<(m:Int):=by omega
     go_upto_region 9 with (first
      | (refine wpList_loadBig (by rfl) _ 58 (by rfl) Try.underlying58 (fmL (.slice Ay m Cy) kk.2.1) (by kernel_rfl) (by rfl) (yc.out) (fm_val _ _) ?_)
      | (refine wpList_storeBig (by rfl) _ _ 58 (by rfl) (blk_new _ _ _) (fmL (.slice Ay m Cy) kk.2.1) (by kernel_rfl) (by rfl) (by rfl) (by rfl) (by rfl) ?_;rintro V2 XR hs2 hB2 hk2))
     have grw:Below wr.heap.size wr V2:=hB2 _ _ (Below.alloc (Below.refl _ _) (Nat.le_refl _) _) (Nat.le_refl _)
     have XY:=XR
     obtain⟨yb,hyb⟩:∃yb,yb=wr.heap.size:=⟨_,rfl⟩
     rw [<-hyb] at XY ⊢
     have hxy:xb<yb:=by rw [hyb];exact XB.lt
     replace XB:=XB.keeps grw
     replace rc:=rc.keep grw
     replace KS:=KS.keep grw
     replace HB:=later HB grw
     replace ry:=ry.keep grw
     replace oc:=keepsC grw oc hb5
     replace a0:=keepsC grw a0 hbal
     replace a1:=keepsC grw a1 hbal
     replace hb5:=Nat.lt_of_lt_of_le hb5 grw.size
     replace hbal:=Nat.lt_of_lt_of_le hbal grw.size
     obtain⟨e,he⟩:∃e,Hid (coF (u:Int) Rc.2=e):=⟨_,rfl⟩
     rw [he.out] at a0 a1 hstep
     have hS:∀W,Below V2.heap.size V2 W->(fun W=>W.cell? ⟨xb,0,none⟩=some (.slice (some ⟨ba,0,none⟩) m Cc)/\W.cell? ⟨b5,o5+j,none⟩=some (.int .i64 (u:Int))/\W.cell? ⟨ba,u*2,none⟩=some (.int .i64 e.1)/\W.cell? ⟨ba,u*2+1,none⟩=some (.int .i64 e.2)) W:=fun W h=>⟨(XB.keeps h).cell 0 _ rfl,keepsC h oc hb5,keepsC h a0 hbal,keepsC h a1 hbal⟩
     have hdr:Below V2.heap.size V2 V2.drew:=(Below.refl _ _).drew
     clear hB2 hk2 hs2 grw XR yc hyb
     refine wp_region_held_drew (S:=fun W=>W.cell? ⟨xb,0,none⟩=some (.slice (some ⟨ba,0,none⟩) m Cc)/\W.cell? ⟨b5,o5+j,none⟩=some (.int .i64 (u:Int))/\W.cell? ⟨ba,u*2,none⟩=some (.int .i64 e.1)/\W.cell? ⟨ba,u*2+1,none⟩=some (.int .i64 e.2)) (by kernel_rfl) (hS _ hdr) (fun hHeld=>?_)
     clear oc a0 a1
     generalize V2.drew=V4 at *
     refine tk (v:=?_) 0 rfl ?_ hHeld ?_;rotate_left;(focus ((intro w hSw;(try dsimp only at hSw);go_simp);try with_reducible rfl));simp only[gA,gB,Act.put,gD,gE,gF];refine tk (v:=?_) 1 rfl ?_ hHeld ?_;rotate_left;(focus ((intro w hSw;(try dsimp only at hSw);go_simp);try with_reducible rfl));simp only[gA,gB,gC,Act.put,gD,gE,gF];refine tk (v:=?_) 2 rfl ?_ hHeld ?_;rotate_left;(focus ((intro w hSw;(try dsimp only at hSw);go_simp);try with_reducible rfl));simp only[gA,gB,gC,Act.put,gD,gE,gF];refine tk (v:=?_) 3 rfl ?_ hHeld ?_;rotate_left;(focus ((intro w hSw;(try dsimp only at hSw);go_simp);try with_reducible rfl));simp only[gA,gB,gC,Act.put,gD,gE,gF];refine tk (v:=?_) 4 rfl ?_ hHeld ?_;rotate_left;(focus ((intro w hSw;(try dsimp only at hSw);go_simp);try with_reducible rfl));simp only[gA,gB,gC,Act.put,gD,gE,gF];refine tk (v:=?_) 5 rfl ?_ hHeld ?_;rotate_left;(focus ((intro w hSw;(try dsimp only at hSw);go_simp);try with_reducible rfl));simp only[gA,gB,gC,Act.put,gD,gE,gF];refine tk (v:=?_) 6 rfl ?_ hHeld ?_;rotate_left;(focus ((intro w hSw;(try dsimp only at hSw);go_simp);try with_reducible rfl));simp only[gA,gB,gC,Act.put,gD,gE,gF];refine tk (v:=?_) 7 rfl ?_ hHeld ?_;rotate_left;(focus ((intro w hSw;(try dsimp only at hSw);go_simp);try with_reducible rfl));simp only[gA,gB,gC,Act.put,gD,gE,gF]
     refine rd 8 rfl (fun K hK=>?_);simp only[gA,gB,gC,Act.put,gD,gE,gF];go_simp
     have hg:Below V2.heap.size V2 (V4.alloc (.cells #[.int .i64 0,.int .i64 0] 27)):=later hdr (Below.alloc (Below.refl _ _) (Nat.le_refl _) _)
     have nb:BlkAt (V4.alloc (.cells #[.int .i64 0,.int .i64 0] 27)) V4.heap.size 27 [.int .i64 0,.int .i64 0]:=blk_new _ _ _
     refine hK.out _ _ (hS _ hg) (fun hHeld=>?_)
     clear hK K
     refine rd 9 rfl (fun K hK=>?_)
     refine step_storeBig (by rfl) _ _ 27 (by rfl) nb [.int .i64 e.1,.int .i64 e.2] (by kernel_rfl) (by rfl) (by rfl) (by rfl) (by rfl) ?_
     rintro V5 XE hs2 hB2 -
     have hb2:Below V2.heap.size V2 V5:=hB2 _ _ hg hdr.size
     obtain⟨eb,heb⟩:∃eb,eb=V4.heap.size:=⟨_,rfl⟩
     rw [<-heb] at XE ⊢
     refine hK.out _ _ (hS _ hb2) (fun hHeld=>?_)
     clear hK K
     refine wpAnyH_done (by kernel_rfl) ?_ _
     replace XB:=XB.keeps hb2
     replace XY:=XY.keeps hb2
     replace rc:=rc.keep hb2
     replace ry:=ry.keep hb2
     replace KS:=KS.keep hb2
     replace HB:=later HB hb2
     clear hS hb2 hB2 hs2 hg nb hdr heb hb5 hbal hHeld
     have z0:=XE.cell 0 _ rfl
     have z1:=XE.cell 1 _ rfl
     by_cases ce:e=(0,1)
     ·have hnext:Hid (freedF Rc (K.drop (j+1))=FR):=by show _=_;rw [<-hFR.out,hstep.out,if_pos ce]
      have z0':V5.cell? ⟨eb,0,none⟩=some (.int .i64 0):=by rw [z0,ce]
      clear hstep hFR z0 z1 ce
      go_wp2_with fail
      go_roundg (KV.length-j-1)
      case measure=>omega
      case rel=>exact⟨j+1,Rc,some ⟨ba,0,none⟩,Cc,by omega,by go_num,XB,rc,HPc.out.1,HPc.out.2,KS,HB,hnext⟩
     ·have hRe:ROk e:=by rw [<-he.out];exact coF_ok HPc.out.1.f
      have hn0:e.1≠0:=fun h=>ce ((n0_iff hRe).1 h)
      have ze:(e.1==0)=false:=beq_eq_false_iff_ne.2 hn0
      have hRn:=(rok_neg hRe).1
      have hwr:Hid (-e.1=wrap64 (-e.1)):=by
       have q1:-9223372036854775808<=-e.1/\-e.1<=9223372036854775807:=hRn.2.1
       show _=_
       rw [<-IntWalk.i64_left,IntKind.wrap_i64]
       omega
      obtain⟨TT,hTT⟩:∃TT,Hid (timesP Rc kk.2 (negR e)=TT):=⟨_,rfl⟩
      have cj:∀W,RtAt W (some ⟨ba,0,none⟩) m (fun u=>coF (u:Int) Rc.2)->RtAt W Ay m (fun u=>coF (u:Int) kk.2.2)->Calls Try.prog 45 #[fmV (.slice (some ⟨ba,0,none⟩) m Cc) Rc.1,fmV (.slice Ay m Cy) kk.2.1,.agg #[.int .i64 (-e.1),.int .i64 e.2]] W fun r w'=>PjAns r w' m TT/\Below W.heap.size W w':=fun W h1 h2=>by
       rw [<-hTT.out]
       exact fjoin_w m hm Rc kk.2 (negR e) HPc.out.1 HKO.out.p HKO.out.g hRn _ Ay Cc Cy W h1 h2
      rw [hwr.out] at cj
      have hT2:Hid (TT.bind (fun Y=>freedF Y (K.drop (j+1)))=FR):=by show _=_;rw [<-hFR.out,hstep.out,if_neg ce,hTT.out]
      have hRn2:Hid (ROk (negR e)):=hRn
      clear hstep hFR ce hn0 hRe hRn hwr
      go_upto_region 12 with (first
       | (refine wpList_loadBig (by rfl) _ 58 (by rfl) Try.underlying58 (fmL (.slice (some ⟨ba,0,none⟩) m Cc) Rc.1) (by kernel_rfl) (by rfl) (XB.cell0) (fm_val _ _) ?_)
       | (refine wpList_loadBig (by rfl) _ 58 (by rfl) Try.underlying58 (fmL (.slice Ay m Cy) kk.2.1) (by kernel_rfl) (by rfl) (XY.cell0) (fm_val _ _) ?_)
       | (go_at_call 45;(with_reducible refine (cj _ rc ry).mono ?_);rintro r W9 ⟨hM,hb1⟩;obtain⟨A9,C9,E9,ok,hr,hJ⟩:=pj_join hM;subst hr;replace XB:=XB.keeps hb1;replace KS:=KS.keep hb1;replace HB:=later HB hb1;clear hb1 hM)
       | (refine wpList_storeBig (by rfl) _ _ 58 (by rfl) (blk_new _ _ _) (fmL (.slice A9 m C9) E9) (by kernel_rfl) (by rfl) (by rfl) (by rfl) (by rfl) ?_;rintro V9 XR hs2 hB2 hk2))
      have grw:Below W9.heap.size W9 V9:=hB2 _ _ (Below.alloc (Below.refl _ _) (Nat.le_refl _) _) (Nat.le_refl _)
      have XJ:=XR
      obtain⟨jb,hjb⟩:∃jb,jb=W9.heap.size:=⟨_,rfl⟩
      have hxj:xb<jb:=by rw [hjb];exact XB.lt
      rw [<-hjb] at XJ ⊢
      replace XB:=XB.keeps grw
      replace KS:=KS.keep grw
      replace HB:=later HB grw
      replace hJ:=hJ.keep grw
      clear hB2 hk2 hs2 grw XR hjb cj XE XY rc ry z0 z1
      cases TT with
      | none =>
       have hok:ok=false:=hJ
       subst hok
       have e3:Hid (R=.error 3):=hN.out hT2.out.symm
       clear hall hT2 hTT hN
       go_wp2_with fail
       have e2:=e3.out
       subst e2
       exact bodyPost_ret (v:=.tuple #[.slice none 0 0,.int .i64 3]) (by simp [results,Try.results26,go_sem, *]) rfl ⟨rfl,HB⟩
      | some Y =>
       obtain⟨hok,hE,rY⟩:=hJ
       subst hok hE
       have pY:Hid (POk (m:Int) Y/\FG G Y.2):=⟨(timesP_some HPc.out.1 HKO.out.p hRn2.out hTT.out).1,timesP_fg HPc.out.2 HKO.out.g hTT.out⟩
       have hnext:Hid (freedF Y (K.drop (j+1))=FR):=hT2.out
       clear hT2 hTT
       go_wp2_with (first
        | (refine wpList_loadBig (by rfl) _ 58 (by rfl) Try.underlying58 (fmL (.slice A9 m C9) Y.1) (by kernel_rfl) (by rfl) (XJ.cell0) (fm_val _ _) ?_)
        | (refine wpList_storeBig (by rfl) _ _ 58 (by rfl) (XB) (fmL (.slice A9 m C9) Y.1) (by kernel_rfl) (by rfl) (by rfl) (by rfl) (by rfl) ?_;rintro V11 XR hs2 hB2 hk2))
       go_roundg (KV.length-j-1)
       case measure=>omega
       case rel=>exact⟨j+1,Y,A9,C9,by omega,by go_num,XR,rY.other XB (by decide) hk2,pY.out.1,pY.out.2,KS.off XB hap hk2,hB2 _ _ HB hxl,hnext⟩
end Go.Proofs.Ytbejmklkicoibaa
