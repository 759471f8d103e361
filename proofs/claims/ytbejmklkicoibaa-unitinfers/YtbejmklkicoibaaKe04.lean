/- The reference's whole numbers of any length: how one lies in memory; the walks of trim and Of. The walks of the reference's Cmp and Bits. The reference's Plus and Less: a digit appended; the walks. The walk of the reference's Less. The walk of the reference's Left. The walk of the reference's By. -/
import Derived.Test.YtbejmklkicoibaaKe02
import Derived.Test.YtbejmklkicoibaaKe03
import Derived.Deep.LoopGhost
import Derived.Handy
import Derived.BigQuiet
namespace Go.Proofs.Ytbejmklkicoibaa
open Go.ChangeShapes Go.WideShapes Go.ChangeAt Go.RowKit
def u32s (ds:List Nat):List Value:=ds.map fun (d:Nat)=>Value.int .u32 (d:Int)
def Row (w:World) (v:Value) (ds:List Nat):Prop:=w.ownsRow 0 122 1 v ds.length (u32s ds)
def BigIs (w:World) (v:Value) (n:Nat):Prop:=∃ds,Digs ds/\Trimmed ds/\natOf ds=n/\Row w v ds
theorem Try.info32:(Try.prog.info? 122).map (fun i=>(i.zero,i.size,i.bytes))=some (some (.int .u32 0),1,4):=by kernel_rfl
theorem Row.keep {w w':World} {v:Value} {ds:List Nat} (h:Row w v ds) (hb:Below w.heap.size w w'):Row w' v ds:=by
 refine⟨h.1, ?_⟩
 rcases h.2 with hn | ⟨g,cap,cur,rfl,hb2,hgg,rest⟩
 ·exact .inl hn
 ·refine .inr ⟨g,cap,cur,rfl,hb2, ?_,rest⟩
  rw [hb.block g (Array.getElem?_eq_some_iff.1 hgg).1]
  exact hgg
theorem BigIs.keep {w w':World} {v:Value} {n:Nat} (h:BigIs w v n) (hb:Below w.heap.size w w'):BigIs w' v n:=by
 obtain⟨ds,h1,h2,h3,h4⟩:=h
 exact⟨ds,h1,h2,h3,h4.keep hb⟩
theorem Row.form {w:World} {v:Value} {ds:List Nat} (h:Row w v ds) :
  (v=.slice none 0 0/\ds=[])\/∃g cap,v=.slice (some ⟨g,0,none⟩) ds.length cap/\ds.length<=cap/\cap<=maxLen/\g<w.heap.size /\
   ∀j,j<ds.length->w.cell? ⟨g,j,none⟩=some (.int .u32 (ds.getD j 0:Int)):=by
 rcases h.2 with ⟨hv,h0⟩ | ⟨g,cap,cur,hv,hb2,hgg,hc1,hc2,hsz,htk⟩
 ·exact .inl ⟨hv,List.eq_nil_of_length_eq_zero h0⟩
 ·refine .inr ⟨g,cap,hv,hc1,hc2,(Array.getElem?_eq_some_iff.1 hgg).1,fun j hj=>?_⟩
  have hu:(u32s ds)[j]?=some (.int .u32 (ds.getD j 0:Int)):=by
   unfold u32s
   rw [List.getElem?_map,List.getElem?_eq_getElem hj,List.getD_eq_getElem?_getD,List.getElem?_eq_getElem hj];rfl
  have:=World.ownsRow.cells h (g:=g) (by rw [hv];rfl) j _ hu
  have hadd:(⟨g,0,none⟩:Addr).add j=⟨g,j,none⟩:=by unfold Addr.add;split <;> simp_all
  rw [hadd] at this
  exact this
theorem Row.cut {w:World} {g cap:Nat} {ds:List Nat} (h:Row w (.slice (some ⟨g,0,none⟩) ds.length cap) ds) {k:Nat} (hk:k<=ds.length):Row w (.slice (some ⟨g,0,none⟩) k cap) (ds.take k):=by
 rcases h.2 with ⟨hv,h0⟩ | ⟨g',cap',cur,hv,hb2,hgg,hc1,hc2,hsz,htk⟩
 ·cases hv
 ·cases hv
  have hl:(ds.take k).length=k:=by rw [List.length_take,Nat.min_eq_left hk]
  refine⟨by simp [u32s],.inr ⟨g,cap,cur,by rw [hl],hb2,hgg,by omega,hc2,hsz, ?_⟩⟩
  rw [hl,Nat.mul_one]
  rw [Nat.mul_one] at htk
  have:cur.toList.take k=(cur.toList.take ds.length).take k:=by rw [List.take_take,Nat.min_eq_left hk]
  rw [this,htk]
  simp [u32s,List.map_take]
set_option maxHeartbeats 800000 in
theorem trim_w (v:Value) (ds:List Nat) (hd:Digs ds) (hl:ds.length<=1000000) (w:World) (h:Row w v ds) :
  Calls Try.prog 90 #[v] w fun e w'=>(∃v',e=.returned v'/\BigIs w v' (natOf ds))/\w=w':=by
 rcases h.form with ⟨rfl,rfl⟩ | ⟨g,cap,rfl,hc1,hc2,hg,hc⟩
 ·go_enter Try.func90,Try.ntmps90
  go_wp2
  refine wp_loop_rounds 1 ?_
  rw [rounds_succ]
  go_wp2
  go_ret
  exact⟨⟨_,rfl,[],Digs.nil,trimmed_nil,rfl,h⟩,rfl⟩
 ·go_enter Try.func90,Try.ntmps90
  go_wp2
  go_loopg [0] ds.length (fun G s wx=>w=wx/\∃k:Nat,k<=ds.length/\k<=G/\s=.slice (some ⟨g,0,none⟩) k cap/\natOf (ds.take k)=natOf ds)
  case atStart=>exact⟨rfl,ds.length,Nat.le_refl _,Nat.le_refl _,rfl,natOf_take_ge ds (Nat.le_refl _)⟩
  case round =>
   obtain⟨rfl,k,hk,hkG,rfl,hn⟩:=hrel
   rcases Nat.eq_zero_or_pos k with rfl | hk0
   ·go_wp2
    go_ret
    exact⟨⟨_,rfl,[],Digs.nil,trimmed_nil,by rw [<-hn];rfl,h.cut hk⟩,rfl⟩
   ·obtain⟨j,rfl⟩:∃j,k=j+1:=⟨k-1,by omega⟩
    have hcell:=hc j (by omega)
    have hdl:=hd.getD j
    have h1:((j:Int)+1)-1=(j:Int):=by omega
    by_cases hz:ds.getD j 0=0
    ·rw [hz] at hcell
     go_wp2
     go_roundg j
     case measure=>omega
     case rel=>exact⟨rfl,j,by omega,Nat.le_refl _,rfl,(trim_step ds (by omega) hz).trans hn⟩
    ·have HT:=trim_end ds (by omega) hz
     generalize ds.getD j 0=D at *
     have hz2:((D:Int)==0)=false:=by rw [beq_eq_false_iff_ne];omega
     go_wp2
     go_ret
     exact⟨⟨_,rfl,_,hd.take _,HT,hn,h.cut hk⟩,rfl⟩
theorem Row.made {w:World} {g cap:Nat} {cur:Array Value} {ds:List Nat} (hgg:w.heap[g]?=some (.cells cur 122 (0,0))) (hc1:ds.length<=cap) (hc2:cap<=maxLen) (hsz:cur.size=cap) (htk:cur.toList.take ds.length=u32s ds):Row w (.slice (some ⟨g,0,none⟩) ds.length cap) ds :=
 ⟨by simp [u32s],.inr ⟨g,cap,cur,rfl,Nat.zero_le _,hgg,hc1,hc2,by omega,by simpa using htk⟩⟩
set_option maxHeartbeats 800000 in
theorem of_w (n:Nat) (hn:n<18446744073709551616) (w:World) :
  Calls Try.prog 84 #[.int .u64 n] w fun e w'=>(∃v',e=.returned v'/\BigIs w' v' n)/\Below w.heap.size w w':=by
 have e1:∃a:Nat,IntKind.u32.wrap (n:Int)=(a:Int)/\a=n%4294967296:=⟨n%4294967296,by simp [IntKind.wrap,IntKind.bits,IntKind.signed],rfl⟩
 have e2:∃a:Nat,(n:Int)/4294967296=(a:Int)/\a=n/4294967296:=⟨n/4294967296,by omega,rfl⟩
 obtain⟨a,e1,ha⟩:=e1
 obtain⟨b,e2,hb⟩:=e2
 have hab:natOf [a,b]=n:=by simp [natOf];omega
 have hd:Digs [a,b]:=fun d hd=>by simp at hd;omega
 clear ha hb
 go_enter Try.func84,Try.ntmps84
 have hr:Row (w.alloc (.cells #[.int .u32 a,.int .u32 b] 122)) (.slice (some ⟨w.heap.size,0,none⟩) 2 2) [a,b]:=Row.made (heap_alloc_new w _) (by simp) (by unfold maxLen;simp) (by simp) (by simp [u32s])
 go_wp2_with (go_at_call 90;refine (trim_w _ [a,b] hd (by simp) _ hr).mono ?_;rintro _ _ ⟨⟨v,rfl,hv⟩,rfl⟩)
 rw [hab] at hv
 go_ret
 exact⟨⟨_,rfl,hv⟩,by go_grown⟩
def cmpN (m n:Nat):Int:=if m<n then -1 else if n<m then 1 else 0
theorem Row.open_ {w:World} {v:Value} {ds:List Nat} (h:Row w v ds) :
  ∃ao cap,v=.slice ao ds.length cap/\(ds.length≠0->∃g,ao=some ⟨g,0,none⟩/\g<w.heap.size/\∀j,j<ds.length->w.cell? ⟨g,j,none⟩=some (.int .u32 (ds.getD j 0:Int))):=by
 rcases h.form with ⟨rfl,rfl⟩ | ⟨g,cap,rfl,h1,h2,h3,h4⟩
 ·exact⟨none,0,rfl,fun h=>by simp at h⟩
 ·exact⟨_,cap,rfl,fun _=>⟨g,rfl,h3,h4⟩⟩
theorem cmpN_lt {m n:Nat} (h:m<n):cmpN m n=-1:=by unfold cmpN;rw [if_pos h]
theorem cmpN_gt {m n:Nat} (h:n<m):cmpN m n=1:=by unfold cmpN;rw [if_neg (by omega),if_pos h]
theorem cmpN_eq {m n:Nat} (h:m=n):cmpN m n=0:=by unfold cmpN;rw [if_neg (by omega),if_neg (by omega)]
set_option maxHeartbeats 1600000 in
theorem cmp_w (va vb:Value) (m n K:Nat) (hK:K<=1000000) (hm:m<2^K) (hn:n<2^K) (w:World) (ha:BigIs w va m) (hb:BigIs w vb n) :
  Calls Try.prog 66 #[va,vb] w fun e w'=>e=.returned (.int .i64 (cmpN m n))/\Below w.heap.size w w':=by
 obtain⟨ds,d1,d2,rfl,hra⟩:=ha
 obtain⟨es,e1,e2,rfl,hrb⟩:=hb
 have l1:=d2.len hm
 have l2:=e2.len hn
 clear hm hn
 obtain⟨ao,ca,rfl,hca⟩:=hra.open_
 obtain⟨bo,cb,rfl,hcb⟩:=hrb.open_
 rcases Nat.lt_trichotomy ds.length es.length with hl | hl | hl
 ·rw [cmpN_lt (natOf_lt_of_len d1 e2 hl)]
  have hne:((ds.length:Int)==(es.length:Int))=false:=by rw [beq_eq_false_iff_ne];omega
  go_enter Try.func66,Try.ntmps66
  go_wp2
  go_ret
  exact⟨rfl,Below.refl _ _⟩
 ·go_enter Try.func66,Try.ntmps66
  go_wp2
  go_loopg [5] ds.length (fun G s wx=>Below w.heap.size w wx/\∃k:Nat,k<=ds.length/\k<=G/\s=.int .i64 ((k:Int)-1)/\ds.drop k=es.drop k)
  case atStart=>exact⟨Below.refl _ _,ds.length,Nat.le_refl _,Nat.le_refl _,by go_num,by rw [List.drop_of_length_le (Nat.le_refl _),List.drop_of_length_le (by omega)]⟩
  case round =>
   obtain⟨hB,k,hk,hkG,rfl,hn⟩:=hrel
   rcases Nat.eq_zero_or_pos k with rfl | hk0
   ·have:ds=es:=by simpa using hn
    subst this
    go_wp2
    go_ret
    exact⟨by rw [cmpN_eq rfl];rfl,hB⟩
   ·obtain⟨j,rfl⟩:∃j,k=j+1:=⟨k-1,by omega⟩
    obtain⟨g,rfl,hg,hc⟩:=hca (by omega)
    obtain⟨f,rfl,hf,hc2⟩:=hcb (by omega)
    have hcj:=hc j (by omega)
    have hcj2:=hc2 j (by omega)
    have c1:=(hB.cell (by exact hg)).trans hcj
    have c2:=(hB.cell (by exact hf)).trans hcj2
    have hlt:=natOf_lt_at d1 (k:=j) (by omega) hl hn
    have hgt:=natOf_lt_at e1 (k:=j) (b:=ds) (by omega) hl.symm hn.symm
    have hst:=drop_eq_step (k:=j) (by omega) hl hn
    have hdl:=d1.getD j
    have hel:=e1.getD j
    generalize ds.getD j 0=D at *
    generalize es.getD j 0=E at *
    have h1:((j:Int)+1)-1=(j:Int):=by omega
    rcases Nat.lt_trichotomy D E with c | c | c
    ·have hr:=cmpN_lt (hlt c)
     clear hlt hgt hst hc hc2
     go_wp2_with fail
     go_quiet (fail)
     go_wp2
     go_ret
     exact⟨by rw [hr];rfl,below_drewN hB _⟩
    ·have hr:=hst c
     clear hlt hgt hst hc hc2
     subst c
     go_wp2_with fail
     go_quiet (fail)
     go_wp2_with fail
     replace hB:=below_drewN hB nq
     have c1':=(hB.cell (by exact hg)).trans hcj
     have c2':=(hB.cell (by exact hf)).trans hcj2
     clear c1 c2
     generalize wr.drewN nq=wq at *
     go_quiet (fail)
     go_wp2_with fail
     go_roundg j
     case measure=>omega
     case rel=>exact⟨below_drewN hB _,j,by omega,Nat.le_refl _,rfl,hr⟩
    ·have hr:=cmpN_gt (hgt c)
     clear hlt hgt hst hc hc2
     go_wp2_with fail
     go_quiet (fail)
     go_wp2_with fail
     replace hB:=below_drewN hB nq
     have c1':=(hB.cell (by exact hg)).trans hcj
     have c2':=(hB.cell (by exact hf)).trans hcj2
     clear c1 c2
     generalize wr.drewN nq=wq at *
     go_quiet (fail)
     go_wp2_with fail
     go_ret
     exact⟨by rw [hr];rfl,below_drewN hB _⟩
 ·have hr:=cmpN_gt (natOf_lt_of_len e1 d2 hl)
  have hne:((ds.length:Int)==(es.length:Int))=false:=by rw [beq_eq_false_iff_ne];omega
  go_enter Try.func66,Try.ntmps66
  go_wp2
  go_ret
  exact⟨by rw [hr];rfl,Below.refl _ _⟩
def bitsN (n:Nat):Nat:=if n=0 then 0 else n.log2+1
theorem bitsN_of {n b:Nat} (h1:2^b<=n) (h2:n<2^(b+1)):bitsN n=b+1:=by
 have h0:n≠0:=by have:=Nat.two_pow_pos b;omega
 have a:=(Nat.le_log2 h0).2 h1
 have c:=(Nat.log2_lt h0).2 h2
 unfold bitsN
 rw [if_neg h0]
 omega
theorem bitsN_low {n:Nat} (h:n≠0):∃b,bitsN n=b+1/\2^b<=n/\n<2^(b+1):=⟨n.log2,by unfold bitsN;rw [if_neg h],Nat.log2_self_le h,Nat.lt_log2_self⟩
theorem bits_top {ds:List Nat} (hd:Digs ds) {j i:Nat} (hl:ds.length=j+1) (h1:2^i<=ds.getD j 0) (h2:ds.getD j 0<2^(i+1)):bitsN (natOf ds)=32*j+i+1:=by
 have e:=natOf_take_succ ds (k:=j) (by omega)
 rw [natOf_take_ge ds (by omega)] at e
 have lo:=natOf_lt (hd.take j)
 rw [List.length_take,Nat.min_eq_left (by omega)] at lo
 generalize ds.getD j 0=D at *
 generalize natOf (ds.take j)=L at *
 rw [e]
 rw [pow32] at *
 apply bitsN_of
 ·have:=Nat.mul_le_mul_left (2^(32*j)) h1
  rw [Nat.pow_add]
  omega
 ·have:=Nat.mul_le_mul_left (2^(32*j)) (show D+1<=2^(i+1) from h2)
  rw [Nat.add_assoc,Nat.pow_add]
  rw [Nat.mul_add] at this
  omega
theorem bits_end {D i:Nat} (hD:D≠0) (h0:D/2^i=0) (h1:i=0\/D/2^(i-1)≠0):∃k,i=k+1/\2^k<=D/\D<2^(k+1):=by
 have hp:=Nat.two_pow_pos i
 have hlt:D<2^i:=by
  rcases Nat.div_eq_zero_iff.1 h0 with c | c
  ·omega
  ·exact c
 rcases h1 with rfl | h1
 ·simp at hlt;omega
 ·rcases Nat.eq_zero_or_pos i with rfl | hi
  ·simp at hlt;omega
  ·refine⟨i-1,by omega, ?_,by rw [Nat.sub_add_cancel hi];exact hlt⟩
   rcases Nat.lt_or_ge D (2^(i-1)) with c | c
   ·exact absurd (Nat.div_eq_of_lt c) h1
   ·exact c
theorem bits_small {D i:Nat} (hD:D<4294967296) (h1:i=0\/D/2^(i-1)≠0):i<=32:=by
 rcases h1 with rfl | h1
 ·omega
 ·rcases Nat.lt_or_ge 32 i with c | c
  ·exfalso
   apply h1
   apply Nat.div_eq_of_lt
   have:=Nat.pow_le_pow_right (show 2>0 by omega) (show 32<=i-1 by omega)
   omega
  ·exact c
theorem bits_step (D i:Nat):D/2^i/2=D/2^(i+1):=by rw [Nat.div_div_eq_div_mul,Nat.pow_succ]
set_option maxHeartbeats 1600000 in
theorem bits_w (va:Value) (m K:Nat) (hK:K<=1000000) (hm:m<2^K) (w:World) (ha:BigIs w va m) :
  Calls Try.prog 98 #[va] w fun e w'=>e=.returned (.int .i64 (bitsN m))/\w=w':=by
 obtain⟨ds,d1,d2,rfl,hra⟩:=ha
 have l1:=d2.len hm
 clear hm
 obtain⟨ao,ca,rfl,hca⟩:=hra.open_
 rcases Nat.eq_zero_or_pos ds.length with h0 | h0
 ·have e0:bitsN (natOf ds)=0:=by rw [d2.zero.2 h0];rfl
  clear l1 hca
  generalize ds.length=L at *
  subst h0
  go_enter Try.func98,Try.ntmps98
  go_wp2
  go_ret
  exact⟨by rw [e0];rfl,rfl⟩
 ·obtain⟨j,hj⟩:∃j,ds.length=j+1:=⟨ds.length-1,by omega⟩
  obtain⟨g,rfl,hg,hc⟩:=hca (by omega)
  have hcell:=hc j (by omega)
  have hdl:=d1.getD j
  have hD0:=d2 h0
  have htop:=fun i h1 h2=>bits_top d1 (i:=i) hj h1 h2
  rw [hj,Nat.add_sub_cancel] at hD0
  clear hca hc hra h0
  generalize ds.getD j 0=D at *
  generalize bitsN (natOf ds)=R at *
  rw [hj] at l1 ⊢
  clear hj d1 d2
  have h1:((j:Int)+1)-1=(j:Int):=by omega
  go_enter Try.func98,Try.ntmps98
  go_wp2
  go_loopg [3,4] D (fun G s3 s4 wx=>w=wx/\∃i d:Nat,d<=G/\Hid (d=D/2^i)/\Hid (i=0\/D/2^(i-1)≠0)/\i<=32/\d<4294967296/\s3=.int .i64 (32*(j:Int)+i)/\s4=.int .u32 (d:Int))
  case atStart=>exact⟨rfl,0,D,Nat.le_refl _,by show _=_;simp,Or.inl rfl,by omega,hdl,by go_num,rfl⟩
  case round =>
   obtain⟨rfl,i,d,hdG,hd,hi,hi2,hdl2,rfl,rfl⟩:=hrel
   rcases Nat.eq_zero_or_pos d with rfl | hp
   ·obtain⟨k,rfl,k1,k2⟩:=bits_end hD0 hd.out.symm hi.out
    have:=htop k k1 k2
    subst this
    clear htop k1 k2 hi hd
    go_wp2
    go_ret
    exact⟨by go_num,rfl⟩
   ·have hs:=bits_step D i
    rw [<-hd.out] at hs
    have hne:D/2^i≠0:=by rw [<-hd.out];omega
    have hsm:=bits_small (i:=i+1) hdl (Or.inr (by rw [Nat.add_sub_cancel];exact hne))
    have HS:Hid (d/2=D/2^(i+1)):=hs
    have HN:Hid (D/2^i≠0):=hne
    clear hs hne hd hi
    go_wp2
    go_roundg (d/2)
    case measure=>omega
    case rel=>exact⟨rfl,i+1,d/2,Nat.le_refl _,HS,Or.inr (by rw [Nat.add_sub_cancel];exact HN.out),hsm,by omega,by go_num,by go_num⟩
def Own (B:Nat) (w:World) (v:Value) (ds:List Nat):Prop:=w.ownsRow B 122 1 v ds.length (u32s ds)
theorem Own.row {B:Nat} {w:World} {v:Value} {ds:List Nat} (h:Own B w v ds):Row w v ds:=by
 refine⟨h.1, ?_⟩
 rcases h.2 with hn | ⟨g,cap,cur,hv,hb2,rest⟩
 ·exact .inl hn
 ·exact .inr ⟨g,cap,cur,hv,Nat.zero_le _,rest⟩
theorem wpList_push {B:Nat} {w0 wr:World} {ops:Array Oper} {rest:List Oper} {o:Oper} {a:Act} {Q:Exit->Act->World->Prop} (hgd:o.guard=none) (s x:Operand)
  (ho:o.op=.call { callee:=.builtin .append,args:=#[s,x],argTypes:=#[111,111] }) (v:Value) (os:List Nat) (d:Nat) (hs:a.eval s=v) (hx:a.eval x=.slice (some ⟨wr.heap.size,0,none⟩) 1 1)
  (hown:Own B wr v os) (hl:os.length<=2000000) (hB:B<=wr.heap.size) (hbel:Below B w0 wr)
  (h:∀v' w',Own B w' v' (os++[d])->Below B w0 w'->B<=w'.heap.size->wpList Try.prog ops Q rest (a.put o.dst v') w'):wpList Try.prog ops Q (o :: rest) a (wr.alloc (.cells #[.int .u32 (d:Int)] 122)):=by
 obtain⟨i0,hi,hz0,hz1,hz2⟩:=info_parts Try.info32
 refine wpList_append_own _ hgd s x 111 ho B 122 i0 (.int .u32 0) 1 4 Try.underlying111 hi hz0 hz1 hz2 rfl (by decide) v os.length (u32s os) hs (hown.alloc _) ⟨wr.heap.size,0,none⟩ 1 1 [.int .u32 (d:Int)] hx rfl ?_ ?_ (by unfold maxLen;omega) (by omega) (by simp;omega) ?_
 ·intro j u hj
  match j,hj with
  | 0,hj=>simp at hj;subst hj;simp [Addr.add]
 ·intro u hu;simp at hu;subst hu;rfl
 ·intro v' w' h1 h2 _
  refine h v' w' ?_ ((hbel.alloc hB _).grown h2 (by simp;omega) ?_) (by have:=h2.size;simp at this;omega)
  ·unfold Own
   have e:u32s (os++[d])=u32s os++[.int .u32 (d:Int)]:=by simp [u32s]
   rw [e,List.length_append]
   exact h1
  ·intro k hk
   exact (World.ownsRow.lt hown k hk).1
theorem plus_step {os ds es:List Nat} {k c:Nat} (hl:os.length=k) (h:natOf os+4294967296^k*c=natOf (ds.take k)+natOf (es.take k)) {o q:Nat} (ho:o+4294967296*q=c+ds.getD k 0+es.getD k 0) :
  natOf (os++[o])+4294967296^(k+1)*q=natOf (ds.take (k+1))+natOf (es.take (k+1)):=by
 rw [natOf_append,hl,natOf_take_step ds,natOf_take_step es,Nat.pow_succ,Nat.mul_assoc]
 have e:natOf [o]=o:=by simp [natOf]
 rw [e]
 have:=congrArg (4294967296^k*·) ho
 simp only [Nat.mul_add] at this
 omega
theorem plus_end {os ds es:List Nat} {k c:Nat} (hl:os.length=k) (h:natOf os+4294967296^k*c=natOf (ds.take k)+natOf (es.take k)) (h1:ds.length<=k) (h2:es.length<=k):natOf (os++[c])=natOf ds+natOf es:=by
 rw [natOf_take_ge ds h1,natOf_take_ge es h2] at h
 rw [natOf_append,hl]
 have e:natOf [c]=c:=by simp [natOf]
 rw [e];exact h
theorem parts32 (n:Nat):∃o q:Nat,IntKind.u32.wrap (n:Int)=(o:Int)/\(n:Int)/4294967296=(q:Int)/\o+4294967296*q=n/\o<4294967296/\q=n/4294967296 :=
 ⟨n%4294967296,n/4294967296,by simp [IntKind.wrap,IntKind.bits,IntKind.signed],by omega,by omega,by omega,rfl⟩
theorem own_empty (w:World):Own w.heap.size (w.alloc (.cells #[] 122)) (.slice (some ⟨w.heap.size,0,none⟩) 0 0) []:=World.ownsRow_made w #[] 0 (Nat.le_refl _) (Nat.zero_le _) rfl
set_option maxHeartbeats 1600000 in
theorem plus_w (va vb:Value) (m n K:Nat) (hK:K<=1000000) (hm:m<2^K) (hn:n<2^K) (w:World) (ha:BigIs w va m) (hb:BigIs w vb n) :
  Calls Try.prog 102 #[va,vb] w fun e w'=>(∃v',e=.returned v'/\BigIs w' v' (m+n))/\Below w.heap.size w w':=by
 obtain⟨ds,d1,d2,rfl,hra⟩:=ha
 obtain⟨es,e1,e2,rfl,hrb⟩:=hb
 have l1:=d2.len hm
 have l2:=e2.len hn
 clear hm hn d2 e2
 obtain⟨ao,ca,rfl,hca⟩:=hra.open_
 obtain⟨bo,cb,rfl,hcb⟩:=hrb.open_
 clear hra hrb
 go_enter Try.func102,Try.ntmps102
 go_wp2
 go_loopg [5,6,7] (ds.length+es.length) (fun G s5 s6 s7 wx=>Below w.heap.size w wx/\w.heap.size<=wx.heap.size/\∃(k c:Nat) (os:List Nat),s6=.int .u64 (c:Int)/\s7=.int .i64 (k:Int)/\c<=1/\k+G=ds.length+es.length/\Hid (os.length=k)/\Digs os/\Own w.heap.size wx s5 os /\
  Hid (natOf os+4294967296^k*c=natOf (ds.take k)+natOf (es.take k)))
 case atStart=>exact⟨by go_grown,by go_size,0,0,[],rfl,rfl,by omega,by omega,rfl,Digs.nil,own_empty w,by show _=_;simp [natOf]⟩
 case round =>
  obtain⟨hB,hS,k,c,os,rfl,rfl,hc1,hkG,hol,hod,hown,hval⟩:=hrel
  have hdl:=d1.getD k
  have hel:=e1.getD k
  have hst:=fun o q=>plus_step (o:=o) (q:=q) hol.out hval.out
  by_cases ka:k<ds.length
  ·obtain⟨g,rfl,hg,hca⟩:=hca (by omega)
   have c1:=(hB.cell (by exact hg)).trans (hca k ka)
   by_cases kb:k<es.length
   ·obtain⟨f,rfl,hf,hcb⟩:=hcb (by omega)
    have c2:=(hB.cell (by exact hf)).trans (hcb k kb)
    clear hca hcb
    generalize ds.getD k 0=D at *
    generalize es.getD k 0=E at *
    obtain⟨o,q,ho,hq,hoq⟩:=parts32 (c+D+E)
    have ho':IntKind.u32.wrap ((c:Int)+D+E)=(o:Int):=by have:=ho;simp only [Int.natCast_add] at this;exact this
    have hq':((c:Int)+D+E)/4294967296=(q:Int):=by have:=hq;simp only [Int.natCast_add] at this;exact this
    have HST:Hid _:=hst o q (by have:=hoq.1;omega)
    have HO:Hid _:=hoq
    have holb:os.length<=2000000:=by have:=hol.out;omega
    have hcz:(c:Int)<=1:=by omega
    clear hst hoq hval ho hq
    go_wp2_with (at_builtin;refine wpList_push (by rfl) _ _ (by rfl) _ os o (by rfl) (by rfl) hown holb hS hB ?_;intro v' w' hown' hB' hS')
    have hoq:=HO.out
    go_roundg (gk-1)
    case measure=>omega
    case rel=>exact⟨hB',hS',k+1,q,os++[o],rfl,by go_num,by omega,by omega,by show _=_;rw [List.length_append,hol.out];rfl,hod.append (Digs.one hoq.2.1),hown',HST⟩
   ·have hE:=getD_ge es (k:=k) (by omega)
    clear hca hcb
    generalize ds.getD k 0=D at *
    generalize es.getD k 0=E at *
    obtain⟨o,q,ho,hq,hoq⟩:=parts32 (c+D)
    have ho':IntKind.u32.wrap ((c:Int)+D)=(o:Int):=by have:=ho;simp only [Int.natCast_add] at this;exact this
    have hq':((c:Int)+D)/4294967296=(q:Int):=by have:=hq;simp only [Int.natCast_add] at this;exact this
    have HST:Hid _:=hst o q (by have:=hoq.1;omega)
    have HO:Hid _:=hoq
    have holb:os.length<=2000000:=by have:=hol.out;omega
    have hcz:(c:Int)<=1:=by omega
    clear hst hoq hval ho hq
    go_wp2_with (at_builtin;refine wpList_push (by rfl) _ _ (by rfl) _ os o (by rfl) (by rfl) hown holb hS hB ?_;intro v' w' hown' hB' hS')
    have hoq:=HO.out
    go_roundg (gk-1)
    case measure=>omega
    case rel=>exact⟨hB',hS',k+1,q,os++[o],rfl,by go_num,by omega,by omega,by show _=_;rw [List.length_append,hol.out];rfl,hod.append (Digs.one hoq.2.1),hown',HST⟩
  ·have hD:=getD_ge ds (k:=k) (by omega)
   by_cases kb:k<es.length
   ·obtain⟨f,rfl,hf,hcb⟩:=hcb (by omega)
    have c2:=(hB.cell (by exact hf)).trans (hcb k kb)
    clear hca hcb
    generalize ds.getD k 0=D at *
    generalize es.getD k 0=E at *
    obtain⟨o,q,ho,hq,hoq⟩:=parts32 (c+E)
    have ho':IntKind.u32.wrap ((c:Int)+E)=(o:Int):=by have:=ho;simp only [Int.natCast_add] at this;exact this
    have hq':((c:Int)+E)/4294967296=(q:Int):=by have:=hq;simp only [Int.natCast_add] at this;exact this
    have HST:Hid _:=hst o q (by have:=hoq.1;omega)
    have HO:Hid _:=hoq
    have holb:os.length<=2000000:=by have:=hol.out;omega
    have hcz:(c:Int)<=1:=by omega
    clear hst hoq hval ho hq
    go_wp2_with (at_builtin;refine wpList_push (by rfl) _ _ (by rfl) _ os o (by rfl) (by rfl) hown holb hS hB ?_;intro v' w' hown' hB' hS')
    have hoq:=HO.out
    go_roundg (gk-1)
    case measure=>omega
    case rel=>exact⟨hB',hS',k+1,q,os++[o],rfl,by go_num,by omega,by omega,by show _=_;rw [List.length_append,hol.out];rfl,hod.append (Digs.one hoq.2.1),hown',HST⟩
   ·have hend:=plus_end hol.out hval.out (by omega) (by omega)
    have hwr:IntKind.u32.wrap (c:Int)=(c:Int):=by simp only [IntKind.wrap,IntKind.bits,IntKind.signed];simp;omega
    have holb:os.length<=2000000:=by have:=hol.out;omega
    have hdd:Digs (os++[c]):=hod.append (Digs.one (by omega))
    have hlen:(os++[c]).length<=1000000:=by rw [List.length_append,hol.out];simp;omega
    have HE:Hid _:=hend
    clear hst hval hend hdl hel
    go_wp2_with (first | (at_builtin;refine wpList_push (by rfl) _ _ (by rfl) _ os c (by rfl) (by rfl) hown holb hS hB ?_;intro v' w' hown' hB' hS') | (go_at_call 90;refine (trim_w _ (os++[c]) hdd hlen _ hown'.row).mono ?_;rintro _ _ ⟨⟨v2,rfl,hv⟩,rfl⟩))
    rw [HE.out] at hv
    go_ret
    exact⟨⟨_,rfl,hv⟩,hB'⟩
theorem less_step {os ds es:List Nat} {k c:Nat} (hl:os.length=k) (h:natOf os+natOf (es.take k)=natOf (ds.take k)+4294967296^k*c) {o q:Nat} (ho:o+es.getD k 0+c=ds.getD k 0+4294967296*q) :
  natOf (os++[o])+natOf (es.take (k+1))=natOf (ds.take (k+1))+4294967296^(k+1)*q:=by
 rw [natOf_append,hl,natOf_take_step ds,natOf_take_step es,Nat.pow_succ,Nat.mul_assoc]
 have e:natOf [o]=o:=by simp [natOf]
 rw [e]
 have:=congrArg (4294967296^k*·) ho
 simp only [Nat.mul_add] at this
 omega
theorem less_end {os ds es:List Nat} {k c:Nat} (hod:Digs os) (hl:os.length=k) (h:natOf os+natOf (es.take k)=natOf (ds.take k)+4294967296^k*c) (h1:ds.length<=k) (hle:natOf es<=natOf ds) (hd:Digs ds) (he:Digs es):natOf os=natOf ds-natOf es:=by
 rw [natOf_take_ge ds h1] at h
 have s:=natOf_split es k
 have b1:=natOf_lt hod
 rw [hl] at b1
 have b2:=natOf_lt (he.take k)
 have b3:=natOf_lt hd
 have b4:=Nat.pow_le_pow_right (show 4294967296>0 by omega) h1
 have b5:=Nat.pow_le_pow_right (show 4294967296>0 by omega) (show (es.take k).length<=k by rw [List.length_take];omega)
 have z:natOf (es.drop k)=0:=by
  rcases Nat.eq_zero_or_pos (natOf (es.drop k)) with z | z
  ·exact z
  ·have:=Nat.mul_le_mul_left (4294967296^k) (show 1<=natOf (es.drop k) from z)
   omega
 rw [z,Nat.mul_zero,Nat.add_zero] at s
 rw [<-s] at h b2
 rcases Nat.eq_zero_or_pos c with rfl | hc
 ·omega
 ·have:=Nat.mul_le_mul_left (4294967296^k) (show 1<=c from hc)
  omega
set_option maxHeartbeats 2000000 in
theorem less_w (va vb:Value) (m n K:Nat) (hK:K<=1000000) (hm:m<2^K) (hnm:n<=m) (w:World) (ha:BigIs w va m) (hb:BigIs w vb n) :
  Calls Try.prog 100 #[va,vb] w fun e w'=>(∃v',e=.returned v'/\BigIs w' v' (m-n))/\Below w.heap.size w w':=by
 obtain⟨ds,d1,d2,rfl,hra⟩:=ha
 obtain⟨es,e1,e2,rfl,hrb⟩:=hb
 have l1:=d2.len hm
 have l2:=e2.len (Nat.lt_of_le_of_lt hnm hm)
 clear hm d2 e2
 obtain⟨ao,ca,rfl,hca⟩:=hra.open_
 obtain⟨bo,cb,rfl,hcb⟩:=hrb.open_
 clear hra hrb
 have HNM:Hid (natOf es<=natOf ds):=hnm
 clear hnm
 go_enter Try.func100,Try.ntmps100
 go_wp2
 go_loopg [5,6,7,8] ds.length (fun G s5 s6 s7 _ wx=>Below w.heap.size w wx/\w.heap.size<=wx.heap.size/\∃(k c:Nat) (os:List Nat),s6=.int .i64 (c:Int)/\s7=.int .i64 (k:Int)/\c<=1/\k+G=ds.length/\Hid (os.length=k)/\Digs os/\Own w.heap.size wx s5 os /\
  Hid (natOf os+natOf (es.take k)=natOf (ds.take k)+4294967296^k*c))
 case atStart=>exact⟨by go_grown,by go_size,0,0,[],rfl,rfl,by omega,by omega,rfl,Digs.nil,own_empty w,by show _=_;simp [natOf]⟩
 case round =>
  obtain⟨hB,hS,k,c,os,rfl,rfl,hc1,hkG,hol,hod,hown,hval⟩:=hrel
  have hdl:=d1.getD k
  have hel:=e1.getD k
  have hst:=fun o q=>less_step (o:=o) (q:=q) hol.out hval.out
  by_cases ka:k<ds.length
  ·obtain⟨g,rfl,hg,hca⟩:=hca (by omega)
   have c1:=(hB.cell (by exact hg)).trans (hca k ka)
   by_cases kb:k<es.length
   ·obtain⟨f,rfl,hf,hcb⟩:=hcb (by omega)
    have c2:=(hB.cell (by exact hf)).trans (hcb k kb)
    clear hca hcb
    generalize ds.getD k 0=D at *
    generalize es.getD k 0=E at *
    by_cases hsg:(D:Int)-c-E<0
    ·have hsg:(D:Int)-c-E<0:=by omega
     obtain⟨o,ho,hoq⟩:∃o:Nat,(o:Int)=(D:Int)-c-E+4294967296/\o<4294967296:=⟨((D:Int)-c-E+4294967296).toNat,by omega,by omega⟩
     have ho':IntKind.u32.wrap ((D:Int)-c-E+4294967296)=(o:Int):=by rw [<-ho];simp only [IntKind.wrap,IntKind.bits,IntKind.signed];simp;omega
     have HST:Hid _:=hst o 1 (by omega)
     have holb:os.length<=2000000:=by have:=hol.out;omega
     have hcz:(c:Int)<=1:=by omega
     clear hst hval ho
     go_wp2_with (at_builtin;refine wpList_push (by rfl) _ _ (by rfl) _ os o (by rfl) (by rfl) hown holb hS hB ?_;intro v' w' hown' hB' hS')
     go_roundg (gk-1)
     case measure=>omega
     case rel=>exact⟨hB',hS',k+1,1,os++[o],rfl,by go_num,by omega,by omega,by show _=_;rw [List.length_append,hol.out];rfl,hod.append (Digs.one hoq),hown',HST⟩
    ·have hsg:¬(D:Int)-c-E<0:=hsg
     obtain⟨o,ho,hoq⟩:∃o:Nat,(o:Int)=(D:Int)-c-E/\o<4294967296:=⟨((D:Int)-c-E).toNat,by omega,by omega⟩
     have ho':IntKind.u32.wrap ((D:Int)-c-E)=(o:Int):=by rw [<-ho];simp only [IntKind.wrap,IntKind.bits,IntKind.signed];simp;omega
     have HST:Hid _:=hst o 0 (by omega)
     have holb:os.length<=2000000:=by have:=hol.out;omega
     have hcz:(c:Int)<=1:=by omega
     clear hst hval ho
     go_wp2_with (at_builtin;refine wpList_push (by rfl) _ _ (by rfl) _ os o (by rfl) (by rfl) hown holb hS hB ?_;intro v' w' hown' hB' hS')
     go_roundg (gk-1)
     case measure=>omega
     case rel=>exact⟨hB',hS',k+1,0,os++[o],rfl,by go_num,by omega,by omega,by show _=_;rw [List.length_append,hol.out];rfl,hod.append (Digs.one hoq),hown',HST⟩
   ·have hE:=getD_ge es (k:=k) (by omega)
    clear hca hcb
    generalize ds.getD k 0=D at *
    generalize es.getD k 0=E at *
    subst hE
    by_cases hsg:(D:Int)-c<0
    ·have hsg:(D:Int)-c<0:=by omega
     obtain⟨o,ho,hoq⟩:∃o:Nat,(o:Int)=(D:Int)-c+4294967296/\o<4294967296:=⟨((D:Int)-c+4294967296).toNat,by omega,by omega⟩
     have ho':IntKind.u32.wrap ((D:Int)-c+4294967296)=(o:Int):=by rw [<-ho];simp only [IntKind.wrap,IntKind.bits,IntKind.signed];simp;omega
     have HST:Hid _:=hst o 1 (by omega)
     have holb:os.length<=2000000:=by have:=hol.out;omega
     have hcz:(c:Int)<=1:=by omega
     clear hst hval ho
     go_wp2_with (at_builtin;refine wpList_push (by rfl) _ _ (by rfl) _ os o (by rfl) (by rfl) hown holb hS hB ?_;intro v' w' hown' hB' hS')
     go_roundg (gk-1)
     case measure=>omega
     case rel=>exact⟨hB',hS',k+1,1,os++[o],rfl,by go_num,by omega,by omega,by show _=_;rw [List.length_append,hol.out];rfl,hod.append (Digs.one hoq),hown',HST⟩
    ·have hsg:¬(D:Int)-c<0:=hsg
     obtain⟨o,ho,hoq⟩:∃o:Nat,(o:Int)=(D:Int)-c/\o<4294967296:=⟨((D:Int)-c).toNat,by omega,by omega⟩
     have ho':IntKind.u32.wrap ((D:Int)-c)=(o:Int):=by rw [<-ho];simp only [IntKind.wrap,IntKind.bits,IntKind.signed];simp;omega
     have HST:Hid _:=hst o 0 (by omega)
     have holb:os.length<=2000000:=by have:=hol.out;omega
     have hcz:(c:Int)<=1:=by omega
     clear hst hval ho
     go_wp2_with (at_builtin;refine wpList_push (by rfl) _ _ (by rfl) _ os o (by rfl) (by rfl) hown holb hS hB ?_;intro v' w' hown' hB' hS')
     go_roundg (gk-1)
     case measure=>omega
     case rel=>exact⟨hB',hS',k+1,0,os++[o],rfl,by go_num,by omega,by omega,by show _=_;rw [List.length_append,hol.out];rfl,hod.append (Digs.one hoq),hown',HST⟩
  ·have hend:=less_end hod hol.out hval.out (by omega) HNM.out d1 e1
   have hlen:os.length<=1000000:=by have:=hol.out;omega
   have HE:Hid _:=hend
   clear hst hval hend hdl hel
   go_wp2_with (go_at_call 90;refine (trim_w _ os hod hlen _ hown.row).mono ?_;rintro _ _ ⟨⟨v2,rfl,hv⟩,rfl⟩)
   rw [HE.out] at hv
   go_ret
   exact⟨⟨_,rfl,hv⟩,hB⟩
theorem wpList_zeros {w:World} {ops:Array Oper} {rest:List Oper} {o:Oper} {a:Act} {Q:Exit->Act->World->Prop} (hgd:o.guard=none) (l c:Operand)
  (ho:o.op=.makeSlice 111 l c) (n:Nat) (hl:a.eval l=.int .i64 (n:Int)) (hc:a.eval c=.int .i64 (n:Int)) (hn:n<=3000000)
  (h:∀w',Own w.heap.size w' (.slice (some ⟨w.heap.size,0,none⟩) n n) (List.replicate n 0)->Below w.heap.size w w'->w.heap.size<w'.heap.size->wpList Try.prog ops Q rest (a.put o.dst (.slice (some ⟨w.heap.size,0,none⟩) n n)) w'):wpList Try.prog ops Q (o :: rest) a w:=by
 obtain⟨i0,hi,hz0,hz1,hz2⟩:=info_parts Try.info32
 refine wpList_make_full w hgd l c 111 ho w.heap.size 122 i0 (.int .u32 0) 1 Try.underlying111 hi hz0 hz1 .i64 .i64 _ _ n hl hc rfl rfl (by rw [hz2];omega) (by unfold maxLen;omega) (Nat.le_refl _) ?_
 intro w' h1 h2
 refine h w' ?_ ⟨h2.os,h2.tape,h2.output,h2.size,fun k hk=>h2.block k hk (by simp)⟩ ?_
 ·unfold Own
  rw [List.length_replicate]
  have e:u32s (List.replicate n 0)=(madeCells (Value.int .u32 0).cells (n*1)).toList:=by
   have e1:(madeCells (Value.int .u32 0).cells (n*1)).toList=List.replicate n (Value.int .u32 0):=by
    refine List.eq_replicate_iff.2 ⟨by simp [madeCells],fun b hb=>?_⟩
    simp [madeCells,Value.cells] at hb
    obtain⟨x, -,hx⟩:=hb
    rw [<-hx]
    have:x%1=0:=by omega
    simp [this]
   rw [e1]
   simp [u32s]
  rw [e]
  exact h1
 ·exact (World.ownsRow.lt h1 _ rfl).2
theorem left_step {os ds:List Nat} {n q r k c:Nat} (hn:n=32*q+r) (hl:os.length=q+k) (h:natOf os+4294967296^(q+k)*c=natOf (ds.take k)*2^n) {o p:Nat} (ho:o+4294967296*p=c+ds.getD k 0*2^r) :
  natOf (os++[o])+4294967296^(q+k+1)*p=natOf (ds.take (k+1))*2^n:=by
 rw [natOf_append,hl,natOf_take_step ds,Nat.pow_succ,Nat.mul_assoc,Nat.add_mul]
 have e:natOf [o]=o:=by simp [natOf]
 rw [e,<-h]
 have:=congrArg (4294967296^(q+k)*·) ho
 simp only [Nat.mul_add] at this
 have e2:4294967296^k*ds.getD k 0*2^n=4294967296^(q+k)*(ds.getD k 0*2^r):=by
  rw [hn,Nat.pow_add,Nat.pow_add,<-pow32 q]
  rw [Nat.mul_comm (4294967296^q) (4294967296^k)]
  simp only [Nat.mul_assoc]
  rw [Nat.mul_left_comm (ds.getD k 0)]
 omega
theorem left_end {os ds:List Nat} {n q k c:Nat} (hl:os.length=q+k) (h:natOf os+4294967296^(q+k)*c=natOf (ds.take k)*2^n) (h1:ds.length<=k):natOf (os++[c])=natOf ds*2^n:=by
 rw [natOf_take_ge ds h1] at h
 rw [natOf_append,hl]
 have e:natOf [c]=c:=by simp [natOf]
 rw [e];exact h
theorem left_carry {c D r p o:Nat} (hc:c<2^r) (hD:D<4294967296) (ho:o+4294967296*p=c+D*2^r):p<2^r:=by
 have h:=Nat.mul_le_mul_right (2^r) (show D+1<=4294967296 by omega)
 rw [Nat.add_mul] at h
 omega
theorem left_small {D r:Nat} (hr:r<32) (hD:D<4294967296):D*2^r<9223372036854775808/\2^r<=2147483648:=by
 have h:=Nat.pow_le_pow_right (show 2>0 by omega) (show r<=31 by omega)
 have h2:=Nat.mul_le_mul (show D<=4294967295 by omega) h
 omega
set_option maxHeartbeats 2000000 in
theorem left_w (va:Value) (m n q r K:Nat) (hK:K<=1000000) (hm:m<2^K) (hn:n<=1000000) (hqr:n=32*q+r) (hr:r<32) (w:World) (ha:BigIs w va m) :
  Calls Try.prog 99 #[va,.int .i64 (n:Int)] w fun e w'=>(∃v',e=.returned v'/\BigIs w' v' (m*2^n))/\Below w.heap.size w w':=by
 obtain⟨ds,d1,d2,rfl,hra⟩:=ha
 have l1:=d2.len hm
 clear hm
 have HRA:=hra
 obtain⟨ao,ca,rfl,hca⟩:=hra.open_
 rcases Nat.eq_zero_or_pos ds.length with h0 | h0
 ·have:ds=[]:=List.eq_nil_of_length_eq_zero h0
  subst this
  clear hca hra l1
  go_enter Try.func99,Try.ntmps99
  go_wp2
  go_ret
  exact⟨⟨_,rfl,[],d1,d2,by simp [natOf],HRA⟩,Below.refl _ _⟩
 ·obtain⟨g,rfl,hg,hc⟩:=hca (by omega)
  clear hca hra HRA
  have hne:((ds.length:Int)==0)=false:=by rw [beq_eq_false_iff_ne];omega
  have hq:(n:Int)/32=(q:Int):=by omega
  have hr2:(n:Int)%32=(r:Int):=by omega
  have HQR:Hid (n=32*q+r):=hqr
  have hqb:q<=1000000:=by omega
  clear hqr
  go_enter Try.func99,Try.ntmps99
  go_wp2_with (at_make;refine wpList_zeros (by rfl) _ _ (by rfl) q (by rfl) (by rfl) (by omega) ?_;intro w1 hown hB hS)
  go_loopg [5,6,8,18] ds.length (fun G s5 s6 _ s7 wx=>Below w.heap.size w wx/\w.heap.size<=wx.heap.size/\∃(k c:Nat) (os:List Nat),s6=.int .u64 (c:Int)/\s7=.int .i64 (k:Int)/\Hid (c<2^r)/\k+G=ds.length/\Hid (os.length=q+k)/\Digs os/\Own w.heap.size wx s5 os /\
   Hid (natOf os+4294967296^(q+k)*c=natOf (ds.take k)*2^n))
  case atStart=>exact⟨hB,by omega,0,0,_,rfl,rfl,Nat.two_pow_pos _,by omega,by show _=_;simp,digs_zeros q,hown,by show _=_;simp [natOf,natOf_zeros]⟩
  case round =>
   clear hown hB hS
   obtain⟨hB,hS,k,c,os,rfl,rfl,hc1,hkG,hol,hod,hown,hval⟩:=hrel
   have hdl:=d1.getD k
   have hst:=fun o p=>left_step (o:=o) (p:=p) HQR.out hol.out hval.out
   by_cases ka:k<ds.length
   ·have c1:=(hB.cell (by exact hg)).trans (hc k ka)
    clear hc
    generalize ds.getD k 0=D at *
    obtain⟨b1,b2⟩:=left_small hr hdl
    have hc2:=hc1.out
    obtain⟨S,hS1⟩:∃S,S=D*2^r:=⟨_,rfl⟩
    have hsh:IntKind.u64.wrap ((D:Int)*2^r)=(S:Int):=by
     rw [hS1,IntKind.wrap_u64]
     have:(D:Int)*2^r=((D*2^r:Nat):Int):=by simp
     rw [this];omega
    have hor:bits .or .u64 (c:Int) (S:Int)=((c+S:Nat):Int):=by
     rw [u64_or_nat c S (by omega) (by omega),Nat.or_comm,nat_join r S c (by rw [hS1];simp) hc2,Nat.add_comm]
    obtain⟨o,p,ho,hp,hop⟩:=parts32 (c+S)
    have hpr:=left_carry hc2 hdl (p:=p) (o:=o) (by rw [<-hS1];exact hop.1)
    have HST:Hid _:=hst o p (by rw [<-hS1];exact hop.1)
    have HO:Hid _:=hop
    have HP:Hid _:=hpr
    have holb:os.length<=2000000:=by have:=hol.out;omega
    obtain⟨T,hT⟩:∃T,T=c+S:=⟨_,rfl⟩
    rw [<-hT] at ho hp hor
    have ho2:(T:Int)%4294967296=(o:Int):=by have:=hop;omega
    have hTl:(T:Int)<18446744073709551616:=by omega
    clear hst hval hop hT hS1 b1 b2 hc2 hpr hc1
    go_wp2_with (at_builtin;refine wpList_push (by rfl) _ _ (by rfl) _ os o (by rfl) (by rfl) hown holb hS hB ?_;intro v' w' hown' hB' hS')
    go_roundg (gk-1)
    case measure=>omega
    case rel=>exact⟨hB',hS',k+1,p,os++[o],rfl,by go_num,HP,by omega,by show _=_;rw [List.length_append,hol.out];rfl,hod.append (Digs.one HO.out.2.1),hown',HST⟩
   ·have hend:=left_end hol.out hval.out (by omega)
    have hc3:=(left_small hr (D:=0) (by omega)).2
    have hc2:=hc1.out
    have hwr:IntKind.u32.wrap (c:Int)=(c:Int):=by simp only [IntKind.wrap,IntKind.bits,IntKind.signed];simp;omega
    have hwr2:(c:Int)%4294967296=(c:Int):=by omega
    have holb:os.length<=2000000:=by have:=hol.out;omega
    have hdd:Digs (os++[c]):=hod.append (Digs.one (by omega))
    have hlen:(os++[c]).length<=1000000:=by rw [List.length_append,hol.out];simp;omega
    have HE:Hid _:=hend
    clear hst hval hend hdl hc2 hc3 hc1
    go_wp2_with (first | (at_builtin;refine wpList_push (by rfl) _ _ (by rfl) _ os c (by rfl) (by rfl) hown holb hS hB ?_;intro v' w' hown' hB' hS') | (go_at_call 90;refine (trim_w _ (os++[c]) hdd hlen _ hown'.row).mono ?_;rintro _ _ ⟨⟨v2,rfl,hv⟩,rfl⟩))
    rw [HE.out] at hv
    go_ret
    exact⟨⟨_,rfl,hv⟩,hB'⟩
theorem by_step {os es:List Nat} {R i j c D:Nat} (hij:i+j<os.length) (h:natOf os+4294967296^(i+j)*c=R+4294967296^i*D*natOf (es.take j)) {o q:Nat} (ho:o+4294967296*q=D*es.getD j 0+os.getD (i+j) 0+c) :
  natOf (os.set (i+j) o)+4294967296^(i+(j+1))*q=R+4294967296^i*D*natOf (es.take (j+1)):=by
 have hs:=natOf_set os (i+j) o hij
 rw [natOf_take_step es,Nat.mul_add]
 have e2:4294967296^i*D*(4294967296^j*es.getD j 0)=4294967296^(i+j)*(D*es.getD j 0):=by
  rw [Nat.pow_add]
  simp only [Nat.mul_assoc]
  rw [Nat.mul_left_comm D]
 rw [e2,show i+(j+1)=i+j+1 by omega,Nat.pow_succ,Nat.mul_assoc]
 have:=congrArg (4294967296^(i+j)*·) ho
 simp only [Nat.mul_add] at this
 omega
theorem by_end {os ds es:List Nat} {i c:Nat} (hij:i+es.length<os.length) (hz:os.getD (i+es.length) 0=0)
  (h:natOf os+4294967296^(i+es.length)*c=natOf (ds.take i)*natOf es+4294967296^i*ds.getD i 0*natOf (es.take es.length)) :
  natOf (os.set (i+es.length) c)=natOf (ds.take (i+1))*natOf es:=by
 have hs:=natOf_set os (i+es.length) c hij
 rw [hz] at hs
 rw [natOf_take_ge es (Nat.le_refl _)] at h
 rw [natOf_take_step ds,Nat.add_mul]
 omega
theorem by_carry {D E X c o q:Nat} (hD:D<4294967296) (hE:E<4294967296) (hX:X<4294967296) (hc:c<4294967296) (ho:o+4294967296*q=D*E+X+c):q<4294967296:=by
 have:=Nat.mul_le_mul (show D<=4294967295 by omega) (show E<=4294967295 by omega)
 omega
theorem by_prod {D E:Nat} (hD:D<4294967296) (hE:E<4294967296):D*E<=18446744065119617025:=by
 have:=Nat.mul_le_mul (show D<=4294967295 by omega) (show E<=4294967295 by omega)
 omega
theorem getD_set_ne (ds:List Nat) {k t v:Nat} (h:k≠t):(ds.set k v).getD t 0=ds.getD t 0:=by
 rw [List.getD_eq_getElem?_getD,List.getD_eq_getElem?_getD,List.getElem?_set_ne h]
theorem getD_zeros (n k:Nat):(List.replicate n 0).getD k 0=0:=by
 rw [List.getD_eq_getElem?_getD]
 rcases Nat.lt_or_ge k n with c | c
 ·rw [List.getElem?_replicate,if_pos c];rfl
 ·rw [List.getElem?_eq_none (by simpa using c)];rfl
structure ByS (w:World) (L:Nat) (os:List Nat) (wx:World):Prop where
 bel:Below w.heap.size w wx
 len:os.length=L
 lt:w.heap.size<wx.heap.size
 own:wx.ownsRow w.heap.size 122 1 (.slice (some ⟨w.heap.size,0,none⟩) L L) L (u32s os)
theorem ByS.cell {w:World} {L:Nat} {os:List Nat} {wx:World} (h:ByS w L os wx) {k:Nat} (hk:k<L):wx.cell? ⟨w.heap.size,k,none⟩=some (.int .u32 (os.getD k 0:Int)):=by
 have hk2:k<os.length:=by rw [h.len];exact hk
 rw [World.ownsRow.cellAt h.own k (by omega)]
 unfold u32s
 rw [List.getElem?_map,List.getElem?_eq_getElem hk2,List.getD_eq_getElem?_getD,List.getElem?_eq_getElem hk2];rfl
theorem ByS.frozen {w:World} {L:Nat} {os:List Nat} {wx:World} (h:ByS w L os wx) (k:Nat):wx.frozen? ⟨w.heap.size,k,none⟩=false:=World.ownsRow.frozenAt h.own k
theorem ByS.set {w:World} {L:Nat} {os:List Nat} {wx:World} (h:ByS w L os wx) (k v:Nat):ByS w L (os.set k v) (wx.setCell ⟨w.heap.size,k,none⟩ (.int .u32 (v:Int))):=by
 refine⟨h.bel.setCell (Nat.le_refl _) _,by rw [List.length_set,h.len],by have:=h.lt;simp [World.setCell];exact this, ?_⟩
 have:=(World.ownsRow.stored h.own k (.int .u32 (v:Int))).1
 unfold u32s at *
 rw [List.map_set]
 exact this
theorem ByS.drewN {w:World} {L:Nat} {os:List Nat} {wx:World} (h:ByS w L os wx) (n:Nat):ByS w L os (wx.drewN n):=by
 have hb:Below wx.heap.size wx (wx.drewN n):=below_drewN (Below.refl _ _) n
 refine⟨below_drewN h.bel n,h.len,Nat.lt_of_lt_of_le h.lt hb.size, ?_⟩
 refine World.ownsRow.kept h.own (row:=none) ⟨hb.os,hb.tape,hb.output,hb.size,fun k hk _=>hb.block k hk⟩ (Or.inr (by simp [Value.ownBlock]))
theorem ByS.row {w:World} {L:Nat} {os:List Nat} {wx:World} (h:ByS w L os wx):Row wx (.slice (some ⟨w.heap.size,0,none⟩) L L) os:=by
 have:Own w.heap.size wx (.slice (some ⟨w.heap.size,0,none⟩) L L) os:=by unfold Own;rw [h.len];exact h.own
 exact this.row
set_option maxHeartbeats 1000000 in
theorem by_w (va vb:Value) (m n K:Nat) (hK:K<=1000000) (hm:m<2^K) (hn:n<2^K) (w:World) (ha:BigIs w va m) (hb:BigIs w vb n) :
  Calls Try.prog 73 #[va,vb] w fun e w'=>(∃v',e=.returned v'/\BigIs w' v' (m*n))/\Below w.heap.size w w':=by
 obtain⟨ds,d1,d2,rfl,hra⟩:=ha
 obtain⟨es,e1,e2,rfl,hrb⟩:=hb
 have l1:=d2.len hm
 have l2:=e2.len hn
 clear hm hn d2 e2
 obtain⟨ao,ca,rfl,hca⟩:=hra.open_
 obtain⟨bo,cb,rfl,hcb⟩:=hrb.open_
 clear hra hrb
 obtain⟨L,hL⟩:∃L,L=ds.length+es.length+1:=⟨_,rfl⟩
 have hLz:(ds.length:Int)+(es.length:Int)+1=(L:Int):=by omega
 have HL:Hid (L=ds.length+es.length+1):=hL
 clear hL
 go_enter Try.func73,Try.ntmps73
 go_wp2_with (at_make;refine wpList_zeros (by rfl) _ _ (by rfl) L (by rfl) (by rfl) (by omega) ?_;intro w1 hown hB hS)
 clear hLz
 go_loopg [6,7,8,9] ds.length (fun G s6 _ _ _ wx=>∃(i:Nat) (os:List Nat),s6=.int .i64 (i:Int)/\i+G=ds.length/\ByS w L os wx/\Digs os/\Hid (∀t,i+es.length<=t->os.getD t 0=0)/\Hid (natOf os=natOf (ds.take i)*natOf es))
 case atStart=>exact⟨0,List.replicate L 0,rfl,by omega,⟨hB,by simp,hS,by have:=hown;unfold Own at this;simpa using this⟩,digs_zeros L,fun t _=>getD_zeros L t,by show _=_;simp [natOf,natOf_zeros]⟩
 case round =>
  clear hown hB hS
  obtain⟨i,os,rfl,hiG,hst,hod,hz,hval⟩:=hrel
  by_cases ka:i<ds.length
  ·obtain⟨g,rfl,hg,hca⟩:=hca (by omega)
   have hcD:=hca i ka
   have hdl:=d1.getD i
   clear hca
   go_wp2_with fail
   go_loopg [7,8,9] es.length (fun G s7 s8 _ wx=>∃(j c:Nat) (ps:List Nat),s7=.int .u64 (c:Int)/\s8=.int .i64 (j:Int)/\j+G=es.length/\c<4294967296/\ByS w L ps wx/\Digs ps/\Hid (∀t,i+es.length<=t->ps.getD t 0=0) /\
    Hid (natOf ps+4294967296^(i+j)*c=natOf (ds.take i)*natOf es+4294967296^i*ds.getD i 0*natOf (es.take j)))
   case atStart=>exact⟨0,0,os,rfl,rfl,by omega,by omega,hst,hod,hz,by show _=_;have:=hval.out;simp [natOf];exact this⟩
   case round =>
    clear hst hod hz hval
    obtain⟨j,c,ps,rfl,rfl,hjG,hcl,hst,hod,hz,hval⟩:=hrel
    have hl:=HL.out
    by_cases kb:j<es.length
    ·obtain⟨f,rfl,hf,hcb⟩:=hcb (by omega)
     have hcE:=hcb j kb
     have hel:=e1.getD j
     have hX:=hod.getD (i+j)
     have c1:=(hst.bel.cell (by exact hg)).trans hcD
     have c2:=(hst.bel.cell (by exact hf)).trans hcE
     have c3:=hst.cell (k:=i+j) (by omega)
     have hstep:=fun o q=>by_step (o:=o) (q:=q) (by rw [hst.len];omega) hval.out
     clear hcb hcD hcE
     generalize ds.getD i 0=D at *
     generalize es.getD j 0=E at *
     generalize hXe:ps.getD (i+j) 0=X at *
     clear hXe
     have hP:=by_prod hdl hel
     obtain⟨o,q,ho,hq,hoq⟩:=parts32 (D*E+X+c)
     have hqb:=by_carry hdl hel hX hcl hoq.1
     have HST:Hid _:=hstep o q hoq.1
     have HO:Hid _:=hoq
     have hmul:IntKind.u64.wrap ((D:Int)*(E:Int))=((D*E:Nat):Int):=by
      rw [IntKind.wrap_u64,show (D:Int)*(E:Int)=((D*E:Nat):Int) by simp];omega
     generalize hPe:D*E=P at *
     clear hPe hstep hoq hval
     have ho':IntKind.u32.wrap ((P:Int)+X+c)=(o:Int):=by have:=ho;simp only [Int.natCast_add] at this;exact this
     have hq':((P:Int)+X+c)/4294967296=(q:Int):=by have:=hq;simp only [Int.natCast_add] at this;exact this
     have hsz:(i:Int)+j<L:=by omega
     have hPz:(P:Int)+X+c<18446744073709551616:=by omega
     clear ho hq
     go_wp2_with fail
     go_quiet (fail)
     replace hst:=hst.drewN nq
     have f3:=hst.frozen (i+j)
     have c3':=hst.cell (k:=i+j) (by omega)
     have hst':=hst.set (i+j) o
     clear c1 c2 c3
     generalize wr.drewN nq=wq at *
     go_wp2
     have hoq:=HO.out
     go_roundg (gk-1)
     case measure=>omega
     case rel=>exact⟨j+1,q,_,rfl,by go_num,by omega,by omega,hst',hod.set _ (by omega),fun t ht=>by rw [getD_set_ne ps (by omega)];exact hz.out t ht,HST⟩
    ·have hjl:j=es.length:=by omega
     subst hjl
     have hend:=by_end (by rw [hst.len];omega) (hz.out _ (Nat.le_refl _)) hval.out
     have HE:Hid _:=hend
     have f3:=hst.frozen (i+es.length)
     have c3:=hst.cell (k:=i+es.length) (by omega)
     have hst':=hst.set (i+es.length) c
     have hwr:IntKind.u32.wrap (c:Int)=(c:Int):=by simp only [IntKind.wrap,IntKind.bits,IntKind.signed];simp;omega
     have hwr2:(c:Int)%4294967296=(c:Int):=by omega
     have hsz:(i:Int)+es.length<L:=by omega
     clear hval hend hl hcD
     generalize ps.getD (i+es.length) 0=X at *
     go_wp2
     go_roundg (ds.length-(i+1))
     case measure=>omega
     case rel=>exact⟨i+1,_,by go_num,by omega,hst',hod.set _ (by omega),fun t ht=>by rw [getD_set_ne ps (by omega)];exact hz.out t (by omega),HE⟩
  ·have hl:=HL.out
   have hlen:os.length<=1000000:=by rw [hst.len];omega
   have hv0:=hval.out
   rw [natOf_take_ge ds (by omega)] at hv0
   have HV:Hid _:=hv0
   clear hv0 hval hl
   go_wp2_with (go_at_call 90;refine (trim_w _ os hod hlen _ hst.row).mono ?_;rintro _ _ ⟨⟨v2,rfl,hv⟩,rfl⟩)
   rw [HV.out] at hv
   go_ret
   exact⟨⟨_,rfl,hv⟩,hst.bel⟩
end Go.Proofs.Ytbejmklkicoibaa
