/- lex: the first token of any text; tokens in memory, one more at their end; Lex's model. -/
import Derived.Test.YtgocelaghggpmaaGreatDoorKo31
import Derived.Handy
namespace Go.Proofs.YtgocelaghggpmaaGreatDoor
open Go.ChangeShapes Go.WideShapes Go.ChangeAt Go.RowKit Go.Maps
def headP (p:UInt8→Bool) (s:ByteArray):Bool:=match s.data.toList with
 | []=>false
 | c :: _=>p c
theorem headP_is {p:UInt8→Bool} {s:ByteArray} (h:0<s.size):headP p s=p s[0]:=by
 unfold headP
 have e:=byte_drop (s:=s) (k:=0) h
 rw [List.drop_zero] at e
 rw [e]
structure Fst where
 t:ByteArray
 k:Int
 S:ByteArray
 N:Int
 D:Int
 e:Int
def nameF (t:ByteArray):Fst:=⟨t,namK t,namS t,0,0,namE t⟩
def numF (t:ByteArray):Fst:=if (readV t).2.2=0 then ⟨t,3,⟨#[]⟩,(readV t).1,(readV t).2.1,0⟩ else ⟨t,0,⟨#[]⟩,0,0,(readV t).2.2⟩
def signF (t:ByteArray):Fst:=⟨t,4,t,0,0,0⟩
def firstV (s:ByteArray):Fst :=
 if headP letB s then nameF (s.extract 0 (spanL namB s.data.toList))
 else if headP isDg s then numF (s.extract 0 (nuL s.data.toList))
 else if headP sgnB s then signF (s.extract 0 (sigL s.data.toList))
 else ⟨⟨#[]⟩,0,⟨#[]⟩,0,0,120⟩
theorem sig_le {l:List UInt8} (h:1≤l.length):sigL l≤l.length:=by
 unfold sigL
 split
 · rename_i k
   match l,k with
   | a :: b :: l,_=>rw [List.length_cons,List.length_cons];omega
   | [a],k=>exact absurd k (by simp [List.isPrefixOf])
 · exact h
theorem num_same {t:ByteArray} {w:World} {r:Ending} {w':World} (h:r=.returned (.tuple #[if (readV t).2.2=0 then .agg #[.int .i64 3,.string ⟨#[]⟩,.int .i64 (readV t).1,.int .i64 (readV t).2.1,.int .i64 0] else .agg #[.int .i64 0,.string ⟨#[]⟩,.int .i64 0,.int .i64 0,.int .i64 0],.int .i64 (readV t).2.2])∧Below w.heap.size w w') :
   r=.returned (.tuple #[.agg #[.int .i64 (numF t).k,.string (numF t).S,.int .i64 (numF t).N,.int .i64 (numF t).D,.int .i64 0],.int .i64 (numF t).e])∧Below w.heap.size w w':=by
 obtain⟨h1,h2⟩:=h
 refine⟨?_,h2⟩
 rw [h1]
 unfold numF
 by_cases c:(readV t).2.2=0
 · rw [if_pos c,if_pos c,c]
 · rw [if_neg c,if_neg c]
theorem first_w (s:ByteArray) (h0:0<s.size) (hs:s.size≤1000000) (D C:Nat) (w:World) (A:SortsAt w D C) (T:ErrR w) :
   Calls Tryz.prog 11 #[.slice (some ⟨D,0,none⟩) 3 3,.string s] w fun r w'=>r=.returned (.tuple #[.string (firstV s).t,.agg #[.int .i64 (firstV s).k,.string (firstV s).S,.int .i64 (firstV s).N,.int .i64 (firstV s).D,.int .i64 0],.int .i64 (firstV s).e])∧Below w.heap.size w w':=by
 have zz:s.data.toList.length=s.size:=by simp
 have b0:=fun W=>isLetter_w s[0] W
 have b1:=fun W=>isDigit_w s[0] W
 have b2:=fun W=>isSign_w s[0] W
 unfold firstV
 rw [headP_is h0,headP_is h0,headP_is h0]
 cases p0:letB s[0]
 · rw [p0] at b0
   cases p1:isDg s[0]
   · rw [p1] at b1
     cases p2:sgnB s[0]
     · rw [p2] at b2
       exact lexNone_w s D C h0 b0 b1 b2 w A
     · rw [p2] at b2
       have hn:=sig_le (l:=s.data.toList) (by omega)
       rw [zz] at hn
       have cl:=fun W=>signLength_w s W
       rw [if_neg (by decide),if_neg (by decide),if_pos rfl]
       unfold signF
       dsimp only
       generalize sigL s.data.toList=n at *
       exact lexSigned_w s (s.extract 0 n) 4 0 0 0 n D C h0 hn b0 b1 b2 cl w A (fun W _=>lexSign_w _ W)
   · rw [p1] at b1
     have hn:=nu_le s.data.toList
     rw [zz] at hn
     have zt:((s.extract 0 (nuL s.data.toList)).size:Int)≤9223372036854775807:=by rw [ByteArray.size_extract];omega
     have e1:(numF (s.extract 0 (nuL s.data.toList))).t=s.extract 0 (nuL s.data.toList):=by unfold numF;split <;> rfl
     simp only [Bool.false_eq_true,if_false,if_true]
     rw [e1]
     have cl:=fun W=>numberLength_w s (by omega) W
     have cm:=fun W (hb:Below w.heap.size w W)=>(number_w (s.extract 0 (nuL s.data.toList)) _ _ _ W fun W' hb'=>readT_w _ zt W' (T.on (later hb hb'))).mono fun _ _ h=>num_same h
     generalize nuL s.data.toList=n at *
     exact lexNumber_w s _ _ _ _ _ n D C h0 hn b0 b1 cl w A cm
 · rw [p0] at b0
   have hn:=spanL_le namB s.data.toList
   rw [zz] at hn
   have zt:(s.extract 0 (spanL namB s.data.toList)).size≤maxLen:=by rw [ByteArray.size_extract];unfold maxLen;omega
   have cl:=fun W=>nameLength_w s (by omega) W
   have cm:=fun W (hb:Below w.heap.size w W)=>name_w (s.extract 0 (spanL namB s.data.toList)) zt C W (A.tell.keep hb)
   rw [if_pos rfl]
   unfold nameF
   dsimp only
   generalize spanL namB s.data.toList=n at *
   exact lexName_w s (namS (s.extract 0 n)) (namK (s.extract 0 n)) 0 0 (namE (s.extract 0 n)) n D C h0 hn b0 cl w A cm
def tkCells (T:List Tk):List Value:=T.flatMap fun z=>[.int .i64 z.k,.string z.s,.int .i64 z.n,.int .i64 z.d,.int .i64 z.a]
def OwnK (B:Nat) (w:World) (v:Value) (T:List Tk):Prop:=w.ownsRow B 35 5 v T.length (tkCells T)
theorem Tryz.infoToken:(Tryz.prog.info? 35).map (fun i=>(i.zero,i.size,i.bytes))=some (some (.agg #[.int .i64 0,.string ⟨#[]⟩,.int .i64 0,.int .i64 0,.int .i64 0]),5,48):=by kernel_rfl
theorem ownsK_keep {B:Nat} {w w2:World} {e:TypeId} {sz:Nat} {v:Value} {n:Nat} {xs:List Value} (h:w.ownsRow B e sz v n xs) (hb:Below w.heap.size w w2):w2.ownsRow B e sz v n xs:=by
 refine⟨h.1, ?_⟩
 rcases h.2 with hn | ⟨g,cap,cur,hv,hb2,hg,rest⟩
 · exact .inl hn
 · have hlt:g<w.heap.size:=(Array.getElem?_eq_some_iff.1 hg).1
   refine .inr ⟨g,cap,cur,hv,hb2, ?_,rest⟩
   rw [←hg]
   exact hb.block g hlt
theorem OwnK.keep {B:Nat} {w w2:World} {v:Value} {T:List Tk} (h:OwnK B w v T) (hb:Below w.heap.size w w2):OwnK B w2 v T:=ownsK_keep h hb
theorem OwnK.form {B:Nat} {w:World} {v:Value} {T:List Tk} (h:OwnK B w v T):∃A C,v=.slice A T.length C:=by
 rcases h.2 with ⟨rfl,hn⟩ | ⟨g,cap,cur,rfl, -⟩
 · exact⟨none,0,by rw [hn]⟩
 · exact⟨_,_,rfl⟩
theorem wpList_pushK {B:Nat} {w0 wr:World} {ops:Array Oper} {rest:List Oper} {o:Oper} {a:Act} {Q:Exit→Act→World→Prop} (hgd:o.guard=none) (s x:Operand)
   (ho:o.op=.call { callee:=.builtin .append,args:=#[s,x],argTypes:=#[22,22] }) (v:Value) (T:List Tk) (z:Tk) (hs:a.eval s=v) (hx:a.eval x=.slice (some ⟨wr.heap.size,0,none⟩) 1 1)
   (hown:OwnK B wr v T) (hl:T.length≤200000) (hB:B≤wr.heap.size) (hbel:Below B w0 wr)
   (h:∀v' w',OwnK B w' v' (T++[z])→Below B w0 w'→B≤w'.heap.size→Below B wr w'→wr.heap.size≤w'.heap.size→(∀b o u,wr.cell? ⟨b,o,none⟩=some u→v.ownBlock≠some b→w'.cell? ⟨b,o,none⟩=some u)→wpList Tryz.prog ops Q rest (a.put o.dst v') w'):wpList Tryz.prog ops Q (o :: rest) a (wr.alloc (.cells #[.int .i64 z.k,.string z.s,.int .i64 z.n,.int .i64 z.d,.int .i64 z.a] 35)):=by
 obtain⟨i0,hi,hz0,hz1,hz2⟩:=info_parts Tryz.infoToken
 have hal:Below wr.heap.size wr (wr.alloc (.cells #[.int .i64 z.k,.string z.s,.int .i64 z.n,.int .i64 z.d,.int .i64 z.a] 35)):=(Below.refl _ _).alloc (Nat.le_refl _) _
 have hown':(wr.alloc (.cells #[.int .i64 z.k,.string z.s,.int .i64 z.n,.int .i64 z.d,.int .i64 z.a] 35)).ownsRow B 35 5 v T.length (tkCells T):=ownsK_keep hown hal
 refine wpList_append_own _ hgd s x 22 ho B 35 i0 (.agg #[.int .i64 0,.string ⟨#[]⟩,.int .i64 0,.int .i64 0,.int .i64 0]) 5 48 Tryz.underlying22 hi hz0 hz1 hz2 rfl (by decide) v T.length _ hs hown' ⟨wr.heap.size,0,none⟩ 1 1 [.int .i64 z.k,.string z.s,.int .i64 z.n,.int .i64 z.d,.int .i64 z.a] hx rfl ?_ ?_ (by unfold maxLen;omega) (by omega) (by simp;omega) ?_
 · intro j u hj
   match j,hj with
   | 0,hj=>simp at hj;subst hj;simp [Addr.add]
   | 1,hj=>simp at hj;subst hj;simp [Addr.add]
   | 2,hj=>simp at hj;subst hj;simp [Addr.add]
   | 3,hj=>simp at hj;subst hj;simp [Addr.add]
   | 4,hj=>simp at hj;subst hj;simp [Addr.add]
 · intro u hu
   simp at hu
   rcases hu with rfl | rfl | rfl | rfl | rfl <;> rfl
 · intro v' w' h1 h2 _
   have lt:∀k,v.ownBlock=some k→B≤k:=fun k hk=>(World.ownsRow.lt hown k hk).1
   have sz:=h2.size
   simp only [World.size_alloc] at sz
   refine h v' w' ?_ ((hbel.alloc hB _).grown h2 (by simp;omega) lt) (by omega) (((Below.refl B wr).alloc hB _).grown h2 (by simp;omega) lt) (by omega) ?_
   · unfold OwnK
     have e:tkCells (T++[z])=tkCells T++[.int .i64 z.k,.string z.s,.int .i64 z.n,.int .i64 z.d,.int .i64 z.a]:=by simp [tkCells]
     rw [e,List.length_append]
     exact h1
   · intro b o u hu hne
     have hlt:b<wr.heap.size:=World.block_lt_of_cell? _ _ hu
     exact h2.cell (by rw [World.cell?_alloc_old _ _ _ (Nat.ne_of_lt hlt)];exact hu) (Ne.symm hne)
structure LexR where
 t:List Tk
 e:Int
 p:Nat
def lexF (s:ByteArray):Nat→Nat→List Tk→LexR
 | 0,_,T=>⟨T++[⟨0,⟨#[]⟩,0,0,s.size⟩],0,0⟩
 | g+1,p,T =>
   if p<s.size then
     if T.length=4000 then ⟨[],2,p⟩
     else if (firstV (s.extract p s.size)).e≠0 then ⟨[],(firstV (s.extract p s.size)).e,p⟩
     else lexF s g (p+(firstV (s.extract p s.size)).t.size+gapS false (fromL s (p+(firstV (s.extract p s.size)).t.size))) (T++[⟨(firstV (s.extract p s.size)).k,(firstV (s.extract p s.size)).S,(firstV (s.extract p s.size)).N,(firstV (s.extract p s.size)).D,p⟩])
   else ⟨T++[⟨0,⟨#[]⟩,0,0,s.size⟩],0,0⟩
def lexV (s:ByteArray):LexR:=if 20000<s.size then ⟨[],2,0⟩ else lexF s (s.size+1) (gapS false s.data.toList) []
end Go.Proofs.YtgocelaghggpmaaGreatDoor
