/- lex: blanks ahead of tokens change none of them (mathematics, part one: what is taken of a text that goes on otherwise behind a blank). -/
import Derived.Test.YtgocelaghggpmaaDoorKa25
namespace Go.Proofs.YtgocelaghggpmaaDoor
open Go.ChangeShapes Go.WideShapes Go.ChangeAt Go.RowKit
def Stp (y:List UInt8):Prop:=y=[]∨∃c l,y=c :: l∧(c=32∨c=10)
theorem span_stp {p:UInt8→Bool} (h32:p 32=false) (h10:p 10=false) {y:List UInt8} (hy:Stp y):∀u,spanL p (u++y)=spanL p u
 | []=>by
   rcases hy with rfl | ⟨c,l,rfl,rfl | rfl⟩
   · rfl
   · rw [List.nil_append,spanL_cons,h32];rfl
   · rw [List.nil_append,spanL_cons,h10];rfl
 | c :: u=>by
   rw [List.cons_append,spanL_cons,spanL_cons,span_stp h32 h10 hy u]
theorem span_ge (p:UInt8→Bool) (z:List UInt8):∀u,spanL p u≤spanL p (u++z)
 | []=>Nat.zero_le _
 | c :: u=>by
   rw [List.cons_append,spanL_cons,spanL_cons]
   have:=span_ge p z u
   split <;> omega
theorem span_in (p:UInt8→Bool) (z:List UInt8):∀u,spanL p (u++z)≤u.length→spanL p u=spanL p (u++z)
 | [],h=>by
   have h':spanL p z≤0:=h
   have:spanL p ([]++z)=0:=by rw [List.nil_append];omega
   rw [this];rfl
 | c :: u,h=>by
   rw [List.cons_append,spanL_cons,List.length_cons] at h
   rw [List.cons_append,spanL_cons,spanL_cons]
   by_cases q:p c=true
   · rw [if_pos q] at h ⊢
     rw [if_pos q,span_in p z u (by omega)]
   · rw [if_neg q,if_neg q]
theorem pre_one (c a:UInt8) (l:List UInt8):List.isPrefixOf [c] (a :: l)=(c==a):=by simp [List.isPrefixOf]
theorem pre_stp {c:UInt8} (h1:c≠32) (h2:c≠10) {y:List UInt8} (hy:Stp y):List.isPrefixOf [c] y=false:=by
 rcases hy with rfl | ⟨a,l,rfl,rfl | rfl⟩
 · rfl
 · rw [pre_one];exact beq_eq_false_iff_ne.2 h1
 · rw [pre_one];exact beq_eq_false_iff_ne.2 h2
theorem dg32:isDg 32=false:=by decide
theorem dg10:isDg 10=false:=by decide
theorem fr_stp {y:List UInt8} (hy:Stp y) (v:List UInt8):frL (v++y)=frL v:=by
 cases v with
 | nil =>
   rw [List.nil_append]
   unfold frL
   rw [pre_stp (by decide) (by decide) hy]
   rfl
 | cons c v =>
   unfold frL lwdL
   rw [List.cons_append,pre_one,pre_one,List.drop_succ_cons,List.drop_succ_cons,List.drop_zero,List.drop_zero,span_stp dg32 dg10 hy]
theorem fr_in (z v:List UInt8) (h:frL (v++z)≤v.length):frL v=frL (v++z):=by
 cases v with
 | nil =>
   have h':frL z≤0:=h
   have:frL ([]++z)=0:=by rw [List.nil_append];omega
   rw [this];rfl
 | cons c v =>
   unfold frL lwdL at h ⊢
   rw [List.cons_append,pre_one,List.drop_succ_cons,List.drop_zero] at h
   rw [List.cons_append,pre_one,pre_one,List.drop_succ_cons,List.drop_succ_cons,List.drop_zero,List.drop_zero]
   by_cases q:((46:UInt8)==c)=true
   · rw [if_pos q] at h ⊢
     rw [if_pos q]
     have g:=span_ge isDg z v
     by_cases d:spanL isDg (v++z)=0
     · rw [if_pos d,if_pos (by omega)]
     · rw [if_neg d] at h ⊢
       rw [List.length_cons] at h
       rw [span_in isDg z v (by omega),if_neg d]
   · rw [if_neg q,if_neg q]
theorem ex_one (c:UInt8) (l:List UInt8):exL (c :: l)=if (((101:UInt8)==c) || ((69:UInt8)==c))=true then (if (List.isPrefixOf [43] l || List.isPrefixOf [45] l)=true then (if spanL isDg (l.drop 1)=0 then 0 else 2+spanL isDg (l.drop 1)) else (if spanL isDg l=0 then 0 else 1+spanL isDg l)) else 0:=by
 unfold exL lwdL
 rw [pre_one,pre_one,List.drop_succ_cons,List.drop_zero,List.drop_succ_cons]
theorem ex_stp {y:List UInt8} (hy:Stp y) (v:List UInt8):exL (v++y)=exL v:=by
 cases v with
 | nil =>
   rw [List.nil_append]
   unfold exL
   rw [pre_stp (c:=101) (by decide) (by decide) hy,pre_stp (c:=69) (by decide) (by decide) hy]
   rfl
 | cons c v =>
   rw [List.cons_append,ex_one,ex_one,span_stp dg32 dg10 hy v]
   cases v with
   | nil =>
     have e1:List.isPrefixOf [43] ([]++y)=false:=pre_stp (by decide) (by decide) hy
     have e2:List.isPrefixOf [45] ([]++y)=false:=pre_stp (by decide) (by decide) hy
     rw [e1,e2]
     rfl
   | cons a v =>
     rw [List.cons_append,pre_one,pre_one,pre_one,pre_one,List.drop_succ_cons,List.drop_succ_cons,List.drop_zero,List.drop_zero,span_stp dg32 dg10 hy v]
theorem ex_in (z v:List UInt8) (h:exL (v++z)≤v.length):exL v=exL (v++z):=by
 cases v with
 | nil =>
   have h':exL z≤0:=h
   have:exL ([]++z)=0:=by rw [List.nil_append];omega
   rw [this];rfl
 | cons c v =>
   rw [List.cons_append,ex_one,List.length_cons] at h
   rw [List.cons_append,ex_one,ex_one]
   by_cases q:(((101:UInt8)==c) || ((69:UInt8)==c))=true
   · rw [if_pos q] at h ⊢
     rw [if_pos q]
     cases v with
     | nil =>
       rw [List.nil_append] at h ⊢
       have e0:(if (List.isPrefixOf [43] ([]:List UInt8) || List.isPrefixOf [45] ([]:List UInt8))=true then (if spanL isDg (([]:List UInt8).drop 1)=0 then 0 else 2+spanL isDg (([]:List UInt8).drop 1)) else (if spanL isDg ([]:List UInt8)=0 then 0 else 1+spanL isDg ([]:List UInt8)))=0:=rfl
       rw [e0]
       rw [List.length_nil] at h
       split at h
       · rename_i k
         rw [if_pos k]
         split at h
         · rename_i k2;rw [if_pos k2]
         · omega
       · rename_i k
         rw [if_neg k]
         split at h
         · rename_i k2;rw [if_pos k2]
         · omega
     | cons a v =>
       rw [List.cons_append,pre_one,pre_one,List.drop_succ_cons,List.drop_zero,List.length_cons] at h
       rw [List.cons_append,pre_one,pre_one,pre_one,pre_one,List.drop_succ_cons,List.drop_succ_cons,List.drop_zero,List.drop_zero]
       by_cases k:(((43:UInt8)==a) || ((45:UInt8)==a))=true
       · rw [if_pos k] at h ⊢
         rw [if_pos k]
         have g:=span_ge isDg z v
         by_cases d:spanL isDg (v++z)=0
         · rw [if_pos d,if_pos (by omega)]
         · rw [if_neg d] at h ⊢
           rw [span_in isDg z v (by omega),if_neg d]
       · rw [if_neg k] at h ⊢
         rw [if_neg k]
         have g:=span_ge isDg z (a :: v)
         rw [List.cons_append] at g
         by_cases d:spanL isDg (a :: (v++z))=0
         · rw [if_pos d,if_pos (by omega)]
         · rw [if_neg d] at h ⊢
           have e:=span_in isDg z (a :: v) (by rw [List.cons_append,List.length_cons];omega)
           rw [List.cons_append] at e
           rw [e,if_neg d]
   · rw [if_neg q,if_neg q]
theorem drop_app {u z:List UInt8} {n:Nat} (h:n≤u.length):(u++z).drop n=u.drop n++z:=List.drop_append_of_le_length h
theorem nu_stp {y:List UInt8} (hy:Stp y) (u:List UInt8):nuL (u++y)=nuL u:=by
 have h1:=spanL_le isDg u
 have h2:=fr_le (u.drop (spanL isDg u))
 rw [List.length_drop] at h2
 unfold nuL
 rw [span_stp dg32 dg10 hy,drop_app h1,fr_stp hy,drop_app (by omega),ex_stp hy]
theorem nu_in (z u:List UInt8) (h:nuL (u++z)≤u.length):nuL u=nuL (u++z):=by
 unfold nuL at h ⊢
 have e1:=span_in isDg z u (by omega)
 rw [←e1] at h ⊢
 have l1:=spanL_le isDg u
 rw [drop_app l1] at h ⊢
 have e2:=fr_in z (u.drop (spanL isDg u)) (by rw [List.length_drop];omega)
 rw [←e2] at h ⊢
 have l2:=fr_le (u.drop (spanL isDg u))
 rw [List.length_drop] at l2
 rw [drop_app (by omega)] at h ⊢
 have e3:=ex_in z (u.drop (spanL isDg u+frL (u.drop (spanL isDg u)))) (by rw [List.length_drop];omega)
 rw [←e3]
theorem sig_stp {y:List UInt8} (hy:Stp y) {u:List UInt8} (hu:u≠[]):sigL (u++y)=sigL u:=by
 unfold sigL
 cases u with
 | nil=>exact absurd rfl hu
 | cons a u =>
   cases u with
   | nil =>
     have e:List.isPrefixOf [46,46] (a :: y)=false:=by
       rw [List.isPrefixOf_cons_cons,pre_stp (by decide) (by decide) hy,Bool.and_false]
     have e2:List.isPrefixOf [46,46] [a]=false:=by
       rw [List.isPrefixOf_cons_cons];exact Bool.and_false _
     rw [List.cons_append,List.nil_append,e,e2]
   | cons b u =>
     rw [List.cons_append,List.cons_append,List.isPrefixOf_cons_cons,pre_one,List.isPrefixOf_cons_cons,pre_one]
theorem sig_in (z u:List UInt8) (hu:u≠[]) (h:sigL (u++z)≤u.length):sigL u=sigL (u++z):=by
 unfold sigL at h ⊢
 cases u with
 | nil=>exact absurd rfl hu
 | cons a u =>
   cases u with
   | nil =>
     have e2:List.isPrefixOf [46,46] [a]=false:=by
       rw [List.isPrefixOf_cons_cons];exact Bool.and_false _
     rw [e2]
     rw [List.cons_append,List.nil_append] at h ⊢
     split at h
     · exact absurd h (by simp)
     · rename_i k
       rw [if_neg k];rfl
   | cons b u =>
     rw [List.cons_append,List.cons_append,List.isPrefixOf_cons_cons,pre_one,List.isPrefixOf_cons_cons,pre_one]
theorem first_same {a a':ByteArray} {u z y:List UInt8} (ha:a.data.toList=u++z) (ha':a'.data.toList=u++y) (hu:u≠[]) (hy:Stp y) (hl:(firstV a).t.size≤u.length):firstV a'=firstV a:=by
 have za:a.data.toList.length=a.size:=by simp
 have za':a'.data.toList.length=a'.size:=by simp
 have u1:1≤u.length:=by
   cases u with
   | nil=>exact absurd rfl hu
   | cons c u=>rw [List.length_cons];omega
 have sa:u.length≤a.size:=by rw [←za,ha,List.length_append];omega
 have sa':u.length≤a'.size:=by rw [←za',ha',List.length_append];omega
 have h0:0<a.size:=by omega
 have hp:∀p,headP p a'=headP p a:=by
   intro p
   unfold headP
   rw [ha,ha']
   cases u with
   | nil=>exact absurd rfl hu
   | cons c u=>rfl
 have cut:∀n,n≤u.length→a'.extract 0 n=a.extract 0 n:=by
   intro n hn
   apply ByteArray.ext
   apply Array.toList_inj.1
   simp only [ByteArray.data_extract,Array.toList_extract,List.extract_eq_take_drop,List.drop_zero,Nat.sub_zero]
   rw [ha,ha',List.take_append_of_le_length hn,List.take_append_of_le_length hn]
 have key:∀f:List UInt8→Nat,(a.extract 0 (f a.data.toList)).size≤u.length→f a.data.toList≤a.size→(f (u++z)≤u.length→f u=f (u++z))→f (u++y)=f u→a'.extract 0 (f a'.data.toList)=a.extract 0 (f a.data.toList):=by
   intro f k1 k2 k3 k4
   rw [ByteArray.size_extract] at k1
   have k5:f (u++z)≤u.length:=by rw [←ha];omega
   rw [ha',k4,k3 k5,ha]
   exact cut _ k5
 unfold firstV at hl ⊢
 rw [hp,hp,hp]
 by_cases c1:headP letB a=true
 · rw [if_pos c1] at hl ⊢
   rw [if_pos c1]
   have:=spanL_le namB a.data.toList
   rw [key (spanL namB) hl (by omega) (fun h=>span_in namB z u h) (span_stp (by decide) (by decide) hy u)]
 · rw [if_neg c1] at hl ⊢
   rw [if_neg c1]
   by_cases c2:headP isDg a=true
   · rw [if_pos c2] at hl ⊢
     rw [if_pos c2]
     have e1:(numF (a.extract 0 (nuL a.data.toList))).t=a.extract 0 (nuL a.data.toList):=by unfold numF;split <;> rfl
     rw [e1] at hl
     have:=nu_le a.data.toList
     rw [key nuL hl (by omega) (fun h=>nu_in z u h) (nu_stp hy u)]
   · rw [if_neg c2] at hl ⊢
     rw [if_neg c2]
     by_cases c3:headP sgnB a=true
     · rw [if_pos c3] at hl ⊢
       rw [if_pos c3]
       have:=sig_le (l:=a.data.toList) (by omega)
       rw [key sigL hl (by omega) (fun h=>sig_in z u hu h) (sig_stp hy hu)]
     · rw [if_neg c3,if_neg c3]
end Go.Proofs.YtgocelaghggpmaaDoor
