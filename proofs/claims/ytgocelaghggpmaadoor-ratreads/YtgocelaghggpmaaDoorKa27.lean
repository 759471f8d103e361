/- lex: blanks ahead of tokens change none of them (mathematics, part two). -/
import Derived.Test.YtgocelaghggpmaaDoorKa26
namespace Go.Proofs.YtgocelaghggpmaaDoor
open Go.ChangeShapes Go.WideShapes Go.ChangeAt Go.RowKit
inductive GapRun:Bool→List UInt8→Bool→Prop
 | nil (b:Bool):GapRun b [] b
 | line {c:UInt8} {l:List UInt8} {b:Bool}:linB c=true→GapRun true l b→GapRun true (c :: l) b
 | nl {c:UInt8} {l:List UInt8} {b:Bool}:linB c=false→GapRun false l b→GapRun true (c :: l) b
 | blk {c:UInt8} {l:List UInt8} {b:Bool}:blkB c=true→GapRun false l b→GapRun false (c :: l) b
 | cmt {c:UInt8} {l:List UInt8} {b:Bool}:blkB c=false→cmtB (c :: l)=true→GapRun true l b→GapRun false (c :: l) b
theorem cmt_app {l r:List UInt8} (h:cmtB l=true):cmtB (l++r)=true:=by
 unfold cmtB at h ⊢
 match l,h with
 | [],h=>exact absurd h (by simp [List.isPrefixOf])
 | [a],h=>exact absurd h (by simp [List.isPrefixOf])
 | a :: b :: l,h=>simpa [List.isPrefixOf] using h
theorem GapRun.gap {b b':Bool} {g:List UInt8} (h:GapRun b g b') (r:List UInt8):gapS b (g++r)=g.length+gapS b' r:=by
 induction h with
 | nil b=>rw [List.nil_append,List.length_nil,Nat.zero_add]
 | @line c l b h1 _ ih =>
   have e:gapS true (c :: (l++r))=if linB c then gapS true (l++r)+1 else gapS false (l++r)+1:=rfl
   rw [List.cons_append,List.length_cons,e,if_pos h1,ih];omega
 | @nl c l b h1 _ ih =>
   have e:gapS true (c :: (l++r))=if linB c then gapS true (l++r)+1 else gapS false (l++r)+1:=rfl
   rw [List.cons_append,List.length_cons,e,if_neg (by rw [h1];decide),ih];omega
 | @blk c l b h1 _ ih =>
   have e:gapS false (c :: (l++r))=if blkB c then gapS false (l++r)+1 else if cmtB (c :: (l++r)) then gapS true (l++r)+1 else 0:=rfl
   rw [List.cons_append,List.length_cons,e,if_pos h1,ih];omega
 | @cmt c l b h1 h2 _ ih =>
   have k:=cmt_app (r:=r) h2
   rw [List.cons_append] at k
   have e:gapS false (c :: (l++r))=if blkB c then gapS false (l++r)+1 else if cmtB (c :: (l++r)) then gapS true (l++r)+1 else 0:=rfl
   rw [List.cons_append,List.length_cons,e,if_neg (by rw [h1];decide),if_pos k,ih];omega
theorem GapRun.app {b b' b'':Bool} {g g':List UInt8} (h:GapRun b g b') (h':GapRun b' g' b''):GapRun b (g++g') b'':=by
 induction h with
 | nil b=>exact h'
 | line h1 _ ih=>exact .line h1 (ih h')
 | nl h1 _ ih=>exact .nl h1 (ih h')
 | blk h1 _ ih=>exact .blk h1 (ih h')
 | cmt h1 h2 _ ih=>exact .cmt h1 (cmt_app h2) (ih h')
theorem gap_run:∀(b:Bool) (l:List UInt8),∃b',GapRun b (l.take (gapS b l)) b'∧(b'=true→l.drop (gapS b l)=[])
 | b,[]=>⟨b,by cases b <;> exact .nil _,fun _=>by cases b <;> rfl⟩
 | true,c :: l=>by
   have e:gapS true (c :: l)=if linB c then gapS true l+1 else gapS false l+1:=rfl
   by_cases h:linB c=true
   · obtain⟨b',h1,h2⟩:=gap_run true l
     rw [e,if_pos h,List.take_succ_cons,List.drop_succ_cons]
     exact⟨b',.line h h1,h2⟩
   · obtain⟨b',h1,h2⟩:=gap_run false l
     rw [e,if_neg h,List.take_succ_cons,List.drop_succ_cons]
     exact⟨b',.nl (by simpa using h) h1,h2⟩
 | false,c :: l=>by
   have e:gapS false (c :: l)=if blkB c then gapS false l+1 else if cmtB (c :: l) then gapS true l+1 else 0:=rfl
   by_cases h:blkB c=true
   · obtain⟨b',h1,h2⟩:=gap_run false l
     rw [e,if_pos h,List.take_succ_cons,List.drop_succ_cons]
     exact⟨b',.blk h h1,h2⟩
   · by_cases k:cmtB (c :: l)=true
     · obtain⟨b',h1,h2⟩:=gap_run true l
       rw [e,if_neg h,if_pos k,List.take_succ_cons,List.drop_succ_cons]
       refine⟨b',.cmt (by simpa using h) ?_ h1,h2⟩
       match l,k with
       | [],k=>exact absurd k (by simp [cmtB,List.isPrefixOf])
       | d :: l,k =>
         have e2:gapS true (d :: l)=if linB d then gapS true l+1 else gapS false l+1:=rfl
         obtain⟨n,hn⟩:∃n,gapS true (d :: l)=n+1:=by
           rw [e2]
           split
           · exact⟨_,rfl⟩
           · exact⟨_,rfl⟩
         rw [hn,List.take_succ_cons]
         unfold cmtB at k ⊢
         simpa [List.isPrefixOf] using k
     · rw [e,if_neg h,if_neg k]
       exact⟨false,.nil _,fun q=>absurd q (by decide)⟩
structure InsB (x:List UInt8):Prop where
 none:x=[]∨(Stp x∧x≠[])
 run:x≠[]→∀b,GapRun b x false
theorem gap_ins {g x r:List UInt8} {b:Bool} (h:GapRun false g b) (hx:InsB x) (hb:b=true→r=[]) (hr:gapS false r=0):gapS false (g++x++r)=g.length+x.length:=by
 by_cases c:x=[]
 · subst c
   rw [List.append_nil,h.gap]
   cases b
   · rw [hr];rfl
   · rw [hb rfl];rfl
 · rw [(h.app (hx.run c b)).gap,hr,List.length_append];rfl
def Sim (Z Y:List UInt8):Prop:=∃u z y,Z=u++z∧Y=u++y∧Stp y
theorem Sim.app {Z Y:List UInt8} (v:List UInt8) (h:Sim Z Y):∃u z y,v++Z=v++u++z∧v++Y=v++u++y∧Stp y:=by
 obtain⟨u,z,y,h1,h2,h3⟩:=h
 exact⟨u,z,y,by rw [h1,List.append_assoc],by rw [h2,List.append_assoc],h3⟩
def bld (s:ByteArray) (x:Nat→List UInt8):Nat→Nat→Nat→List UInt8
 | 0,_,_=>[]
 | g+1,p,i=>if p<s.size then (fromL s p).take (nxP s p-p)++(x (i+1)++bld s x g (nxP s p) (i+1)) else []
theorem from_split (s:ByteArray) (p q:Nat) (h:p≤q):fromL s p=(fromL s p).take (q-p)++fromL s q:=by
 have:=List.take_append_drop (q-p) (fromL s p)
 rw [from_drop,show p+(q-p)=q by omega] at this
 exact this.symm
theorem stp_app {x r:List UInt8} (h:Stp x) (hx:x≠[]):Stp (x++r):=by
 rcases h with rfl | ⟨c,l,rfl,k⟩
 · exact absurd rfl hx
 · exact Or.inr ⟨c,l++r,rfl,k⟩
theorem bld_sim (s:ByteArray) (x:Nat→List UInt8) (hx:∀i,InsB (x i)):∀g p i T,(lexF s g p T).e=0→s.size<p+g→p≤s.size→∀v,InsB v→Sim (fromL s p) (v++bld s x g p i)
 | 0,p,i,T,_,h1,h2,v,_=>by omega
 | g+1,p,i,T,he,h1,h2,v,hv=>by
   rcases hv.none with rfl | ⟨k1,k2⟩
   · rw [List.nil_append]
     unfold bld
     by_cases c:p<s.size
     · rw [if_pos c]
       obtain⟨f1, -,f3⟩:=lexF_step s g p T c he
       have n:=nx_gt s p c f1
       rw [f3] at he
       obtain⟨u,z,y,q1,q2,q3⟩:=(bld_sim s x hx g (nxP s p) (i+1) _ he (by omega) n.2 _ (hx (i+1))).app ((fromL s p).take (nxP s p-p))
       refine⟨_,z,y, ?_,q2,q3⟩
       rw [←q1]
       exact from_split s p _ (by omega)
     · rw [if_neg c,from_end c]
       exact⟨[],[],[],rfl,rfl,Or.inl rfl⟩
   · exact⟨[],fromL s p,v++bld s x (g+1) p i,rfl,rfl,stp_app k1 k2⟩
theorem bld_gap (s:ByteArray) (x:Nat→List UInt8) (hx:∀i,InsB (x i)) (g p i:Nat) (T:List Tk) (he:(lexF s g p T).e=0) (h1:s.size<p+g) (hg:gapS false (fromL s p)=0):gapS false (bld s x g p i)=0:=by
 cases g with
 | zero=>rfl
 | succ g =>
   unfold bld
   by_cases c:p<s.size
   · rw [if_pos c]
     obtain⟨f1, -,f3⟩:=lexF_step s g p T c he
     have n:=nx_gt s p c f1
     rw [f3] at he
     obtain⟨u,z,y,q1,q2,q3⟩:=(bld_sim s x hx g (nxP s p) (i+1) _ he (by omega) n.2 _ (hx (i+1))).app ((fromL s p).take (nxP s p-p))
     rw [q2]
     rw [from_split s p (nxP s p) (by omega),q1] at hg
     have hl:((fromL s p).take (nxP s p-p)).length=nxP s p-p:=by
       rw [List.length_take,from_len];omega
     match hV:(fromL s p).take (nxP s p-p)++u with
     | [] =>
       have:=congrArg List.length hV
       rw [List.length_append,List.length_nil] at this
       omega
     | a :: V =>
       rw [hV] at hg
       have e:∀r,gapS false (a :: V++r)=if blkB a then gapS false (V++r)+1 else if cmtB (a :: (V++r)) then gapS true (V++r)+1 else 0:=fun r=>rfl
       rw [e] at hg ⊢
       by_cases k1:blkB a=true
       · rw [if_pos k1] at hg
         exact absurd hg (by omega)
       · rw [if_neg k1] at hg ⊢
         by_cases k2:cmtB (a :: (V++z))=true
         · rw [if_pos k2] at hg
           exact absurd hg (by omega)
         · have k3:¬cmtB (a :: (V++y))=true:=by
             intro q
             unfold cmtB at k2 q
             rw [List.isPrefixOf_cons_cons] at k2 q
             cases V with
             | nil =>
               rw [List.nil_append,pre_stp (by decide) (by decide) q3,Bool.and_false] at q
               exact absurd q (by decide)
             | cons d V =>
               rw [List.cons_append,pre_one] at k2 q
               exact k2 q
           rw [if_neg k3]
   · rw [if_neg c];rfl
def noA (t:Tk):Tk:=⟨t.k,t.s,t.n,t.d,0⟩
theorem bld_lex (s t:ByteArray) (x:Nat→List UInt8) (hx:∀i,InsB (x i)):∀g p i T q g' T',(lexF s g p T).e=0→s.size<p+g→p≤s.size→gapS false (fromL s p)=0→fromL t q=bld s x g p i→q≤t.size→t.size<q+g'→T'.length=T.length →
   ∃U U',lexF s g p T=⟨T++U,0,0⟩∧lexF t g' q T'=⟨T'++U',0,0⟩∧U'.map noA=U.map noA
 | 0,p,i,T,q,g',T',_,h1,h2,_,_,_,_,_=>by omega
 | g+1,p,i,T,q,g',T',he,h1,h2,hg,hq,hqs,hg',hT=>by
   have lq:=congrArg List.length hq
   rw [from_len] at lq
   by_cases c:p<s.size
   · obtain⟨f1,f2,f3⟩:=lexF_step s g p T c he
     have n:=nx_gt s p c f1
     rw [f3] at he
     have SM:=(bld_sim s x hx g (nxP s p) (i+1) _ he (by omega) n.2 _ (hx (i+1))).app ((fromL s p).take (nxP s p-p))
     have BG:=bld_gap s x hx g (nxP s p) (i+1) _ he (by omega) (by unfold nxP;rw [←from_drop s (p+(firstV (s.extract p s.size)).t.size)];exact gap_again false _)
     unfold bld at hq lq
     rw [if_pos c] at hq lq
     have hl:((fromL s p).take (nxP s p-p)).length=nxP s p-p:=by
       rw [List.length_take,from_len];omega
     rw [List.length_append,hl] at lq
     have cq:q<t.size:=by omega
     have z0:0<(s.extract p s.size).size:=by rw [ext_size];omega
     have fg:=first_ge (s.extract p s.size) z0 f1
     obtain⟨u,z,y,q1,q2,q3⟩:=SM
     have sp:=from_split s p (nxP s p) (by omega)
     have fs:firstV (t.extract q t.size)=firstV (s.extract p s.size):=by
       refine first_same (u:=(fromL s p).take (nxP s p-p)++u) (z:=z) (y:=y) ?_ ?_ ?_ q3 ?_
       · rw [ext_list,←q1]
         exact sp
       · rw [ext_list,←q2]
         exact hq
       · intro e
         have:=congrArg List.length e
         rw [List.length_append,hl,List.length_nil] at this
         omega
       · rw [List.length_append,hl]
         unfold nxP
         omega
     have gl:=gapS_le false (fromL s (p+(firstV (s.extract p s.size)).t.size))
     obtain⟨bb,r1,r2⟩:=gap_run false (fromL s (p+(firstV (s.extract p s.size)).t.size))
     have mm:nxP s p=p+(firstV (s.extract p s.size)).t.size+gapS false (fromL s (p+(firstV (s.extract p s.size)).t.size)):=rfl
     generalize hm:(firstV (s.extract p s.size)).t.size=m at *
     generalize hgn:gapS false (fromL s (p+m))=gn at *
     rw [from_drop] at r2
     rw [from_len] at gl
     have tm:fromL t (q+m)=(fromL s (p+m)).take gn++x (i+1)++bld s x g (nxP s p) (i+1):=by
       rw [←from_drop t q,hq,List.drop_append_of_le_length (by rw [hl];omega),List.append_assoc]
       congr 1
       rw [List.drop_take,from_drop,show nxP s p-p-m=gn by omega]
     have gt:gapS false (fromL t (q+m))=gn+(x (i+1)).length:=by
       rw [tm,gap_ins r1 (hx (i+1)) ?_ BG,List.length_take,from_len]
       · omega
       · intro hb
         have hr:=r2 hb
         have hlen:=congrArg List.length hr
         rw [from_len,List.length_nil] at hlen
         cases g with
         | zero=>rfl
         | succ g=>unfold bld;rw [if_neg (by omega)]
     have nt:nxP t q=q+m+(gn+(x (i+1)).length):=by
       unfold nxP
       rw [fs,hm,gt]
     have tn:fromL t (nxP t q)=bld s x g (nxP s p) (i+1):=by
       rw [nt,←from_drop t (q+m),tm,←List.length_take_of_le (i:=gn) (l:=fromL s (p+m)) (by rw [from_len];omega),←List.length_append,List.length_take_of_le (by rw [from_len];omega)]
       exact List.drop_left
     obtain⟨G,rfl⟩:∃G,g'=G+1:=⟨g'-1,by omega⟩
     have tk:noA (tkP t q)=noA (tkP s p):=by
       unfold tkP noA
       rw [fs]
     have nq:=nx_gt t q cq (by rw [fs];exact f1)
     obtain⟨U,U',v1,v2,v3⟩:=bld_lex s t x hx g (nxP s p) (i+1) (T++[tkP s p]) (nxP t q) G (T'++[tkP t q]) he (by omega) n.2 (by unfold nxP;rw [←from_drop s (p+(firstV (s.extract p s.size)).t.size)];exact gap_again false _) tn nq.2 (by omega) (by rw [List.length_append,List.length_append,hT];rfl)
     refine⟨tkP s p :: U,tkP t q :: U', ?_, ?_, ?_⟩
     · rw [f3,v1,List.append_assoc];rfl
     · rw [lexF_go t G q T' cq (by rw [fs];exact f1) (by omega),v2,List.append_assoc];rfl
     · rw [List.map_cons,List.map_cons,tk,v3]
   · unfold bld at hq lq
     rw [if_neg c] at hq lq
     rw [List.length_nil] at lq
     exact⟨[endK s.size],[endK t.size],lexF_end s _ p T c,lexF_end t _ q T' (by omega),rfl⟩
end Go.Proofs.YtgocelaghggpmaaDoor
