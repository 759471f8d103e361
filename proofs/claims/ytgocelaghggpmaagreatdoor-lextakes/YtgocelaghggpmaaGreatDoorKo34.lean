/- lex: tokens as they lie in memory; a text that is a number is one token. -/
import Derived.Test.YtgocelaghggpmaaGreatDoorKo33
namespace Go.Proofs.YtgocelaghggpmaaGreatDoor
open Go.ChangeShapes Go.WideShapes Go.ChangeAt Go.RowKit Go.Maps
def Tks (w:World) (A:Option Addr) (n:Nat) (Z:Nat→Tk):Prop :=
 ∀i,i<n→∃b o,A=some ⟨b,o,none⟩∧b<w.heap.size∧w.cell? ⟨b,o+i*5,none⟩=some (.int .i64 (Z i).k)∧w.cell? ⟨b,o+i*5+1,none⟩=some (.string (Z i).s)∧w.cell? ⟨b,o+i*5+2,none⟩=some (.int .i64 (Z i).n)∧w.cell? ⟨b,o+i*5+3,none⟩=some (.int .i64 (Z i).d)∧w.cell? ⟨b,o+i*5+4,none⟩=some (.int .i64 (Z i).a)
theorem Tks.keep {w w2:World} {A:Option Addr} {n:Nat} {Z:Nat→Tk} (h:Tks w A n Z) (hb:Below w.heap.size w w2):Tks w2 A n Z:=fun i hi=>by
 obtain⟨b,o,e,l,c0,c1,c2,c3,c4⟩:=h i hi
 exact⟨b,o,e,Nat.lt_of_lt_of_le l hb.size,keepsC hb c0 l,keepsC hb c1 l,keepsC hb c2 l,keepsC hb c3 l,keepsC hb c4 l⟩
theorem tkCells_at (T:List Tk) (i:Nat) (z:Tk) (h:T[i]?=some z):(tkCells T)[i*5]?=some (.int .i64 z.k)∧(tkCells T)[i*5+1]?=some (.string z.s)∧(tkCells T)[i*5+2]?=some (.int .i64 z.n)∧(tkCells T)[i*5+3]?=some (.int .i64 z.d)∧(tkCells T)[i*5+4]?=some (.int .i64 z.a):=by
 induction T generalizing i with
 | nil=>simp at h
 | cons q t ih =>
   have e:tkCells (q :: t)=.int .i64 q.k :: .string q.s :: .int .i64 q.n :: .int .i64 q.d :: .int .i64 q.a :: tkCells t:=rfl
   rw [e]
   cases i with
   | zero =>
     simp at h
     subst h
     exact⟨rfl,rfl,rfl,rfl,rfl⟩
   | succ i =>
     have h':t[i]?=some z:=by simpa using h
     have:=ih i h'
     rw [show (i+1)*5=i*5+5 by omega,show i*5+5+1=(i*5+1)+5 by omega,show i*5+5+2=(i*5+2)+5 by omega,show i*5+5+3=(i*5+3)+5 by omega,show i*5+5+4=(i*5+4)+5 by omega]
     simpa using this
theorem ownK_tks {B:Nat} {w:World} {v:Value} {T:List Tk} (h:OwnK B w v T) (d:Tk):∃A C,v=.slice A T.length C∧Tks w A T.length (fun i=>T.getD i d):=by
 have h':w.ownsRow B 35 5 v T.length (tkCells T):=h
 rcases h'.2 with ⟨rfl,hn⟩ | ⟨g,cap,cur,rfl, -⟩
 · rw [hn]
   exact⟨none,0,rfl,fun i hi=>by omega⟩
 · refine⟨_,cap,rfl,fun i hi=>?_⟩
   have hl:=(World.ownsRow.lt h g rfl).2
   have hg:T[i]?=some (T.getD i d):=by simp [List.getD,hi]
   obtain⟨a,b,c,e,f⟩:=tkCells_at T i _ hg
   refine⟨g,0,rfl,hl, ?_, ?_, ?_, ?_, ?_⟩
   · rw [Nat.zero_add,World.ownsRow.cellAt h (i*5) (by omega)];exact a
   · rw [Nat.zero_add,World.ownsRow.cellAt h (i*5+1) (by omega)];exact b
   · rw [Nat.zero_add,World.ownsRow.cellAt h (i*5+2) (by omega)];exact c
   · rw [Nat.zero_add,World.ownsRow.cellAt h (i*5+3) (by omega)];exact e
   · rw [Nat.zero_add,World.ownsRow.cellAt h (i*5+4) (by omega)];exact f
theorem span_upto (s:ByteArray) (k:Nat):spanL isDg (fromL s k)=uptoN s k-k:=by
 unfold spanL fromL uptoN
 omega
theorem pre_head (s:ByteArray) (k:Nat) (c:UInt8):List.isPrefixOf [c] (fromL s k)=headB (s.extract k s.size) c.toNat:=by
 unfold headB
 rw [ext_list]
 show List.isPrefixOf [c] (s.data.toList.drop k)=_
 cases s.data.toList.drop k with
 | nil=>rfl
 | cons a l =>
   simp only [List.isPrefixOf,Bool.and_true]
   rw [Bool.eq_iff_iff,beq_iff_eq,beq_iff_eq]
   constructor
   · rintro rfl;rfl
   · intro h;exact (UInt8.toNat_inj.1 h).symm
theorem lwd_from (s:ByteArray) (k n:Nat):lwdL (fromL s k) n=if uptoN s (k+n)-(k+n)=0 then 0 else n+(uptoN s (k+n)-(k+n)):=by
 unfold lwdL
 rw [from_drop,span_upto]
theorem fr_none {s:ByteArray} {a:Nat} (h:headB (s.extract a s.size) 46=false):frL (fromL s a)=0:=by
 unfold frL
 rw [pre_head]
 show (if headB (s.extract a s.size) 46=true then _ else _)=0
 rw [h];rfl
theorem fr_some {s:ByteArray} {a b:Nat} (h:headB (s.extract a s.size) 46=true) (hb:uptoN s (a+1)=b) (hl:a+1<b):frL (fromL s a)=b-a:=by
 unfold frL
 rw [pre_head]
 show (if headB (s.extract a s.size) 46=true then _ else _)=_
 rw [h,if_pos rfl,lwd_from,hb,if_neg (by omega)]
 omega
theorem ex_none {s:ByteArray} {p:Nat} (h:¬p<s.size):exL (fromL s p)=0:=by
 rw [from_end h]
 rfl
theorem ex_some {s:ByteArray} {p c b:Nat} (h:p<s.size) (hl:s[p].toNat=101∨s[p].toNat=69) (hc:sgnP s (p+1)=c) (hb:uptoN s c=b) (hlt:c<b):exL (fromL s p)=b-p:=by
 unfold exL
 have e1:(List.isPrefixOf [101] (fromL s p) || List.isPrefixOf [69] (fromL s p))=true:=by
   rw [pre_head,pre_head,head_ext s p _ h,head_ext s p _ h,Bool.or_eq_true,beq_iff_eq,beq_iff_eq]
   exact hl
 rw [e1,if_pos rfl,from_drop,pre_head,pre_head]
 have e2:(headB (s.extract (p+1) s.size) (43:UInt8).toNat || headB (s.extract (p+1) s.size) (45:UInt8).toNat)=(headB (s.extract (p+1) s.size) 45 || headB (s.extract (p+1) s.size) 43):=Bool.or_comm _ _
 rw [e2]
 unfold sgnP at hc
 by_cases k:(headB (s.extract (p+1) s.size) 45 || headB (s.extract (p+1) s.size) 43)=true
 · rw [if_pos k] at hc ⊢
   rw [lwd_from,show p+2=c by omega,hb,if_neg (by omega)]
   omega
 · rw [if_neg k] at hc ⊢
   rw [lwd_from,hc,hb,if_neg (by omega)]
   omega
end Go.Proofs.YtgocelaghggpmaaGreatDoor
