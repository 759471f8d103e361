/- lex: tokens as they lie in memory; a text that is a number is one token. -/
import Derived.Test.YtgocelaghggpmaaDoorKa22
namespace Go.Proofs.YtgocelaghggpmaaDoor
open Go.ChangeShapes Go.WideShapes Go.ChangeAt Go.RowKit Go.Maps
def Tks (w:World) (A:Option Addr) (n:Nat) (Z:Nat→Tk):Prop :=
 ∀i,i<n→∃b o,A=some ⟨b,o,none⟩∧b<w.heap.size∧w.cell? ⟨b,o+i*5,none⟩=some (.int .i64 (Z i).k)∧w.cell? ⟨b,o+i*5+1,none⟩=some (.string (Z i).s)∧w.cell? ⟨b,o+i*5+2,none⟩=some (.int .i64 (Z i).n)∧w.cell? ⟨b,o+i*5+3,none⟩=some (.int .i64 (Z i).d)∧w.cell? ⟨b,o+i*5+4,none⟩=some (.int .i64 (Z i).a)
theorem Tks.keep {w w2:World} {A:Option Addr} {n:Nat} {Z:Nat→Tk} (h:Tks w A n Z) (hb:Below w.heap.size w w2):Tks w2 A n Z:=fun i hi=>by
 obtain⟨b,o,e,l,c0,c1,c2,c3,c4⟩:=h i hi
 exact⟨b,o,e,Nat.lt_of_lt_of_le l hb.size,keepsC hb c0 l,keepsC hb c1 l,keepsC hb c2 l,keepsC hb c3 l,keepsC hb c4 l⟩
theorem tkCells_at (T:List Tk) (i:Nat) (z:Tk) (h:T[i]?=some z):(tkCells T)[i*5]?=some (.int .i64 z.k)∧(tkCells T)[i*5+1]?=some (.string z.s)∧(tkCells T)[i*5+2]?=some (.int .i64 z.n)∧(tkCells T)[i*5+3]?=some (.int .i64 z.d)∧(tkCells T)[i*5+4]?=some (.int .i64 z.a):=by
 induction T generalizing i with
 | nil=>simp at h
 | cons q t ih =>
   have e:tkCells (q :: t)=.int .i64 q.k :: .string q.s :: .int .i64 q.n :: .int .i64 q.d :: .int .i64 q.a :: tkCells t:=rfl
   rw [e]
   cases i with
   | zero =>
     simp at h
     subst h
     exact⟨rfl,rfl,rfl,rfl,rfl⟩
   | succ i =>
     have h':t[i]?=some z:=by simpa using h
     have:=ih i h'
     rw [show (i+1)*5=i*5+5 by omega,show i*5+5+1=(i*5+1)+5 by omega,show i*5+5+2=(i*5+2)+5 by omega,show i*5+5+3=(i*5+3)+5 by omega,show i*5+5+4=(i*5+4)+5 by omega]
     simpa using this
theorem ownK_tks {B:Nat} {w:World} {v:Value} {T:List Tk} (h:OwnK B w v T) (d:Tk):∃A C,v=.slice A T.length C∧Tks w A T.length (fun i=>T.getD i d):=by
 have h':w.ownsRow B 39 5 v T.length (tkCells T):=h
 rcases h'.2 with ⟨rfl,hn⟩ | ⟨g,cap,cur,rfl, -⟩
 · rw [hn]
   exact⟨none,0,rfl,fun i hi=>by omega⟩
 · refine⟨_,cap,rfl,fun i hi=>?_⟩
   have hl:=(World.ownsRow.lt h g rfl).2
   have hg:T[i]?=some (T.getD i d):=by simp [List.getD,hi]
   obtain⟨a,b,c,e,f⟩:=tkCells_at T i _ hg
   refine⟨g,0,rfl,hl, ?_, ?_, ?_, ?_, ?_⟩
   · rw [Nat.zero_add,World.ownsRow.cellAt h (i*5) (by omega)];exact a
   · rw [Nat.zero_add,World.ownsRow.cellAt h (i*5+1) (by omega)];exact b
   · rw [Nat.zero_add,World.ownsRow.cellAt h (i*5+2) (by omega)];exact c
   · rw [Nat.zero_add,World.ownsRow.cellAt h (i*5+3) (by omega)];exact e
   · rw [Nat.zero_add,World.ownsRow.cellAt h (i*5+4) (by omega)];exact f
end Go.Proofs.YtgocelaghggpmaaDoor
