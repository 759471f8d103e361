/- Dimensions held against each other as a whole. -/
import Derived.Test.YtdnpoacjamkhkaaJt20
import Derived.Laws.StructEq
namespace Go.Proofs.Ytdnpoacjamkhkaa
open Go.ChangeShapes Go.WideShapes Go.ChangeAt Go.RowKit
def eqR (a b:Int×Int):Bool:=a.1==b.1&&a.2==b.2
def eqD (E F:Nat→Int×Int):Bool:=eqR (E 0) (F 0)&&(eqR (E 1) (F 1)&&(eqR (E 2) (F 2)&&(eqR (E 3) (F 3)&&(eqR (E 4) (F 4)&&(eqR (E 5) (F 5)&&eqR (E 6) (F 6))))))
theorem eqR_iff {a b:Int×Int}:eqR a b=true↔a=b:=by
 unfold eqR
 obtain⟨a1,a2⟩:=a
 obtain⟨b1,b2⟩:=b
 simp
theorem eqD_iff {E F:Nat→Int×Int}:eqD E F=true↔∀i,i<7→E i=F i:=by
 unfold eqD
 simp only [Bool.and_eq_true,eqR_iff]
 constructor
 · rintro ⟨h0,h1,h2,h3,h4,h5,h6⟩ i hi
   match i,hi with
   | 0,_=>exact h0
   | 1,_=>exact h1
   | 2,_=>exact h2
   | 3,_=>exact h3
   | 4,_=>exact h4
   | 5,_=>exact h5
   | 6,_=>exact h6
 · intro h
   exact⟨h 0 (by decide),h 1 (by decide),h 2 (by decide),h 3 (by decide),h 4 (by decide),h 5 (by decide),h 6 (by decide)⟩
theorem eqD_self (E:Nat→Int×Int):eqD E E=true:=eqD_iff.2 fun _ _=>rfl
theorem if_eq_ok {a b:Int} {t:Bool} {w:World}:(if a=b then Result.ok t w else Result.ok false w)=Result.ok (a==b&&t) w:=by
 by_cases c:a=b
 · rw [if_pos c,beq_iff_eq.2 c,Bool.true_and]
 · rw [if_neg c,beq_eq_false_iff_ne.2 c,Bool.false_and]
theorem run_equal_arr (d:Nat) (E F:Nat→Int×Int) (w:World):(Op.equalIn (d+3) 41 (.agg (dimC E)) (.agg (dimC F))).run Try.prog w=.ok (eqD E F) w:=by
 rw [Op.equalIn]
 unfold dimC
 simp [go_sem,Std.Legacy.Range.forIn_eq_forIn_range',List.range']
 unfold eqD eqR
 simp only [if_eq_ok,Bool.and_assoc,Bool.and_true]
theorem run_eq_dim (E F:Nat→Int×Int) (b:Bool) (h:eqD E F=b) (w:World):(Op.equalIn 9999 41 (.agg #[.int .i64 (E 0).1,.int .i64 (E 0).2,.int .i64 (E 1).1,.int .i64 (E 1).2,.int .i64 (E 2).1,.int .i64 (E 2).2,.int .i64 (E 3).1,.int .i64 (E 3).2,.int .i64 (E 4).1,.int .i64 (E 4).2,.int .i64 (E 5).1,.int .i64 (E 5).2,.int .i64 (E 6).1,.int .i64 (E 6).2]) (.agg #[.int .i64 (F 0).1,.int .i64 (F 0).2,.int .i64 (F 1).1,.int .i64 (F 1).2,.int .i64 (F 2).1,.int .i64 (F 2).2,.int .i64 (F 3).1,.int .i64 (F 3).2,.int .i64 (F 4).1,.int .i64 (F 4).2,.int .i64 (F 5).1,.int .i64 (F 5).2,.int .i64 (F 6).1,.int .i64 (F 6).2])).run Try.prog w=.ok b w:=by
 subst h
 exact run_equal_arr 9996 E F w
end Go.Proofs.Ytdnpoacjamkhkaa
