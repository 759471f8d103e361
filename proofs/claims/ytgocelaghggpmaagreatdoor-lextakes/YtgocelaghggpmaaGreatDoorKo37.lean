/- The document's way of telling words: as parts of one text (mathematics). -/
import Derived.Test.YtgocelaghggpmaaGreatDoorKo26
namespace Go.Proofs.YtgocelaghggpmaaGreatDoor
open Go.ChangeShapes Go.WideShapes Go.ChangeAt Go.RowKit
def wordsA:List UInt8:=32 :: (wordsT++[32])
def wAt (l:List UInt8) (i:Nat):Prop:=i+(l.length+2)≤wordsA.length∧(wordsA.drop i).take (l.length+2)=32 :: (l++[32])
theorem wordsA_len:wordsA.length=105:=by decide +kernel
theorem word_find {l:List UInt8} (h:wordB l=true):∃i,wAt l i:=by
 have k:(wordsL.all fun w=>(List.range 110).any fun i=>decide (i+(w.length+2)≤wordsA.length)&&decide ((wordsA.drop i).take (w.length+2)=32 :: (w++[32])))=true:=by decide +kernel
 unfold wordB at h
 have hm:l∈wordsL:=by simpa using h
 have:=List.all_eq_true.1 k l hm
 obtain⟨i, -,hi⟩:=List.any_eq_true.1 this
 rw [Bool.and_eq_true,decide_eq_true_eq,decide_eq_true_eq] at hi
 exact⟨i,hi⟩
theorem take_while_app {p:UInt8→Bool}:∀(l:List UInt8) (c:UInt8) (r:List UInt8),(∀x∈l,p x=true)→p c=false→(l++c :: r).takeWhile p=l
 | [],c,r,_,hc=>by rw [List.nil_append,List.takeWhile_cons,hc];rfl
 | a :: l,c,r,h,hc=>by
   rw [List.cons_append,List.takeWhile_cons,h a (List.mem_cons_self ..),if_pos rfl,take_while_app l c r (fun x hx=>h x (List.mem_cons_of_mem _ hx)) hc]
theorem word_at {l:List UInt8} {i:Nat} (h0:l≠[]) (hns:∀x∈l,x≠32) (h:wAt l i):wordB l=true:=by
 obtain⟨h1,h2⟩:=h
 rw [wordsA_len] at h1
 have k:((List.range 110).all fun i=>(wordsA.drop i).head? != some 32 || (((wordsA.drop i).drop 1).takeWhile (fun c=>c != 32)).isEmpty || wordsL.contains (((wordsA.drop i).drop 1).takeWhile (fun c=>c != 32)))=true:=by decide +kernel
 have ki:=List.all_eq_true.1 k i (List.mem_range.2 (by omega))
 have hd:wordsA.drop i=32 :: (l++32 :: (wordsA.drop i).drop (l.length+2)):=by
   have:=List.take_append_drop (l.length+2) (wordsA.drop i)
   rw [h2] at this
   rw [List.cons_append,List.append_assoc] at this
   exact this.symm
 have tw:((wordsA.drop i).drop 1).takeWhile (fun c=>c != 32)=l:=by
   rw [hd,List.drop_succ_cons,List.drop_zero]
   exact take_while_app l 32 _ (fun x hx=>bne_iff_ne.2 (hns x hx)) (by decide)
 rw [tw] at ki
 have hh:(wordsA.drop i).head?=some 32:=by rw [hd];rfl
 rw [hh] at ki
 have he:l.isEmpty=false:=by
   cases l with
   | nil=>exact absurd rfl h0
   | cons a l=>rfl
 rw [he] at ki
 simpa [wordB] using ki
theorem word_blank {l:List UInt8} (h:(32:UInt8)∈l):wordB l=false:=by
 have k:(wordsL.all fun w=>!(w.contains 32))=true:=by decide +kernel
 cases hw:wordB l
 · rfl
 · unfold wordB at hw
   have hm:l∈wordsL:=by simpa using hw
   have:=List.all_eq_true.1 k l hm
   simp [h] at this
theorem word_none:wordB []=false:=by decide
end Go.Proofs.YtgocelaghggpmaaGreatDoor
