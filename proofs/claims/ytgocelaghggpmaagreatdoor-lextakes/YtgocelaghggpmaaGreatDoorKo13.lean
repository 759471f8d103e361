/- The program's reading of a fraction (rat.readFraction). -/
import Derived.Test.YtgocelaghggpmaaGreatDoorKo09
namespace Go.Proofs.YtgocelaghggpmaaGreatDoor
open Go.ChangeShapes Go.WideShapes Go.ChangeAt Go.RowKit
set_option maxHeartbeats 2000000 in
theorem frac_none (s:ByteArray) (h:s.toList.isEmpty=true∨(s.toList.isEmpty=false∧∃h0:0<s.size,¬s[0].toNat=46)) (w:World) :
   Calls Tryz.prog 60 #[.string s] w fun e w'=>e=.returned (.tuple #[.string ⟨#[]⟩,.string s,.bool true])∧w=w':=by
 rcases h with he | ⟨he,h0,h2⟩
 · go_enter Tryz.func60,Tryz.ntmps60
   go_wp2_with fail
   refine bodyPost_ret (v:=.tuple #[.string ⟨#[]⟩,.string s,.bool true]) (by simp [results,Tryz.results60,go_sem, *]) rfl ⟨rfl,rfl⟩
 · have z:(0:Int)<(s.size:Int):=by omega
   have h2':((s[0].toNat:Int) != 46)=true:=by rw [bne_iff_ne];omega
   go_enter Tryz.func60,Tryz.ntmps60
   go_wp2_with fail
   refine bodyPost_ret (v:=.tuple #[.string ⟨#[]⟩,.string s,.bool true]) (by simp [results,Tryz.results60,go_sem, *]) rfl ⟨rfl,rfl⟩
set_option maxHeartbeats 2000000 in
theorem frac_some (s a b:ByteArray) (q:Bool) (he:s.toList.isEmpty=false) (h0:0<s.size) (h2:s[0].toNat=46) (hq:a.toList.isEmpty=!q)
   (c:∀W,Calls Tryz.prog 59 #[.string (s.extract 1 s.size),.int .i64 40] W fun e w'=>e=.returned (.tuple #[.string a,.string b])∧Below W.heap.size W w') (w:World) :
   Calls Tryz.prog 60 #[.string s] w fun e w'=>e=.returned (.tuple #[.string a,.string b,.bool q])∧Below w.heap.size w w':=by
 have z:(0:Int)<(s.size:Int):=by omega
 have z1:(1:Int)≤(s.size:Int):=by omega
 have h2':((s[0].toNat:Int) != 46)=false:=by rw [bne_eq_false_iff_eq];omega
 go_enter Tryz.func60,Tryz.ntmps60
 go_wp2_with (go_at_call 59;(with_reducible refine (c _).mono ?_);rintro _ W1 ⟨rfl,hb1⟩)
 refine bodyPost_ret (v:=.tuple #[.string a,.string b,.bool q]) (by simp [results,Tryz.results60,go_sem, *]) rfl ⟨rfl,hb1⟩
theorem empty_is (s:ByteArray):s.toList.isEmpty=decide (s.size=0):=by
 rw [ByteArray.toList_eq]
 cases h:s.data.toList with
 | nil =>
   have:s.size=0:=by
     have:s.data.size=0:=by rw [←Array.length_toList,h];rfl
     exact this
   simp [this]
 | cons a l =>
   have:s.size≠0:=by
     have:s.data.size=l.length+1:=by rw [←Array.length_toList,h];rfl
     show s.data.size≠0
     omega
   simp [this]
structure Frac where
 d:ByteArray
 r:ByteArray
 ok:Bool
def headB (s:ByteArray) (c:Nat):Bool:=match s.data.toList with
 | []=>false
 | a :: _=>a.toNat==c
theorem head_none {s:ByteArray} {c:Nat} (h:s.size=0):headB s c=false:=by
 unfold headB
 have:s.data.toList=[]:=by
   have:s.data.size=0:=h
   rw [←Array.length_toList] at this
   exact List.eq_nil_of_length_eq_zero this
 rw [this]
theorem head_some {s:ByteArray} {c:Nat} (h:0<s.size):headB s c=(s[0].toNat==c):=by
 unfold headB
 have e:=byte_drop (s:=s) (k:=0) h
 rw [List.drop_zero] at e
 rw [e]
def fracB (s:ByteArray):Frac:=if headB s 46 then ⟨(s.extract 1 s.size).extract 0 (ldN (s.extract 1 s.size) 40),(s.extract 1 s.size).extract (ldN (s.extract 1 s.size) 40) (s.extract 1 s.size).size,decide (ldN (s.extract 1 s.size) 40≠0)⟩ else ⟨⟨#[]⟩,s,true⟩
theorem upto_le (s:ByteArray):uptoN s 0≤s.size:=by
 unfold uptoN
 have h:=(List.takeWhile_sublist isDg (l:=s.data.toList.drop 0)).length_le
 have e:(s.data.toList.drop 0).length=s.size:=by rw [List.drop_zero];simp
 omega
theorem ldN_le (s:ByteArray) (lim:Nat):ldN s lim≤s.size:=by
 unfold ldN
 have:=upto_le s
 omega
theorem readFraction_w (s:ByteArray) (hs:(s.size:Int)≤9223372036854775807) (w:World) :
   Calls Tryz.prog 60 #[.string s] w fun e w'=>e=.returned (.tuple #[.string (fracB s).d,.string (fracB s).r,.bool (fracB s).ok])∧Below w.heap.size w w':=by
 by_cases z:s.size=0
 · have e:fracB s=⟨⟨#[]⟩,s,true⟩:=by unfold fracB;rw [head_none z];rfl
   rw [e]
   exact (frac_none s (Or.inl (by rw [empty_is,decide_eq_true z])) w).mono fun _ _ ⟨h1,h2⟩=>⟨h1,by rw [h2];exact Below.refl _ _⟩
 · have h0:0<s.size:=by omega
   by_cases c:s[0].toNat=46
   · have e:fracB s=⟨(s.extract 1 s.size).extract 0 (ldN (s.extract 1 s.size) 40),(s.extract 1 s.size).extract (ldN (s.extract 1 s.size) 40) (s.extract 1 s.size).size,decide (ldN (s.extract 1 s.size) 40≠0)⟩:=by unfold fracB;rw [head_some h0,c];rfl
     rw [e]
     have sz:(s.extract 1 s.size).size=s.size-1:=by rw [ByteArray.size_extract];omega
     refine frac_some s _ _ _ (by rw [empty_is,decide_eq_false z]) h0 c ?_ (fun W=>leading_w (s.extract 1 s.size) 40 (by omega) (by rw [sz];omega) W) w
     rw [empty_is,ByteArray.size_extract]
     have l:=ldN_le (s.extract 1 s.size) 40
     by_cases q:ldN (s.extract 1 s.size) 40=0
     · rw [decide_eq_true (by rw [q];omega),decide_eq_false (by omega)];rfl
     · rw [decide_eq_false (by omega),decide_eq_true q];rfl
   · have e:fracB s=⟨⟨#[]⟩,s,true⟩:=by
       unfold fracB
       rw [head_some h0,beq_eq_false_iff_ne.2 c];rfl
     rw [e]
     exact (frac_none s (Or.inr ⟨by rw [empty_is,decide_eq_false z],h0,c⟩) w).mono fun _ _ ⟨h1,h2⟩=>⟨h1,by rw [h2];exact Below.refl _ _⟩
end Go.Proofs.YtgocelaghggpmaaGreatDoor
