/- LexPlaces, whole. -/
import Derived.Test.YtpiffjpokmhmpaaDoorZp43
namespace Go.Proofs.YtpiffjpokmhmpaaDoor
open Go.ChangeShapes Go.WideShapes Go.ChangeAt Go.RowKit Go.Maps
theorem lexF_p (s:ByteArray):∀g p T,(lexF s g p T).e=0→(lexF s g p T).p=0
 | 0,p,T,_=>rfl
 | g+1,p,T,h=>by
   by_cases c:p<s.size
   · obtain⟨-, -,f3⟩:=lexF_step s g p T c h
     rw [f3] at h ⊢
     exact lexF_p s g _ _ h
   · rw [lexF_end s _ p T c]
theorem lex_p {s:ByteArray} (h:(lexV s).e=0):(lexV s).p=0:=by
 have:=lex_small h
 unfold lexV at h ⊢
 rw [if_neg (by omega)] at h ⊢
 exact lexF_p s _ _ _ h
set_option maxHeartbeats 1000000 in
theorem lexPlaces_bad (s:ByteArray) (E:Int) (P:Nat) (hE:E≠0) (w:World)
   (cl0:Calls Tryd.prog 9 #[.string s] w fun r w'=>∃v,r=.returned (.tuple #[v,.int .i64 E,.int .i64 (P:Int)])∧OwnK w.heap.size w' v []∧Below w.heap.size w w') :
   Calls Tryd.prog 4 #[.string s] w fun e w'=>e=.returned (.bool true)∧Below w.heap.size w w':=by
 have hE':(E != 0)=true:=by rw [bne_iff_ne];exact hE
 go_enter Tryd.func4,Tryd.ntmps4
 go_wp2_with (go_at_call 9;(with_reducible refine cl0.mono ?_);rintro _ W1 ⟨v,rfl,own,HB0⟩;obtain⟨A,C,rfl⟩:=own.form)
 go_ret
 exact⟨rfl,HB0⟩
theorem lexPlaces_w (s:ByteArray) (hs:(s.size:Int)≤9223372036854775807) (w:World) (T1:SpT w) (T2:ErrR w) :
   Calls Tryd.prog 4 #[.string s] w fun e w'=>e=.returned (.bool true)∧Below w.heap.size w w':=by
 have cl0:=lex_w s hs w T1 T2
 by_cases he:(lexV s).e=0
 · obtain⟨U,hU⟩:=lex_last he
   have hl:=lex_len he
   have hlen:(lexV s).t.length=U.length+1:=by rw [hU,List.length_append];rfl
   rw [he,lex_p he] at cl0
   refine lexPlaces_good s (lexV s).t (lexV s).t.length rfl (by omega) hl (lex_small he) (fun i hi=>plc_of he hi) ?_ w cl0 ?_
   · have hg:(lexV s).t[(lexV s).t.length-1]?=some (endK s.size):=by
       rw [hlen,hU,Nat.add_sub_cancel,List.getElem?_append_right (Nat.le_refl _)]
       simp
     unfold List.getD
     rw [hg]
     rfl
   · intro p U W hp hb
     have:=lex_w (s.extract p s.size) (by rw [ext_size];omega) W (T1.on hb) (T2.on hb)
     rw [hp] at this
     exact this
 · rw [lex_nil he] at cl0
   exact lexPlaces_bad s _ _ he w cl0
end Go.Proofs.YtpiffjpokmhmpaaDoor
