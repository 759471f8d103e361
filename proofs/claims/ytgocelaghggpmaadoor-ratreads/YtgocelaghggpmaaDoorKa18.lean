/- strconv.ParseInt and Atoi of digits, by the library's laid contracts; the program's Read, whole. -/
import Derived.Test.YtgocelaghggpmaaDoorKa17
import Derived.Test.YtgocelaghggpmaaDoorShelf
import Derived.Lib.ParseIntBCases
namespace Go.Proofs.YtgocelaghggpmaaDoor
open Go.ChangeShapes Go.WideShapes Go.ChangeAt Go.RowKit
def ErrR (w:World):Prop:=∀W,Below w.heap.size w W→∃(tp:TypeId) (p:Value),W.var? Tryd.prog "strconv.ErrRange"=some #[.iface tp p]
theorem ErrR.on {w W:World} (h:ErrR w) (hb:Below w.heap.size w W):ErrR W:=fun W' h'=>h W' (later hb h')
theorem fold_ge:∀(l:List UInt8) (acc:Nat),acc≤l.foldl (fun n c=>n*10+(c.toNat-48)) acc
 | [],_=>Nat.le_refl _
 | c :: l,acc=>by
   rw [List.foldl_cons]
   exact Nat.le_trans (by omega) (fold_ge l _)
theorem parse_fold:∀(l:List UInt8) (acc:Nat),(∀c∈l,48≤c.toNat∧c.toNat≤57) →
   (l.foldl (fun n c=>n*10+(c.toNat-48)) acc≤18446744073709551615→Lib.parseUintM 18446744073709551615 acc l=.ok (l.foldl (fun n c=>n*10+(c.toNat-48)) acc)) ∧
   (18446744073709551615<l.foldl (fun n c=>n*10+(c.toNat-48)) acc→acc≤18446744073709551615→Lib.parseUintM 18446744073709551615 acc l=.range)
 | [],acc,_=>⟨fun _=>rfl,fun h k=>absurd h (by simp only [List.foldl_nil];omega)⟩
 | c :: l,acc,hd=>by
   have d:=hd c (List.mem_cons_self ..)
   have ih:=parse_fold l (acc*10+(c.toNat-48)) fun x hx=>hd x (List.mem_cons_of_mem _ hx)
   have g:=fold_ge l (acc*10+(c.toNat-48))
   rw [List.foldl_cons]
   generalize l.foldl (fun n c=>n*10+(c.toNat-48)) (acc*10+(c.toNat-48))=R at *
   unfold Lib.parseUintM
   rw [if_pos d]
   refine⟨fun h=>?_,fun h k=>?_⟩
   · rw [if_neg (by omega),if_neg (by omega)]
     exact ih.1 h
   · by_cases c1:1844674407370955162≤acc
     · rw [if_pos c1]
     · rw [if_neg c1]
       by_cases c2:18446744073709551615<acc*10+(c.toNat-48)
       · rw [if_pos c2]
       · rw [if_neg c2]
         exact ih.2 h (by omega)
theorem parse_dg (l:List UInt8) (hl:l≠[]) (hd:∀c∈l,48≤c.toNat∧c.toNat≤57):(valN l<9223372036854775808→Lib.parseIntB 64 l=.ok ((valN l:Nat):Int))∧(9223372036854775808≤valN l→Lib.parseIntB 64 l=.range):=by
 obtain⟨c,r,rfl⟩:=List.exists_cons_of_ne_nil hl
 have d:=hd c (List.mem_cons_self ..)
 have P:=parse_fold (c :: r) 0 hd
 have e:Lib.parseUintB 64 (c :: r)=Lib.parseUintM 18446744073709551615 0 (c :: r):=by
   unfold Lib.parseUintB
   rw [if_neg hl]
 rw [Lib.parseIntB_plain 64 c r (by omega) (by omega),e]
 have e2:(c :: r).foldl (fun n c=>n*10+(c.toNat-48)) 0=valN (c :: r):=rfl
 rw [e2] at P
 generalize valN (c :: r)=V at *
 refine⟨fun h=>?_,fun h=>?_⟩
 · rw [P.1 (by omega)]
   show (if 9223372036854775808≤V then Lib.NumEnd.range else Lib.NumEnd.ok (V:Int))=_
   rw [if_neg (by omega)]
 · by_cases k:V≤18446744073709551615
   · rw [P.1 k]
     show (if 9223372036854775808≤V then Lib.NumEnd.range else Lib.NumEnd.ok (V:Int))=_
     rw [if_pos (by omega)]
   · rw [P.2 (by omega) (by omega)]
     rfl
theorem text_dg {g:Nat→Nat} {n:Nat} (D:DgN g n):∀c∈textN g n,48≤c.toNat∧c.toNat≤57:=by
 intro c hc
 obtain⟨j,hj,e⟩:=List.getElem_of_mem hc
 have h:=textN_get D j hj
 rw [e] at h
 rw [h]
 rw [textN_length] at hj
 exact D j hj
theorem text_val {g:Nat→Nat} {n:Nat} (D:DgN g n):valN (textN g n)=vlN g n:=by
 have h:=vlN_take (textN g n) n (by rw [textN_length];exact Nat.le_refl _)
 rw [List.take_of_length_le (by rw [textN_length];exact Nat.le_refl _)] at h
 rw [←h]
 refine vlN_congr fun j hj=>?_
 have hl:j<(textN g n).length:=by rw [textN_length];exact hj
 have:=textN_get D j hl
 rw [←this]
 simp [List.getD,hl]
theorem parseInt_w (g:Nat→Nat) (N:Nat) (hN:N≤1000) (D:DgN g (N+1)) (w:World) (T:ErrR w) :
   Calls Tryd.prog 49 #[.string ⟨(textN g (N+1)).toArray⟩,.int .i64 10,.int .i64 64] w fun e w'=>PInt (vlN g (N+1)) e∧Below w.heap.size w w':=by
 have hne:textN g (N+1)≠[]:=by
   intro q
   have:=textN_length g (N+1)
   rw [q] at this
   exact absurd this (by simp)
 have P:=parse_dg (textN g (N+1)) hne (text_dg D)
 rw [text_val D] at P
 have sz:(⟨(textN g (N+1)).toArray⟩:ByteArray).size=N+1:=by
   show (textN g (N+1)).toArray.size=N+1
   rw [List.size_toArray,textN_length]
 by_cases h:vlN g (N+1)<9223372036854775808
 · refine (Tryd.strconv_ParseInt_10_at64_ok ⟨(textN g (N+1)).toArray⟩ (by omega) _ (P.1 h) w).mono ?_
   rintro e w' ⟨he,hw⟩
   refine⟨Or.inl ⟨h,he⟩, ?_⟩
   rcases hw with rfl | ⟨t,rfl⟩
   · exact Below.refl _ _
   · exact Lib.bytesWorld_below w _ t
 · obtain⟨tp,p,hv⟩:=T w (Below.refl _ _)
   refine (Tryd.strconv_ParseInt_10_at64_range_var ⟨(textN g (N+1)).toArray⟩ (by omega) (P.2 (by omega)) tp p w hv).mono ?_
   rintro e w' ⟨n,he, -, -,hb⟩
   exact⟨Or.inr ⟨by omega,_,_,_,he⟩,hb⟩
theorem readT_w (s:ByteArray) (hs:(s.size:Int)≤9223372036854775807) (w:World) (T:ErrR w) :
   Calls Tryd.prog 8 #[.string s] w fun r w'=>r=.returned (.tuple #[.agg #[.int .i64 (readV s).1,.int .i64 (readV s).2.1],.int .i64 (readV s).2.2])∧Below w.heap.size w w' :=
 read_w s hs w fun W g N hb hN D=>parseInt_w g N hN D W (T.on hb)
end Go.Proofs.YtgocelaghggpmaaDoor
