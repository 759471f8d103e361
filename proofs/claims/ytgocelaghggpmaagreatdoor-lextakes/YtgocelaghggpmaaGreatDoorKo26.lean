/- lex: the words of the language: a set that is laid out once, and asked. -/
import Derived.Test.YtgocelaghggpmaaGreatDoorKo25
import Derived.Maps.Own
import Derived.Maps.OwnOps
import Derived.Maps.OwnSet
import Derived.Maps.AppendAt
import Derived.WalkKit
import Derived.StringKeys
import Derived.Lib.AppendIntMem
import Derived.Laws.AppendOwn
namespace Go.Proofs.YtgocelaghggpmaaGreatDoor
open Go.ChangeShapes Go.WideShapes Go.ChangeAt Go.RowKit Go.Maps
def wordsT:List UInt8:=[97,116,97,110,32,99,111,110,110,101,99,116,32,99,111,110,110,101,99,116,111,114,32,99,111,115,32,100,101,114,32,100,111,32,101,110,100,32,101,120,112,32,102,108,111,119,32,102,111,114,32,105,110,32,108,111,103,32,109,111,100,101,108,32,112,97,114,97,109,32,112,97,114,116,32,115,105,110,32,115,113,114,116,32,115,116,97,114,116,32,116,105,109,101,32,117,110,105,116,32,118,97,114]
def wordsL:List (List UInt8):=[[97,116,97,110],[99,111,110,110,101,99,116],[99,111,110,110,101,99,116,111,114],[99,111,115],[100,101,114],[100,111],[101,110,100],[101,120,112],[102,108,111,119],[102,111,114],[105,110],[108,111,103],[109,111,100,101,108],[112,97,114,97,109],[112,97,114,116],[115,105,110],[115,113,114,116],[115,116,97,114,116],[116,105,109,101],[117,110,105,116],[118,97,114]]
def wordB (l:List UInt8):Bool:=wordsL.contains l
theorem words_fields:Lib.fields wordsT=wordsL:=by decide +kernel
theorem words_ascii:∀(j:Nat) b,wordsT[j]?=some b→b.toNat<128:=by
 intro j b h
 have hm:b∈wordsT:=List.mem_of_getElem? h
 have:wordsT.all (fun b=>decide (b.toNat<128))=true:=by decide +kernel
 exact of_decide_eq_true (List.all_eq_true.1 this b hm)
def SpT (w:World):Prop:=Lib.TabBelow Tryz.prog w.heap.size w "strings.asciiSpace" .u8 Lib.asciiSpaceTab
theorem SpT.on {w W:World} (h:SpT w) (hb:Below w.heap.size w W):SpT W:=fun W' h'=>h W' (later hb h')
theorem fields_w (w:World) (T:SpT w):Calls Tryz.prog 41 #[.string ⟨wordsT.toArray⟩] w fun e w'=>e=.returned (.slice (some ⟨w.heap.size,0,none⟩) 21 21)∧w'=w.alloc (.cells (wordsL.map fun l=>Value.string ⟨l.toArray⟩).toArray 9):=by
 have h:=Tryz.strings_Fields ⟨wordsT.toArray⟩ w (by decide +kernel) words_ascii (T w (Below.refl _ _))
 have e:Lib.fields (⟨wordsT.toArray⟩:ByteArray).data.toList=wordsL:=words_fields
 rw [e] at h
 exact h
theorem lawS:Keyed Tryz.prog 9:=string_keyed Tryz.underlying9
theorem zeroU (w:World):(zeroValue 65).run Tryz.prog w=.ok (.agg #[]) w:=by kernel_rfl
def setW {H:Type}:Nat→DataW H
 | 0=>.map []
 | k+1=>(setW k).put (.string (wordsL.getD k [])) (.agg [])
theorem setW_map {H:Type}:∀k,IsMap (setW (H:=H) k)
 | 0=>⟨[],rfl⟩
 | k+1=>by
   obtain⟨es,h⟩:=setW_map (H:=H) k
   unfold setW
   rw [h]
   exact⟨_,rfl⟩
theorem setW_has {H:Type} (l:List UInt8):∀k,k≤21→Maps.has (setW (H:=H) k) (.string l)=(wordsL.take k).contains l
 | 0,_=>rfl
 | k+1,hk=>by
   have ih:=setW_has (H:=H) l k (by omega)
   have hl:k<wordsL.length:=by have:wordsL.length=21:=rfl;omega
   have e:wordsL.getD k []=wordsL[k]:=by simp [List.getD,hl]
   unfold setW
   rw [List.take_succ_eq_append_getElem hl,List.contains_append,←ih,e]
   by_cases c:l=wordsL[k]
   · rw [c,has_put_same (setW_map k) (by trivial)]
     simp
   · rw [has_put_other (by intro q;exact c (by injection q))]
     have:([wordsL[k]]:List (List UInt8)).contains l=false:=by
       simp only [List.contains_cons,List.contains_nil,Bool.or_false]
       exact beq_eq_false_iff_ne.2 c
     rw [this,Bool.or_false]
theorem setW_all {H:Type} (l:List UInt8):Maps.has (setW (H:=H) 21) (.string l)=wordB l:=by
 rw [setW_has l 21 (by omega)]
 rfl
def WordsAt (W:World) (B:Nat):Prop:=∃A n,W.cell? ⟨B,0,none⟩=some (.map (some A))∧W.ownsMap Tryz.prog 9 (unitElem (H:=Unit)) A n (setW 21)∧B<W.heap.size∧A<W.heap.size
theorem ownsMap_keep {H:Type} {P:Program} {k:TypeId} {R:Value→Option (DataW H×List MemPlace)} {w W:World} {A n:Nat} {D:DataW H} (h:w.ownsMap P k R A n D) (hb:Below w.heap.size w W) (hA:A<w.heap.size):W.ownsMap P k R A n D:=by
 obtain⟨es,c,h1,h2⟩:=h
 exact⟨es,c,(hb.block A hA).trans h1,h2⟩
theorem WordsAt.keep {w W:World} {B:Nat} (h:WordsAt w B) (hb:Below w.heap.size w W):WordsAt W B:=by
 obtain⟨A,n,h1,h2,h3,h4⟩:=h
 have:=hb.size
 exact⟨A,n,keepsC hb h1 h3,ownsMap_keep h2 hb h4,by omega,by omega⟩
set_option maxHeartbeats 1000000 in
theorem isWord_w (s:ByteArray) (hs:s.size≤maxLen) (B:Nat) (w:World) (h:WordsAt w B) :
   Calls Tryz.prog 42 #[.string s,.pointer (some ⟨B,0,none⟩)] w fun e w'=>e=.returned (.bool (wordB s.data.toList))∧Below w.heap.size w w':=by
 obtain⟨A,n,h1,hown,h3,h4⟩:=h
 have hkey:keyOf Tryz.prog 9 (.string s)=some (.string s.data.toList):=WideMaps.keyOf_string_mk Tryz.underlying9 hs
 have ha:=setW_all (H:=Unit) s.data.toList
 go_enter Tryz.func42,Tryz.ntmps42
 go_wp2_with (at_lookup;refine wpList_lookup_own_unit _ rfl _ _ 62 rfl 9 65 lawS Tryz.underlying62 (zeroU _) A n _ rfl hown _ _ rfl hkey ?_;rw [ha])
 go_ret
 exact⟨rfl,by go_grown⟩
theorem words_cell (k:Nat) (hk:k<21):(wordsL.map fun l=>Value.string ⟨l.toArray⟩).toArray[k]?=some (.string ⟨(wordsL.getD k []).toArray⟩):=by
 have hl:k<wordsL.length:=hk
 rw [List.getElem?_toArray,List.getElem?_map]
 simp [List.getD,hl]
theorem words_size (k:Nat):(⟨(wordsL.getD k []).toArray⟩:ByteArray).size≤maxLen:=by
 have h:∀l∈wordsL,l.length≤100:=by decide +kernel
 have:(wordsL.getD k []).length≤100:=by
   by_cases hk:k<wordsL.length
   · have e:wordsL.getD k []=wordsL[k]:=by simp [List.getD,hk]
     rw [e]
     exact h _ (List.getElem_mem hk)
   · have e:wordsL.getD k []=[]:=by simp [List.getD,hk]
     rw [e]
     exact Nat.zero_le _
 show (wordsL.getD k []).toArray.size≤maxLen
 rw [List.size_toArray]
 unfold maxLen
 omega
set_option maxHeartbeats 2000000 in
set_option maxRecDepth 20000 in
theorem teller_w (w:World) (T:SpT w) :
   Calls Tryz.prog 18 #[] w fun e w'=>∃B,e=.returned (.func (.func 42) #[] #[.pointer (some ⟨B,0,none⟩)])∧WordsAt w' B∧Below w.heap.size w w':=by
 have hmm:=@run_makeMap Tryz.prog
 have HB0:Below w.heap.size w ((w.alloc (.map #[] 0)).alloc (.cells #[.map (some w.heap.size)] 62)):=((Below.refl _ _).alloc (Nat.le_refl _) _).alloc (by simp) _
 have own0:((w.alloc (.map #[] 0)).alloc (.cells #[.map (some w.heap.size)] 62)).ownsMap Tryz.prog 9 (unitElem (H:=Unit)) w.heap.size 0 (setW 0):=(World.ownsMap_made w _ _ _).alloc _
 have cell0:((w.alloc (.map #[] 0)).alloc (.cells #[.map (some w.heap.size)] 62)).cell? ⟨w.heap.size+1,0,none⟩=some (.map (some w.heap.size)):=by
   have:=(MapKept.heap_alloc (w.alloc (.map #[] 0)) (.cells #[.map (some w.heap.size)] 62)).1
   have hz:(w.alloc (.map #[] 0)).heap.size=w.heap.size+1:=by simp
   rw [hz] at this
   simp only [World.cell?,this]
   rfl
 have z0:((w.alloc (.map #[] 0)).alloc (.cells #[.map (some w.heap.size)] 62)).heap.size=w.heap.size+2:=by simp
 have cf:∀W,Below w.heap.size w W→Calls Tryz.prog 41 #[.string ⟨wordsT.toArray⟩] W fun e w'=>e=.returned (.slice (some ⟨W.heap.size,0,none⟩) 21 21)∧w'=W.alloc (.cells (wordsL.map fun l=>Value.string ⟨l.toArray⟩).toArray 9):=fun W hb=>fields_w W (T.on hb)
 clear T
 go_enter Tryz.func18,Tryz.ntmps18
 go_upto_region 2 with fail
 generalize (w.alloc (.map #[] 0)).alloc (.cells #[.map (some w.heap.size)] 62)=V at *
 have cf1:=cf V HB0
 have HB1:=HB0.alloc (by omega) (.cells (wordsL.map fun l=>Value.string ⟨l.toArray⟩).toArray 9)
 have own1:=own0.alloc (.cells (wordsL.map fun l=>Value.string ⟨l.toArray⟩).toArray 9)
 have cell1:(V.alloc (.cells (wordsL.map fun l=>Value.string ⟨l.toArray⟩).toArray 9)).cell? ⟨w.heap.size+1,0,none⟩=some (.map (some w.heap.size)):=by
   rw [World.cell?_alloc_old _ _ _ (by show w.heap.size+1≠V.heap.size;omega)]
   exact cell0
 have wc1:Hid (∀k,k<21→(V.alloc (.cells (wordsL.map fun l=>Value.string ⟨l.toArray⟩).toArray 9)).cell? ⟨w.heap.size+2,k,none⟩=some (.string ⟨(wordsL.getD k []).toArray⟩)):=by
   show ∀k,_
   intro k hk
   have h:=words_cell k hk
   have hh:=(MapKept.heap_alloc V (.cells (wordsL.map fun l=>Value.string ⟨l.toArray⟩).toArray 9)).1
   rw [z0] at hh
   simp only [World.cell?,hh]
   exact h
 have z1:(V.alloc (.cells (wordsL.map fun l=>Value.string ⟨l.toArray⟩).toArray 9)).heap.size=w.heap.size+3:=by simp [z0]
 rw [z0] at cf1
 clear cf own0 cell0 HB0 z0
 generalize V.alloc (.cells (wordsL.map fun l=>Value.string ⟨l.toArray⟩).toArray 9)=V1 at *
 go_upto_region 3 with (go_at_call 41;refine cf1.mono ?_;rintro _ W1 ⟨rfl,rfl⟩)
 go_loopg [7] 21 (fun G s7 wx=>∃k:Nat,s7=.int .i64 (k:Int)∧k≤21∧k+G=21∧Below w.heap.size w wx∧wx.ownsMap Tryz.prog 9 (unitElem (H:=Unit)) w.heap.size k (setW k)∧wx.cell? ⟨w.heap.size+1,0,none⟩=some (.map (some w.heap.size))∧Hid (∀k,k<21→wx.cell? ⟨w.heap.size+2,k,none⟩=some (.string ⟨(wordsL.getD k []).toArray⟩))∧w.heap.size+3≤wx.heap.size)
 case atStart=>exact⟨0,rfl,by omega,by omega,HB1,own1,cell1,wc1,by omega⟩
 case round =>
   clear HB1 own1 cell1 wc1 z1 cf1
   obtain⟨k,rfl,hk,hG,HB,own,cell,wc,hz⟩:=hrel
   by_cases c:k<21
   · have ci:(k:Int)<21:=by omega
     have ck:=wc.out k c
     obtain⟨wd,hwd⟩:∃wd:ByteArray,Hid (wd=⟨(wordsL.getD k []).toArray⟩):=⟨_,rfl⟩
     rw [←hwd.out] at ck
     have hkey:keyOf Tryz.prog 9 (.string wd)=some (.string wd.data.toList):=WideMaps.keyOf_string_mk Tryz.underlying9 (by rw [hwd.out];exact words_size k)
     go_wp2_with (at_mapUpdate;refine wpList_mapUpdate_own _ rfl _ _ _ 62 rfl 9 65 lawS Tryz.underlying62 (unitElem (H:=Unit)) w.heap.size k _ rfl own (by unfold maxLen;omega) _ _ _ rfl rfl hkey _ [] unitElem_mk ?_;intro w1 own1 hg1)
     have own2:w1.ownsMap Tryz.prog 9 (unitElem (H:=Unit)) w.heap.size (k+1) (setW (k+1)):=by
       have e:wd.data.toList=wordsL.getD k []:=by rw [hwd.out]
       rw [e] at own1
       exact own1
     have HB2:Below w.heap.size w w1:=HB.grown hg1 HB.size (fun j hj=>by cases hj;exact Nat.le_refl _)
     have cell2:=hg1.cell cell (by simp)
     have wc2:Hid (∀k,k<21→w1.cell? ⟨w.heap.size+2,k,none⟩=some (.string ⟨(wordsL.getD k []).toArray⟩)):=fun j hj=>hg1.cell (wc.out j hj) (by simp)
     have z2:=hg1.size
     (go_roundg (21-k-1)
      case measure=>omega
      case rel=>exact⟨k+1,by go_num,by omega,by omega,HB2,own2,cell2,wc2,by omega⟩)
   · have ci:¬(k:Int)<21:=by omega
     obtain rfl:k=21:=by omega
     clear wc
     go_wp2_with fail
     go_ret
     exact⟨w.heap.size+1,rfl,⟨w.heap.size,21,cell,own,by omega,by omega⟩,HB⟩
end Go.Proofs.YtgocelaghggpmaaGreatDoor
