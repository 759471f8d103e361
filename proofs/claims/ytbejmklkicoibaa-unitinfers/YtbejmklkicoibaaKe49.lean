/- orreryref14's Finder.solve: what it begins with. -/
import Derived.Test.YtbejmklkicoibaaKe48
namespace Go.Proofs.Ytbejmklkicoibaa
open Go.ChangeShapes Go.WideShapes Go.ChangeAt Go.RowKit
theorem own_none {B b sz:Nat} {T:TypeId} {w:World} (h:BlkAt w b T []) (hb:B<=b):w.ownsRow B T sz (.slice (some ⟨b,0,none⟩) 0 0) 0 []:=by
 refine⟨by simp,Or.inr ⟨b,0,#[],rfl,hb,h,Nat.le_refl _,Nat.zero_le _,by simp,by simp⟩⟩
theorem own_insK {B:Nat} {w:World} {v:Value} {zs:List Int} (h:OwnN B w v zs):∃A C,v=.slice A zs.length C/\Ins w A zs.length (fun j=>zs.getD j 0):=by
 have h':w.ownsRow B 3 1 v zs.length (zs.map fun z=>Value.int .i64 z):=h
 rcases h'.2 with ⟨rfl,hn⟩ | ⟨g,cap,cur,rfl, -⟩
 ·rw [hn]
  exact⟨none,0,rfl,fun i hi=>by omega⟩
 ·have hl:=(World.ownsRow.lt h' g rfl).2
  refine⟨_,cap,rfl,fun i hi=>⟨g,0,rfl,hl, ?_⟩⟩
  rw [Nat.zero_add,World.ownsRow.cellAt h' _ (by omega)]
  simp [List.getD,List.getElem?_eq_getElem hi]
structure KSt (B m:Nat) (G:Nat->Bool) (v4 v5:Value) (KV:List FV) (K:List (Int×Pro)) (w:World):Prop where
 f:OwnFr B w v4 KV
 n:OwnN B w v5 (K.map (·.1))
 e:KV.map (·.1)=K.map (·.2)
 o:FvOk w m KV
 k:∀x,x∈K->KOk (m:Int) G x
theorem KSt.keep {B m:Nat} {G:Nat->Bool} {v4 v5:Value} {KV:List FV} {K:List (Int×Pro)} {w W:World} (h:KSt B m G v4 v5 KV K w) (k:Below w.heap.size w W):KSt B m G v4 v5 KV K W:=⟨h.f.keep k,own_keep h.n k,h.e,h.o.keep k,h.k⟩
theorem KSt.len {B m:Nat} {G:Nat->Bool} {v4 v5:Value} {KV:List FV} {K:List (Int×Pro)} {w:World} (h:KSt B m G v4 v5 KV K w):KV.length=K.length:=by
 have:=congrArg List.length h.e
 simpa using this
end Go.Proofs.Ytbejmklkicoibaa
