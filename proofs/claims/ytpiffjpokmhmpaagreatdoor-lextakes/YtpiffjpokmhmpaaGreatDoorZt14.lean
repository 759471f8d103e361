/- The program's number of digits and a power of ten (rat.decimal), as far as it is walked: what stays in memory. -/
import Derived.Test.YtpiffjpokmhmpaaGreatDoorZt13
namespace Go.Proofs.YtpiffjpokmhmpaaGreatDoor
open Go.ChangeShapes Go.WideShapes Go.ChangeAt Go.RowKit
theorem Byts.keep {w W:World} {b n:Nat} {f:Nat→Nat} (h:Byts w b n f) (k:Below w.heap.size w W):Byts W b n f :=
 ⟨fun j hj=>keepsC k (h.cell j hj) h.lt,fun j hj=>keepsF k (h.free j hj) h.lt,Nat.lt_of_lt_of_le h.lt k.size⟩
theorem ButB.trans {b:Nat} {u v w:World} (h:ButB b u v) (k:ButB b v w):ButB b u w :=
 ⟨k.os.trans h.os,k.tape.trans h.tape,k.output.trans h.output,Nat.le_trans h.size k.size,fun i hi hne=>(k.block i (Nat.lt_of_lt_of_le hi h.size) hne).trans (h.block i hi hne)⟩
theorem ButB.later {b:Nat} {u v w:World} (h:ButB b u v) (k:Below v.heap.size v w):ButB b u w :=
 h.trans ⟨k.os,k.tape,k.output,k.size,fun i hi _=>k.block i hi⟩
theorem ButB.has2 {b c:Nat} {w w':World} {x y:Value} (k:ButB b w w') (h:Has2 w c x y) (hne:c≠b):Has2 w' c x y:=by
 obtain⟨h0,h1,f0,f1,hl⟩:=h
 have e:=k.block c hl hne
 exact⟨(World.cell?_of_block (w:=w) (a:=⟨c,0,none⟩) e).trans h0,(World.cell?_of_block (w:=w) (a:=⟨c,1,none⟩) e).trans h1,(World.frozen?_of_block (w:=w) (a:=⟨c,0,none⟩) e).trans f0,(World.frozen?_of_block (w:=w) (a:=⟨c,1,none⟩) e).trans f1,Nat.lt_of_lt_of_le hl k.size⟩
theorem ButB.below {b B:Nat} {w w':World} (k:ButB b w w') (hB:B≤b) (hw:B≤w.heap.size):Below B w w' :=
 ⟨k.os,k.tape,k.output,k.size,fun i hi=>k.block i (by omega) (by omega)⟩
def textN (f:Nat→Nat) (n:Nat):List UInt8:=(List.range n).map fun j=>UInt8.ofNat (f j)
theorem textN_length (f:Nat→Nat) (n:Nat):(textN f n).length=n:=by unfold textN;rw [List.length_map,List.length_range]
theorem textN_get {f:Nat→Nat} {n:Nat} (D:DgN f n) (j:Nat) (h:j<(textN f n).length):((textN f n)[j]).toNat=f j:=by
 have hj:j<n:=by rw [textN_length] at h;exact h
 have d:=D j hj
 have e:(textN f n)[j]=UInt8.ofNat (f j):=by simp [textN]
 rw [e,UInt8.toNat_ofNat']
 exact Nat.mod_eq_of_lt (by omega)
theorem conv_text {w:World} {b n cap:Nat} {f:Nat→Nat} (B:Byts w b n f) (D:DgN f n):(convert 61 9 (.slice (some ⟨b,0,none⟩) n cap)).run Tryz.prog w=.ok (.string ⟨(textN f n).toArray⟩) w:=by
 have h:=run_convert_bytes_back (P:=Tryz.prog) w 61 9 5 ⟨b,0,none⟩ cap (textN f n) Tryz.underlying61 Tryz.underlying5 Tryz.underlying9 (fun j hj=>by
   rw [textN_get D j hj]
   have:=B.cell j (by rw [textN_length] at hj;exact hj)
   rw [←this]
   simp only [Addr.add]
   split
   · rename_i q;subst q;rfl
   · rw [Nat.zero_add])
 rw [textN_length] at h
 exact h
end Go.Proofs.YtpiffjpokmhmpaaGreatDoor
