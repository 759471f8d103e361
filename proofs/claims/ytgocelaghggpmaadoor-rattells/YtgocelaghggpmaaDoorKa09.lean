/- What dividing digits by 2 and by 5 leaves is in lowest terms (plain mathematics of rat.decimal). The program's number of digits and a power of ten (rat.decimal), as far as it is walked: what stays in memory. -/
import Derived.Test.YtgocelaghggpmaaDoorKa08
namespace Go.Proofs.YtgocelaghggpmaaDoor
theorem cop2 {m:Nat} (h:m%2≠0):Nat.Coprime m 2:=by
 unfold Nat.Coprime
 rw [Nat.gcd_comm,Nat.gcd_rec,show m%2=1 by omega,Nat.gcd_one_left]
theorem cop5 {m:Nat} (h:m%5≠0):Nat.Coprime m 5:=by
 unfold Nat.Coprime
 rw [Nat.gcd_comm,Nat.gcd_rec]
 have:m%5=1∨m%5=2∨m%5=3∨m%5=4:=by omega
 rcases this with e | e | e | e <;> rw [e] <;> decide
theorem dec_cop {g h:Nat→Nat} {n:Nat} {k t u:Int} (O5:OutN g h 5 n k u) (c2:t≤0∨vlN g n%2≠0) (c5:u≤0∨vlN h n%5≠0):Nat.gcd (vlN h n) (2^t.toNat*5^u.toNat)=1:=by
 have h2:Nat.Coprime (vlN h n) (2^t.toNat):=by
   rcases c2 with c | c
   · rw [show t.toNat=0 by omega];exact Nat.gcd_one_right _
   · refine Nat.Coprime.pow_right _ (cop2 fun q=>c ?_)
     rw [O5.val,Nat.mul_mod,q,Nat.mul_zero,Nat.zero_mod]
 have h5:Nat.Coprime (vlN h n) (5^u.toNat):=by
   rcases c5 with c | c
   · rw [show u.toNat=0 by omega];exact Nat.gcd_one_right _
   · exact Nat.Coprime.pow_right _ (cop5 c)
 exact Nat.Coprime.mul_right h2 h5
theorem dec_none {f g h:Nat→Nat} {n:Nat} {k t u:Int} (hk:k≤0) (O2:OutN f g 2 n k t) (O5:OutN g h 5 n k u):t=k∧u=k∧vlN h n=vlN f n:=by
 have a1:=O2.le
 have a2:=O2.lo
 have b1:=O5.le
 have b2:=O5.lo
 have v2:=O2.val
 have v5:=O5.val
 rw [show (k-t).toNat=0 by omega,Nat.pow_zero,Nat.one_mul] at v2
 rw [show (k-u).toNat=0 by omega,Nat.pow_zero,Nat.one_mul] at v5
 exact⟨by omega,by omega,by rw [v2,v5]⟩
theorem vlN_lt {f:Nat→Nat}:∀{n:Nat},DgN f n→vlN f n<10^n
 | 0,_=>by show 0<1;decide
 | n+1,h=>by
   have:=vlN_lt (n:=n) fun j hj=>h j (by omega)
   have hd:=h n (by omega)
   unfold vlN
   rw [Nat.pow_succ]
   omega
def decV (v:Nat) (E:Int):Int×Int×Int:=if 0≤E then ofV false (v*10^E.toNat) 1 else ofV false v (10^(-E).toNat)
def leftV (m:Nat) (E t u:Int):Int×Int×Int:=if m*10^E.toNat<9223372036854775808∧2^t.toNat*5^u.toNat<9223372036854775808 then (sgnd false (m*10^E.toNat),((2^t.toNat*5^u.toNat:Nat):Int),0) else (0,0,3)
theorem dec_is {f g h:Nat→Nat} {n:Nat} {E t u:Int} (O2:OutN f g 2 n (-E) t) (O5:OutN g h 5 n (-E) u) (c2:t≤0∨vlN g n%2≠0) (c5:u≤0∨vlN h n%5≠0):leftV (vlN h n) E t u=decV (vlN f n) E:=by
 have hc:=dec_cop O5 c2 c5
 by_cases c:0≤E
 · obtain⟨e1,e2,e3⟩:=dec_none (by omega) O2 O5
   have z1:t.toNat=0:=by omega
   have z2:u.toNat=0:=by omega
   unfold leftV decV
   rw [if_pos c,z1,z2,e3,Nat.pow_zero,Nat.mul_one]
   have:=ofV_low (g:=false) (n:=vlN f n*10^E.toNat) (d:=1) (G:=1) (by omega) (by omega) (Nat.gcd_one_right _)
   rw [Nat.mul_one,Nat.mul_one] at this
   rw [this]
 · have a1:=O2.le
   have a2:=O2.lo
   have b1:=O5.le
   have b2:=O5.lo
   have e2:(2:Nat)^(-E).toNat=2^(-E-t).toNat*2^t.toNat:=by rw [←Nat.pow_add];congr 1;omega
   have e5:(5:Nat)^(-E).toNat=5^(-E-u).toNat*5^u.toNat:=by rw [←Nat.pow_add];congr 1;omega
   have d1:vlN f n=vlN h n*(2^(-E-t).toNat*5^(-E-u).toNat):=by
     rw [O2.val,O5.val]
     rw [Nat.mul_comm (vlN h n),Nat.mul_assoc]
   have d2:10^(-E).toNat=2^t.toNat*5^u.toNat*(2^(-E-t).toNat*5^(-E-u).toNat):=by
     rw [show (10:Nat)=2*5 from rfl,Nat.mul_pow,e2,e5]
     simp only [Nat.mul_assoc,Nat.mul_comm,Nat.mul_left_comm]
   have p:0<2^(-E-t).toNat*5^(-E-u).toNat:=Nat.mul_pos (Nat.pow_pos (by omega)) (Nat.pow_pos (by omega))
   have q:0<2^t.toNat*5^u.toNat:=Nat.mul_pos (Nat.pow_pos (by omega)) (Nat.pow_pos (by omega))
   unfold leftV decV
   rw [if_neg c,d1,d2,ofV_low p q hc,show E.toNat=0 by omega,Nat.pow_zero,Nat.mul_one]
theorem left_grown {m:Nat} {E t u:Int} (hm:m<9223372036854775808) :
   (if grN 10 E.toNat m<9223372036854775808∧grN 5 u.toNat (grN 2 t.toNat 1)<9223372036854775808 then (sgnd false (grN 10 E.toNat m),((grN 5 u.toNat (grN 2 t.toNat 1):Nat):Int),(0:Int)) else (0,0,3))=leftV m E t u:=by
 have a:=grN_is (f:=10) E.toNat m hm
 have b:(grN 5 u.toNat (grN 2 t.toNat 1)<9223372036854775808∧grN 5 u.toNat (grN 2 t.toNat 1)=2^t.toNat*5^u.toNat)∨(9223372036854775808≤grN 5 u.toNat (grN 2 t.toNat 1)∧9223372036854775808≤2^t.toNat*5^u.toNat):=by
   rcases grN_is (f:=2) t.toNat 1 (by omega) with ⟨h1,h2⟩ | ⟨h1,h2⟩
   · rw [Nat.one_mul] at h2
     have:=grN_is (f:=5) u.toNat _ h1
     rw [h2] at this ⊢
     exact this
   · rw [grN_big (by omega)]
     refine Or.inr ⟨h1, ?_⟩
     rw [Nat.one_mul] at h2
     exact Nat.le_trans h2 (Nat.le_mul_of_pos_right _ (Nat.pow_pos (by omega)))
 unfold leftV
 rcases a with ⟨a1,a2⟩ | ⟨a1,a2⟩
 · rw [←a2]
   rcases b with ⟨b1,b2⟩ | ⟨b1,b2⟩
   · rw [←b2]
   · rw [if_neg (by omega),if_neg (by omega)]
 · rw [if_neg (by omega),if_neg (by omega)]
theorem left_over {m:Nat} {E t u:Int} (hm:9223372036854775808≤m):leftV m E t u=(0,0,3):=by
 unfold leftV
 have:m≤m*10^E.toNat:=Nat.le_mul_of_pos_right _ (Nat.pow_pos (by omega))
 rw [if_neg (by omega)]
end Go.Proofs.YtgocelaghggpmaaDoor
namespace Go.Proofs.YtgocelaghggpmaaDoor
open Go.ChangeShapes Go.WideShapes Go.ChangeAt Go.RowKit
theorem Byts.keep {w W:World} {b n:Nat} {f:Nat→Nat} (h:Byts w b n f) (k:Below w.heap.size w W):Byts W b n f :=
 ⟨fun j hj=>keepsC k (h.cell j hj) h.lt,fun j hj=>keepsF k (h.free j hj) h.lt,Nat.lt_of_lt_of_le h.lt k.size⟩
theorem ButB.trans {b:Nat} {u v w:World} (h:ButB b u v) (k:ButB b v w):ButB b u w :=
 ⟨k.os.trans h.os,k.tape.trans h.tape,k.output.trans h.output,Nat.le_trans h.size k.size,fun i hi hne=>(k.block i (Nat.lt_of_lt_of_le hi h.size) hne).trans (h.block i hi hne)⟩
theorem ButB.later {b:Nat} {u v w:World} (h:ButB b u v) (k:Below v.heap.size v w):ButB b u w :=
 h.trans ⟨k.os,k.tape,k.output,k.size,fun i hi _=>k.block i hi⟩
theorem ButB.has2 {b c:Nat} {w w':World} {x y:Value} (k:ButB b w w') (h:Has2 w c x y) (hne:c≠b):Has2 w' c x y:=by
 obtain⟨h0,h1,f0,f1,hl⟩:=h
 have e:=k.block c hl hne
 exact⟨(World.cell?_of_block (w:=w) (a:=⟨c,0,none⟩) e).trans h0,(World.cell?_of_block (w:=w) (a:=⟨c,1,none⟩) e).trans h1,(World.frozen?_of_block (w:=w) (a:=⟨c,0,none⟩) e).trans f0,(World.frozen?_of_block (w:=w) (a:=⟨c,1,none⟩) e).trans f1,Nat.lt_of_lt_of_le hl k.size⟩
theorem ButB.below {b B:Nat} {w w':World} (k:ButB b w w') (hB:B≤b) (hw:B≤w.heap.size):Below B w w' :=
 ⟨k.os,k.tape,k.output,k.size,fun i hi=>k.block i (by omega) (by omega)⟩
def textN (f:Nat→Nat) (n:Nat):List UInt8:=(List.range n).map fun j=>UInt8.ofNat (f j)
theorem textN_length (f:Nat→Nat) (n:Nat):(textN f n).length=n:=by unfold textN;rw [List.length_map,List.length_range]
theorem textN_get {f:Nat→Nat} {n:Nat} (D:DgN f n) (j:Nat) (h:j<(textN f n).length):((textN f n)[j]).toNat=f j:=by
 have hj:j<n:=by rw [textN_length] at h;exact h
 have d:=D j hj
 have e:(textN f n)[j]=UInt8.ofNat (f j):=by simp [textN]
 rw [e,UInt8.toNat_ofNat']
 exact Nat.mod_eq_of_lt (by omega)
theorem conv_text {w:World} {b n cap:Nat} {f:Nat→Nat} (B:Byts w b n f) (D:DgN f n):(convert 51 9 (.slice (some ⟨b,0,none⟩) n cap)).run Tryd.prog w=.ok (.string ⟨(textN f n).toArray⟩) w:=by
 have h:=run_convert_bytes_back (P:=Tryd.prog) w 51 9 5 ⟨b,0,none⟩ cap (textN f n) Tryd.underlying51 Tryd.underlying5 Tryd.underlying9 (fun j hj=>by
   rw [textN_get D j hj]
   have:=B.cell j (by rw [textN_length] at hj;exact hj)
   rw [←this]
   simp only [Addr.add]
   split
   · rename_i q;subst q;rfl
   · rw [Nat.zero_add])
 rw [textN_length] at h
 exact h
end Go.Proofs.YtgocelaghggpmaaDoor
