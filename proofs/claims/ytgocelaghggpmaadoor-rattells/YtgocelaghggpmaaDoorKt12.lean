/- Plain facts on the digits of whole numbers, 32 bits each, the lowest first. -/
namespace Go.Proofs.YtgocelaghggpmaaDoor
def natOf:List Nat→Nat
 | []=>0
 | d :: ds=>d+4294967296*natOf ds
def Digs (ds:List Nat):Prop:=∀d∈ds,d<4294967296
def Trimmed (ds:List Nat):Prop:=0<ds.length→ds.getD (ds.length-1) 0≠0
theorem natOf_append (a b:List Nat):natOf (a++b)=natOf a+4294967296^a.length*natOf b:=by
 induction a with
 | nil=>simp [natOf]
 | cons d a ih=>simp only [List.cons_append,natOf,ih,List.length_cons,Nat.pow_succ,Nat.mul_add];rw [Nat.mul_comm (4294967296^a.length) 4294967296,Nat.mul_assoc];omega
theorem natOf_lt {ds:List Nat} (h:Digs ds):natOf ds<4294967296^ds.length:=by
 induction ds with
 | nil=>simp [natOf]
 | cons d a ih =>
   have h1:=h d (by simp)
   have h2:=ih (fun x hx=>h x (by simp [hx]))
   simp only [natOf,List.length_cons,Nat.pow_succ]
   omega
theorem Digs.take {ds:List Nat} (h:Digs ds) (k:Nat):Digs (ds.take k):=fun d hd=>h d (List.mem_of_mem_take hd)
theorem Digs.getD {ds:List Nat} (h:Digs ds) (k:Nat):ds.getD k 0<4294967296:=by
 rw [List.getD_eq_getElem?_getD]
 rcases Nat.lt_or_ge k ds.length with c | c
 · rw [List.getElem?_eq_getElem c];exact h _ (List.getElem_mem c)
 · rw [List.getElem?_eq_none c];simp
theorem Digs.append {a b:List Nat} (h:Digs a) (k:Digs b):Digs (a++b):=fun d hd=>by rcases List.mem_append.1 hd with c | c;exact h d c;exact k d c
theorem Digs.one {d:Nat} (h:d<4294967296):Digs [d]:=fun x hx=>by simp at hx;omega
theorem Digs.nil:Digs []:=fun x hx=>by simp at hx
theorem take_succ_getD (ds:List Nat) {k:Nat} (h:k<ds.length):ds.take (k+1)=ds.take k++[ds.getD k 0]:=by
 rw [List.take_add_one,List.getD_eq_getElem?_getD,List.getElem?_eq_getElem h];simp
theorem natOf_take_succ (ds:List Nat) {k:Nat} (h:k<ds.length):natOf (ds.take (k+1))=natOf (ds.take k)+4294967296^k*ds.getD k 0:=by
 rw [take_succ_getD ds h,natOf_append,List.length_take,Nat.min_eq_left (by omega)];simp [natOf]
theorem natOf_take_ge (ds:List Nat) {k:Nat} (h:ds.length≤k):natOf (ds.take k)=natOf ds:=by rw [List.take_of_length_le h]
theorem getD_ge (ds:List Nat) {k:Nat} (h:ds.length≤k):ds.getD k 0=0:=by
 rw [List.getD_eq_getElem?_getD,List.getElem?_eq_none h];rfl
theorem natOf_take_step (ds:List Nat) (k:Nat):natOf (ds.take (k+1))=natOf (ds.take k)+4294967296^k*ds.getD k 0:=by
 rcases Nat.lt_or_ge k ds.length with c | c
 · exact natOf_take_succ ds c
 · rw [natOf_take_ge ds (by omega),natOf_take_ge ds c,getD_ge ds c];simp
theorem Trimmed.low {ds:List Nat} (h:Trimmed ds) (hl:0<ds.length):4294967296^(ds.length-1)≤natOf ds:=by
 have e:=natOf_take_succ ds (k:=ds.length-1) (by omega)
 rw [natOf_take_ge ds (by omega)] at e
 have p:=h hl
 have:=Nat.mul_le_mul_left (4294967296^(ds.length-1)) (show 1≤ds.getD (ds.length-1) 0 by omega)
 omega
theorem pow32 (k:Nat):4294967296^k=2^(32*k):=by rw [Nat.pow_mul]
theorem Trimmed.len {ds:List Nat} (h:Trimmed ds) {k:Nat} (hn:natOf ds<2^k):32*ds.length<k+32:=by
 rcases Nat.eq_zero_or_pos ds.length with c | c
 · omega
 · have h1:=h.low c
   rw [pow32] at h1
   have:=(Nat.pow_lt_pow_iff_right (show 1<2 by omega)).1 (Nat.lt_of_le_of_lt h1 hn)
   omega
theorem Trimmed.zero {ds:List Nat} (h:Trimmed ds):natOf ds=0↔ds.length=0:=by
 constructor
 · intro e
   rcases Nat.eq_zero_or_pos ds.length with c | c
   · exact c
   · have:=h.low c
     have:=Nat.pow_pos (a:=4294967296) (n:=ds.length-1) (by omega)
     omega
 · intro e
   have:ds=[]:=List.eq_nil_of_length_eq_zero e
   subst this;rfl
theorem trimmed_nil:Trimmed []:=fun h=>by simp at h
theorem natOf_lt_of_len {a b:List Nat} (ha:Digs a) (hb:Trimmed b) (h:a.length<b.length):natOf a<natOf b:=by
 have h1:=natOf_lt ha
 have h2:=hb.low (by omega)
 have h3:=Nat.pow_le_pow_right (show 4294967296>0 by omega) (show a.length≤b.length-1 by omega)
 omega
theorem natOf_split (ds:List Nat) (k:Nat):natOf ds=natOf (ds.take k)+4294967296^k*natOf (ds.drop k):=by
 rcases Nat.lt_or_ge k ds.length with c | c
 · have:=natOf_append (ds.take k) (ds.drop k)
   rw [List.take_append_drop,List.length_take,Nat.min_eq_left (by omega)] at this
   exact this
 · rw [natOf_take_ge ds c,List.drop_of_length_le c];simp [natOf]
theorem natOf_lt_at {a b:List Nat} (ha:Digs a) {k:Nat} (hk:k<a.length) (hl:a.length=b.length) (ht:a.drop (k+1)=b.drop (k+1)) (hd:a.getD k 0<b.getD k 0):natOf a<natOf b:=by
 rw [natOf_split a (k+1),natOf_split b (k+1),ht,natOf_take_succ a hk,natOf_take_succ b (by omega)]
 have h1:=natOf_lt (ha.take k)
 rw [List.length_take,Nat.min_eq_left (by omega)] at h1
 have h2:=Nat.mul_le_mul_left (4294967296^k) (show a.getD k 0+1≤b.getD k 0 by omega)
 rw [Nat.mul_add] at h2
 omega
theorem drop_eq_step {a b:List Nat} {k:Nat} (hk:k<a.length) (hl:a.length=b.length) (ht:a.drop (k+1)=b.drop (k+1)) (hd:a.getD k 0=b.getD k 0):a.drop k=b.drop k:=by
 rw [List.drop_eq_getElem_cons hk,List.drop_eq_getElem_cons (show k<b.length by omega),ht]
 rw [List.getD_eq_getElem?_getD,List.getD_eq_getElem?_getD,List.getElem?_eq_getElem hk,List.getElem?_eq_getElem (show k<b.length by omega)] at hd
 simp at hd
 rw [hd]
theorem trim_step (ds:List Nat) {k:Nat} (hk:k<ds.length) (h:ds.getD k 0=0):natOf (ds.take k)=natOf (ds.take (k+1)):=by
 rw [natOf_take_succ ds hk,h];simp
theorem trim_end (ds:List Nat) {k:Nat} (hk:k<ds.length) (h:ds.getD k 0≠0):Trimmed (ds.take (k+1)):=by
 intro _
 rw [List.length_take,Nat.min_eq_left (by omega),List.getD_eq_getElem?_getD,Nat.add_sub_cancel,List.getElem?_take,if_pos (by omega),←List.getD_eq_getElem?_getD]
 exact h
theorem natOf_set (ds:List Nat) (k v:Nat) (hk:k<ds.length):natOf (ds.set k v)+4294967296^k*ds.getD k 0=natOf ds+4294967296^k*v:=by
 induction ds generalizing k with
 | nil=>simp at hk
 | cons d a ih =>
   cases k with
   | zero=>simp [natOf];omega
   | succ k =>
     have:=ih k (by simpa using hk)
     simp only [List.set_cons_succ,natOf,List.getD_cons_succ,Nat.pow_succ]
     rw [Nat.mul_comm (4294967296^k) 4294967296,Nat.mul_assoc,Nat.mul_assoc]
     omega
theorem natOf_zeros (n:Nat):natOf (List.replicate n 0)=0:=by
 induction n with
 | zero=>rfl
 | succ n ih=>simp [List.replicate_succ,natOf,ih]
theorem digs_zeros (n:Nat):Digs (List.replicate n 0):=fun d hd=>by have:=(List.mem_replicate.1 hd).2;omega
theorem Digs.set {ds:List Nat} (h:Digs ds) (k:Nat) {v:Nat} (hv:v<4294967296):Digs (ds.set k v):=fun d hd=>by
 rcases List.mem_or_eq_of_mem_set hd with c | c
 · exact h d c
 · omega
end Go.Proofs.YtgocelaghggpmaaDoor
