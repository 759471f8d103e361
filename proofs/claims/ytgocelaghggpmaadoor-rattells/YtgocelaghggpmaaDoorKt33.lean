/- Plain facts: what the program rounds parts to, to any side, is what the document's words ask of the exact number: the place below, whether it is it, the middle. Plain facts: sums, products, quotients and roots of the program are the exact ones, rounded by the document's words, to any side. -/
import Derived.Test.YtgocelaghggpmaaDoorKt06
namespace Go.Proofs.YtgocelaghggpmaaDoor
def IsRnd (x:Ex) (dir k:Int):Prop:=∃d,KDown x d ∧
 ((d≠-9218868437227405312∧x.le (2*V d)∧x.ge (2*V d))∧k=d ∨
  ¬(d≠-9218868437227405312∧x.le (2*V d)∧x.ge (2*V d))∧(dir<0→k=d)∧(0<dir→k=d+1) ∧
   (dir=0→(x.le (V d+V (d+1))∧x.ge (V d+V (d+1))∧k=(if d%2=0 then d else d+1) ∨
     ¬(x.le (V d+V (d+1))∧x.ge (V d+V (d+1)))∧(x.le (V d+V (d+1))∧k=d+1∨¬x.le (V d+V (d+1))∧k=d))))
theorem rnd_of {x:Ex} (ok:x.Ok) {g:Bool} (hg:if g then x.ge 0 else x.le 0) {dir:Int} {r:Nat} (h:IsR (x.amt g) (sideN dir g) r):IsRnd x dir (if g then -(r:Int) else r):=by
 obtain⟨d,hd,h0,h2,h1⟩:=h
 have dt:=hd.top
 cases g
 · simp only [Bool.false_eq_true,if_false] at *
   have lo:x.le ((2*val d:Nat):Int):=hd.low
   have up:d=9218868437227405311∨¬x.le ((2*val (d+1):Nat):Int):=hd.up
   have s1:dir<0→sideN dir false=0:=by
     intro t
     have u:¬0<dir:=by omega
     unfold sideN
     rw [if_neg (by omega)]
     simp [u]
   have s2:0<dir→sideN dir false=2:=fun t=>by unfold sideN;rw [if_neg (by omega)];simp [t]
   have s3:dir=0→sideN dir false=1:=fun t=>by unfold sideN;rw [if_pos t]
   have e2:((2*val d:Nat):Int)=2*V (d:Int):=by rw [V_nat];simp
   have e3:((d:Int)+1)=((d+1:Nat):Int):=by omega
   have em:((val d+val (d+1):Nat):Int)=V (d:Int)+V ((d:Int)+1):=by rw [e3,V_nat,V_nat];simp
   have eqd:(x.amt false).eq (2*val d)↔x.le (2*V (d:Int))∧x.ge (2*V (d:Int)):=by rw [←e2];exact Iff.rfl
   have eqm:(x.amt false).eq (val d+val (d+1))↔x.le (V (d:Int)+V ((d:Int)+1))∧x.ge (V (d:Int)+V ((d:Int)+1)):=by rw [←em];exact Iff.rfl
   have lem:(x.amt false).le (val d+val (d+1))↔x.le (V (d:Int)+V ((d:Int)+1)):=by rw [←em];exact Iff.rfl
   have kd:KDown x (d:Int):=⟨by omega,by omega,Or.inr (by rw [←e2];exact lo),by
     rcases up with u | u
     · left;omega
     · right
       rw [e3,V_nat]
       exact fun c=>u (ok.down (by omega) c)⟩
   refine⟨d,kd, ?_⟩
   have dn:(d:Int)≠-9218868437227405312:=by omega
   rw [eqd] at h1 h2
   rw [eqm,lem] at h1
   by_cases eqx:x.le (2*V (d:Int))∧x.ge (2*V (d:Int))
   · left
     refine⟨⟨dn,eqx⟩, ?_⟩
     rcases Int.lt_trichotomy dir 0 with t | t | t
     · rw [h0 (s1 t)]
     · rcases h1 (s3 t) with ⟨-,b⟩ | ⟨b, -⟩
       · rw [b]
       · exact absurd eqx b
     · rcases h2 (s2 t) with ⟨-,b⟩ | ⟨b, -⟩
       · rw [b]
       · exact absurd eqx b
   · right
     refine⟨fun c=>eqx c.2,fun t=>by rw [h0 (s1 t)],fun t=>?_,fun t=>?_⟩
     · rcases h2 (s2 t) with ⟨b, -⟩ | ⟨-,b⟩
       · exact absurd b eqx
       · omega
     · rcases h1 (s3 t) with ⟨b, -⟩ | ⟨-,⟨b,c⟩ | ⟨b,⟨c,e⟩ | ⟨c,e⟩⟩⟩
       · exact absurd b eqx
       · left
         refine⟨b.1,b.2, ?_⟩
         rw [c]
         by_cases p:d%2=0
         · rw [if_pos p,if_pos (by omega)]
         · rw [if_neg p,if_neg (by omega)];omega
       · right;exact⟨b,Or.inl ⟨c,by omega⟩⟩
       · right;exact⟨b,Or.inr ⟨c,by omega⟩⟩
 · simp only [if_true] at *
   have lo:x.ge (-((2*val d:Nat):Int)):=hd.low
   have up:d=9218868437227405311∨¬x.ge (-((2*val (d+1):Nat):Int)):=hd.up
   have s1:dir<0→sideN dir true=2:=by
     intro t
     have u:¬0<dir:=by omega
     unfold sideN
     rw [if_neg (by omega)]
     simp [u]
   have s2:0<dir→sideN dir true=0:=fun t=>by unfold sideN;rw [if_neg (by omega)];simp [t]
   have s3:dir=0→sideN dir true=1:=fun t=>by unfold sideN;rw [if_pos t]
   have e2:-((2*val d:Nat):Int)=2*V (-(d:Int)):=by rw [V_negnat];omega
   have eqd:(x.amt true).eq (2*val d)↔x.le (2*V (-(d:Int)))∧x.ge (2*V (-(d:Int))):=by rw [←e2];exact Iff.rfl
   rw [eqd] at h1 h2
   by_cases eqx:x.le (2*V (-(d:Int)))∧x.ge (2*V (-(d:Int)))
   · have kd:KDown x (-(d:Int)):=⟨by omega,by omega,Or.inr eqx.1,Or.inr fun c=>by
       have c1:=ok.sep eqx.2 c
       have c2:=V_mono (show -(d:Int) < -(d:Int)+1 by omega)
       omega⟩
     refine⟨-(d:Int),kd,Or.inl ⟨⟨by omega,eqx⟩, ?_⟩⟩
     rcases Int.lt_trichotomy dir 0 with t | t | t
     · rcases h2 (s1 t) with ⟨-,b⟩ | ⟨b, -⟩
       · rw [b]
       · exact absurd eqx b
     · rcases h1 (s3 t) with ⟨-,b⟩ | ⟨b, -⟩
       · rw [b]
       · exact absurd eqx b
     · rw [h0 (s2 t)]
   · have e3:-((d+1:Nat):Int)+1=-(d:Int):=by omega
     have em:-((val d+val (d+1):Nat):Int)=V (-((d+1:Nat):Int))+V (-((d+1:Nat):Int)+1):=by rw [e3,V_negnat,V_negnat];omega
     have eqm:(x.amt true).eq (val d+val (d+1))↔x.le (V (-((d+1:Nat):Int))+V (-((d+1:Nat):Int)+1))∧x.ge (V (-((d+1:Nat):Int))+V (-((d+1:Nat):Int)+1)):=by rw [←em];exact Iff.rfl
     have lem:(x.amt true).le (val d+val (d+1))↔x.ge (V (-((d+1:Nat):Int))+V (-((d+1:Nat):Int)+1)):=by rw [←em];exact Iff.rfl
     rw [eqm,lem] at h1
     have kd:KDown x (-((d+1:Nat):Int)):=⟨by omega,by omega,by
       rcases up with u | u
       · left;omega
       · right
         rcases ok.total (-((2*val (d+1):Nat):Int)) with c | c
         · rw [V_negnat];exact ok.down (by omega) c
         · exact absurd c u,Or.inr fun c=>by
           rw [e3] at c
           exact eqx ⟨c,by rw [←e2];exact lo⟩⟩
     refine⟨-((d+1:Nat):Int),kd,Or.inr ⟨fun c=>?_,fun t=>?_,fun t=>?_,fun t=>?_⟩⟩
     · rcases up with u | u
       · exact c.1 (by omega)
       · apply u
         have:=c.2.2
         rw [V_negnat] at this
         exact ok.up (by omega) this
     · rcases h2 (s1 t) with ⟨b, -⟩ | ⟨-,b⟩
       · exact absurd b eqx
       · rw [b]
     · rw [h0 (s2 t)];omega
     · rcases h1 (s3 t) with ⟨b, -⟩ | ⟨-,⟨b,c⟩ | ⟨b,⟨c,e⟩ | ⟨c,e⟩⟩⟩
       · exact absurd b eqx
       · left
         refine⟨b.1,b.2, ?_⟩
         rw [c]
         by_cases p:d%2=0
         · rw [if_pos p,if_neg (by omega)];omega
         · rw [if_neg p,if_pos (by omega)]
       · right
         exact⟨b,Or.inr ⟨fun l=>b ⟨l,c⟩,by rw [e]⟩⟩
       · right
         refine⟨b,Or.inl ⟨?_,by omega⟩⟩
         rcases ok.total (V (-((d+1:Nat):Int))+V (-((d+1:Nat):Int)+1)) with l | l
         · exact l
         · exact absurd l c
end Go.Proofs.YtgocelaghggpmaaDoor
namespace Go.Proofs.YtgocelaghggpmaaDoor
theorem round_is {x:Ex} (ok:x.Ok) {g:Bool} {M:Nat} {E:Int} (dir:Int) (hM:M<18446744073709551616) (hE:-4096≤E∧E≤4096) (hz:M=0→x.le 0∧x.ge 0) (hg:if g then x.ge 0 else x.le 0) (near:M≠0→Near M E (x.amt g)) :
   IsRnd x dir (key (roundN g M E dir)):=by
 unfold roundN
 by_cases h0:M=0
 · rw [if_pos h0]
   obtain⟨l,u⟩:=hz h0
   have hk:key 0=0:=rfl
   rw [hk]
   refine⟨0,⟨by omega,by omega,Or.inr ?_,Or.inr fun c=>?_⟩,Or.inl ⟨⟨by omega, ?_, ?_⟩,rfl⟩⟩
   · rw [V_zero];exact l
   · have:=ok.sep u c
     have h1:=V_pos (show (0:Int)<0+1 by omega)
     omega
   · rw [V_zero];exact l
   · rw [V_zero];exact u
 · rw [if_neg h0]
   have ec:clampN E=E:=by unfold clampN;omega
   rw [ec]
   have hs:sideN dir g=0∨sideN dir g=1∨sideN dir g=2:=by unfold sideN;split <;> (try split) <;> omega
   have hr:=rung_is (ok.cut hg) (near h0) h0 hM hs
   have hle:rungN (topN M) (E-shiftN M) (sideN dir g)≤9218868437227405312:=by
     obtain⟨d,hd,r0,r2,r1⟩:=hr
     have:=hd.top
     rcases hs with c | c | c
     · have:=r0 c;omega
     · rcases r1 c with ⟨-,e⟩ | ⟨-,⟨-,e⟩ | ⟨-,⟨-,e⟩ | ⟨-,e⟩⟩⟩
       · omega
       · rw [e];split <;> omega
       · omega
       · omega
     · rcases r2 c with ⟨-,e⟩ | ⟨-,e⟩ <;> omega
   rw [(signN_facts g _ hle).2.2.2]
   exact rnd_of ok hg hr
end Go.Proofs.YtgocelaghggpmaaDoor
