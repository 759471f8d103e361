/- LexPlaces: the law's walk. -/
import Derived.Test.YtgocelaghggpmaaDoorChecked
import Derived.Lib.Strings
import Derived.Lib.Slices
import Derived.Lib.Small
import Derived.Lib.Walk
import Derived.Lib.BitFns
import Derived.KernelRfl
import Derived.WalkKit
import Derived.Laws.Cover2
import Derived.Laws.FloatArith
import Derived.Laws.BitsAllLaws
import Derived.Test.YtgocelaghggpmaaDoorRows
import Derived.ProofKit
import Derived.OpenShut
import Derived.WalkSpells
import Derived.WalkLawsBesides
import Derived.Laws.Externs
import Derived.Laws.Bits64b
import Derived.Handy
import Derived.Deep.RegionWith
import Derived.Deep.QuietTactic
import Derived.BigQuiet
import Derived.Deep.RegionHeld3
import Derived.Deep.CutRange
import Derived.Deep.LoopGhost
import Derived.Deep.CutBlock
import Derived.WalkSmall
import Derived.Deep.Quiet
import Derived.StillTail
import Derived.Lib.ConvBytes
import Derived.Lib.AtoiErrMem
import Derived.Test.YtgocelaghggpmaaDoorShelf
import Derived.Maps.Own
import Derived.Maps.OwnOps
import Derived.Maps.OwnSet
import Derived.Maps.AppendAt
import Derived.StringKeys
import Derived.Lib.AppendIntMem
import Derived.Laws.AppendOwn
import Derived.Lib.ParseIntBCases
import Derived.Deep.Cut
import Derived.LaidMore
import Derived.Stop.LaidErr
import Derived.Lib.SmallJoins
import Derived.Test.YtgocelaghggpmaaDoorKa01
import Derived.Test.YtgocelaghggpmaaDoorKa02
import Derived.Test.YtgocelaghggpmaaDoorKa03
import Derived.Test.YtgocelaghggpmaaDoorKa04
import Derived.Test.YtgocelaghggpmaaDoorKa05
import Derived.Test.YtgocelaghggpmaaDoorKa06
import Derived.Test.YtgocelaghggpmaaDoorKa07
import Derived.Test.YtgocelaghggpmaaDoorKa08
import Derived.Test.YtgocelaghggpmaaDoorKa09
import Derived.Test.YtgocelaghggpmaaDoorKa10
import Derived.Test.YtgocelaghggpmaaDoorKa11
import Derived.Test.YtgocelaghggpmaaDoorKa12
import Derived.Test.YtgocelaghggpmaaDoorKa13
import Derived.Test.YtgocelaghggpmaaDoorKa14
import Derived.Test.YtgocelaghggpmaaDoorKa15
import Derived.Test.YtgocelaghggpmaaDoorKa16
import Derived.Test.YtgocelaghggpmaaDoorKa17
import Derived.Test.YtgocelaghggpmaaDoorKa18
import Derived.Test.YtgocelaghggpmaaDoorKa19
import Derived.Test.YtgocelaghggpmaaDoorKa20
import Derived.Test.YtgocelaghggpmaaDoorKa21
import Derived.Test.YtgocelaghggpmaaDoorKa22
import Derived.Test.YtgocelaghggpmaaDoorKa23
import Derived.Test.YtgocelaghggpmaaDoorKa24
import Derived.Test.YtgocelaghggpmaaDoorKa25
import Derived.Test.YtgocelaghggpmaaDoorKa26
import Derived.Test.YtgocelaghggpmaaDoorKa27
import Derived.Test.YtgocelaghggpmaaDoorKa28
import Derived.Test.YtgocelaghggpmaaDoorKa29
import Derived.Test.YtgocelaghggpmaaDoorKa30
import Derived.Test.YtgocelaghggpmaaDoorKa31
import Derived.Test.YtgocelaghggpmaaDoorKa32
import Derived.Test.YtgocelaghggpmaaDoorKa33
import Derived.Test.YtgocelaghggpmaaDoorKa34
import Derived.Test.YtgocelaghggpmaaDoorKa35
import Derived.Test.YtgocelaghggpmaaDoorKp03
namespace Go.Proofs.YtgocelaghggpmaaDoor
open Go.ChangeShapes Go.WideShapes Go.ChangeAt Go.RowKit Go.Maps
theorem lexF_nil (s:ByteArray):∀g p T,(lexF s g p T).e≠0→(lexF s g p T).t=[]
 | 0,p,T,h=>absurd rfl h
 | g+1,p,T,h=>by
   unfold lexF at h ⊢
   by_cases c1:p<s.size
   · rw [if_pos c1] at h ⊢
     by_cases c2:T.length=4000
     · rw [if_pos c2]
     · rw [if_neg c2] at h ⊢
       by_cases c3:(firstV (s.extract p s.size)).e≠0
       · rw [if_pos c3]
       · rw [if_neg c3] at h ⊢
         exact lexF_nil s g _ _ h
   · rw [if_neg c1] at h
     exact absurd rfl h
theorem lex_nil {s:ByteArray} (h:(lexV s).e≠0):(lexV s).t=[]:=by
 unfold lexV at h ⊢
 by_cases c:20000<s.size
 · rw [if_pos c]
 · rw [if_neg c] at h ⊢
   exact lexF_nil s _ _ _ h
theorem lex_len {s:ByteArray} (h:(lexV s).e=0):(lexV s).t.length≤4001:=by
 have:=lex_small h
 unfold lexV at h ⊢
 rw [if_neg (by omega)] at h ⊢
 exact lexF_len s _ _ _ h (by simp)
theorem Tks.from {w:World} {b o n:Nat} {Z:Nat→Tk} (h:Tks w (some ⟨b,o,none⟩) n Z) (i:Nat):Tks w (some ⟨b,o+i*5,none⟩) (n-i) (fun j=>Z (i+j)):=by
 intro j hj
 obtain⟨b',o',e,l,c0,c1,c2,c3,c4⟩:=h (i+j) (by omega)
 cases e
 refine⟨b,o+i*5,rfl,l, ?_, ?_, ?_, ?_, ?_⟩
 · rw [show o+i*5+j*5=o+(i+j)*5 by omega];exact c0
 · rw [show o+i*5+j*5+1=o+(i+j)*5+1 by omega];exact c1
 · rw [show o+i*5+j*5+2=o+(i+j)*5+2 by omega];exact c2
 · rw [show o+i*5+j*5+3=o+(i+j)*5+3 by omega];exact c3
 · rw [show o+i*5+j*5+4=o+(i+j)*5+4 by omega];exact c4
theorem ownK_cap {B:Nat} {w:World} {A:Option Addr} {n C:Nat} {T:List Tk} (h:OwnK B w (.slice A n C) T):T.length≤C:=by
 have h':w.ownsRow B 39 5 (.slice A n C) T.length (tkCells T):=h
 rcases h'.2 with ⟨-,hn⟩ | ⟨g,cap,cur,hv, -, -,hc, -⟩
 · omega
 · cases hv
   exact hc
structure Plc (s:ByteArray) (T:List Tk) (i p:Nat) (U:List Tk):Prop where
 a:(T.getD i noK).a=(p:Int)
 le:p≤s.size
 up:∀j,i=j+1→(T.getD j noK).a<(p:Int)
 lex:lexV (s.extract p s.size)=⟨U,0,0⟩
 len:T.length-i=U.length
 pos:0<U.length
 fst:(U.getD 0 noK).a=0
 same:∀j,j<U.length→(T.getD (i+j) noK).k=(U.getD j noK).k∧(T.getD (i+j) noK).s=(U.getD j noK).s∧(T.getD (i+j) noK).n=(U.getD j noK).n∧(T.getD (i+j) noK).d=(U.getD j noK).d
theorem plc_of {s:ByteArray} (he:(lexV s).e=0) {i:Nat} (hi:i<(lexV s).t.length):∃p U,Plc s (lexV s).t i p U:=by
 have hg:(lexV s).t[i]?=some ((lexV s).t.getD i noK):=by simp [List.getD,hi]
 obtain⟨p,U,h1,h2,h3,h4,h5⟩:=lex_from (lex_small he) he hg
 have hlen:(lexV s).t.length-i=U.length:=by
   have:=congrArg List.length h3
   rwa [List.length_drop,List.length_map] at this
 have sm:∀j,j<U.length→(lexV s).t.getD (i+j) noK=shK p (U.getD j noK):=by
   intro j hj
   have e1:((lexV s).t.drop i)[j]?=(lexV s).t[i+j]?:=List.getElem?_drop
   rw [h3,List.getElem?_map] at e1
   have e2:U[j]?=some (U.getD j noK):=by simp [List.getD,hj]
   rw [e2] at e1
   simp only [Option.map_some] at e1
   unfold List.getD
   rw [←e1]
   simp [List.getD]
 refine⟨p,U,h1,h2, ?_,h4,hlen,by omega, ?_, ?_⟩
 · intro j hj
   have hjl:j<(lexV s).t.length:=by omega
   rw [←h1]
   refine h5 _ (by omega) ?_
   rw [show i-1=j by omega]
   simp [List.getD,hjl]
 · have:=sm 0 (by omega)
   rw [Nat.add_zero] at this
   rw [this] at h1
   have h1':(U.getD 0 noK).a+(p:Int)=(p:Int):=h1
   omega
 · intro j hj
   rw [sm j hj]
   exact⟨rfl,rfl,rfl,rfl⟩
set_option maxHeartbeats 8000000 in
set_option maxRecDepth 20000 in
theorem lexPlaces_good (s:ByteArray) (T:List Tk) (n:Nat) (hn:T.length=n) (hn0:0<n) (hl:n≤4001) (hz:s.size≤20000) (hP:∀i,i<n→∃p U,Plc s T i p U) (hE:T.getD (n-1) noK=endK s.size) (w:World)
   (cl0:Calls Tryd.prog 15 #[.string s] w fun r w'=>∃v,r=.returned (.tuple #[v,.int .i64 0,.int .i64 0])∧OwnK w.heap.size w' v T∧Below w.heap.size w w')
   (cl:∀p U W,lexV (s.extract p s.size)=⟨U,0,0⟩→Below w.heap.size w W→Calls Tryd.prog 15 #[.string (s.extract p s.size)] W fun r w'=>∃v,r=.returned (.tuple #[v,.int .i64 0,.int .i64 0])∧OwnK W.heap.size w' v U∧Below W.heap.size W w') :
   Calls Tryd.prog 6 #[.string s] w fun e w'=>e=.returned (.bool true)∧Below w.heap.size w w':=by
 have HP:Hid _:=hP
 have HE:Hid _:=hE
 have HN:Hid _:=hn
 have zi:(s.size:Int)≤20000:=by omega
 have ni:(n:Int)≤4001:=by omega
 clear hP hE
 go_enter Tryd.func6,Tryd.ntmps6
 go_upto_region 2 with (go_at_call 15;(with_reducible refine cl0.mono ?_);rintro _ W1 ⟨v,rfl,own,HB0⟩;obtain⟨A,C,rfl,tk⟩:=ownK_tks own noK)
 have hC:=ownK_cap own
 rw [hn] at hC
 have hCi:(n:Int)≤(C:Int):=by omega
 obtain⟨b,o,eA⟩:∃b o,A=some ⟨b,o,none⟩:=by
   obtain⟨b,o,e, -⟩:=tk 0 (by omega)
   exact⟨b,o,e⟩
 subst eA
 rw [hn] at tk
 have TK:Hid _:=tk
 clear own tk cl0 hn
 go_upto_region 5 with fail
 go_loopg [24] n (fun G s24 wx=>∃i:Nat,s24=.int .i64 (i:Int)∧i≤n∧i+G=n∧Below W1.heap.size W1 wx)
 case atStart=>exact⟨0,rfl,by omega,by omega,Below.refl _ _⟩
 case round =>
   obtain⟨i,rfl,hi,hG,HB⟩:=hrel
   by_cases c:i<n
   · have ci:(i:Int)<(n:Int):=by omega
     obtain⟨p,U,PL⟩:=HP.out i c
     obtain⟨b',o',eb,hb,a0,a1,a2,a3,a4⟩:=Tks.keep TK.out HB i c
     cases eb
     have pa:=PL.a
     have ple:(p:Int)≤(s.size:Int):=by have:=PL.le;omega
     rw [pa] at a4
     clear pa
     generalize (T.getD i noK).k=zk at *
     generalize (T.getD i noK).s=zs at *
     generalize (T.getD i noK).n=zn at *
     generalize (T.getD i noK).d=zd at *
     go_upto_region 7 with fail
     have h2:=grewW wr (.cells #[.int .i64 zk,.string zs,.int .i64 zn,.int .i64 zd,.int .i64 (p:Int)] 39)
     have X:=hasK5_new wr (.int .i64 zk) (.string zs) (.int .i64 zn) (.int .i64 zd) (.int .i64 (p:Int)) 39
     replace HB:=later HB h2
     clear h2 a0 a1 a2 a3 a4 hb
     generalize wr.alloc (.cells #[.int .i64 zk,.string zs,.int .i64 zn,.int .i64 zd,.int .i64 (p:Int)] 39)=V at *
     generalize wr.heap.size=bt at *
     have x4:=X.2.2.2.2.1
     have xl:=X.2.2.2.2.2.2.2.2.2.2
     have p1:¬(p:Int)<0:=by omega
     have p2:¬(s.size:Int)<(p:Int):=by omega
     clear X
     go_cut [6,24,53] from 25 to 52 (fun s6 s24 s53 wx=>s6=.int .i64 (i:Int)∧s24=.int .i64 (i:Int)∧s53=.bool false∧Below V.heap.size V wx)
     case first =>
       by_cases i0:0<i
       · obtain⟨j,rfl⟩:∃j,i=j+1:=⟨i-1,by omega⟩
         have up:=PL.up j rfl
         obtain⟨b',o',eb,hb, -, -, -, -,b4⟩:=Tks.keep TK.out HB j (by omega)
         cases eb
         have j2:(j:Int)<(n:Int):=by omega
         have j3:¬(p:Int)≤(T.getD j noK).a:=by omega
         have j5:(j:Int)+1≤5000:=by omega
         generalize (T.getD j noK).a=za at *
         clear PL HP HE HN TK cl up
         go_quiet (fail)
         go_wp2_with fail
         go_meet
         case rel=>exact⟨rfl,rfl,rfl,below_drewN _ _⟩
       · have i1:decide (0<i)=false:=decide_eq_false i0
         clear PL HP HE HN TK cl i0
         go_quiet (fail)
         go_wp2_with fail
         go_meet
         case rel=>exact⟨rfl,rfl,rfl,below_drewN _ _⟩
     case rest =>
       obtain⟨rfl,rfl,rfl,hb1⟩:=hcut
       replace HB:=later HB hb1
       replace x4:=keepsC hb1 x4 xl
       clear hb1 xl p1 p2
       go_upto_region 9 with fail
       go_cut [61] from 54 to 60 (fun s61 wx=>∃q:Bool,s61=.bool q∧wc=wx)
       case first =>
         clear PL HP HE HN TK cl
         by_cases c6:60<(n:Int)
         · go_wp2_with fail
           go_meet
           case rel=>exact⟨_,rfl,rfl⟩
         · go_wp2_with fail
           go_meet
           case rel=>exact⟨_,rfl,rfl⟩
       case rest =>
         obtain⟨q,rfl,rfl⟩:=hcut
         cases q
         · have cl1:=cl p U wc PL.lex (later HB0 HB)
           have ip:(i:Int)≤(n:Int):=by omega
           clear cl HP HE
           go_upto_region 11 with (go_at_call 15;(with_reducible refine cl1.mono ?_);rintro _ W3 ⟨v,rfl,own,hb1⟩;obtain⟨A2,C2,rfl,tk2⟩:=ownK_tks own noK)
           obtain⟨b2,o2,eA2⟩:∃b2 o2,A2=some ⟨b2,o2,none⟩:=by
             obtain⟨b2,o2,e2, -⟩:=tk2 0 PL.pos
             exact⟨b2,o2,e2⟩
           subst eA2
           replace HB:=later HB hb1
           clear own hb1 x4 cl1
           have hln:=PL.len
           rw [HN.out] at hln
           rw [←hln] at tk2 ⊢
           have tk3:=Tks.from (Tks.keep TK.out HB) i
           have cL:∀C1,Calls Tryd.prog 17 #[.slice (some ⟨b,o+i*5,none⟩) (n-i) C1,.slice (some ⟨b2,o2,none⟩) (n-i) C2,.bool false] W3 fun e w'=>e=.returned (.bool true)∧Below W3.heap.size W3 w':=fun C1=>like_f _ _ (n-i) C1 C2 (by omega) _ _ (fun j hj=>PL.same j (by omega)) W3 tk3 tk2
           obtain⟨b',o',eb,yl, -, -, -, -,y4⟩:=tk2 0 (by omega)
           cases eb
           dsimp only at y4
           rw [PL.fst] at y4
           have y5:W3.cell? ⟨b2,o2+4,none⟩=some (.int .i64 0):=by rw [show o2+4=o2+0*5+4 by omega];exact y4
           have ni1:(0:Int)<((n-i:Nat):Int):=by omega
           clear tk2 tk3 y4 PL TK hln HN
           go_wp2_with (go_at_call 17;(with_reducible refine (cL _).mono ?_);rintro _ W4 ⟨rfl,hb1⟩;replace y5:=keepsC hb1 y5 yl;replace HB:=later HB hb1;clear hb1)
           (go_roundg (n-i-1)
            case measure=>omega
            case rel=>exact⟨i+1,by go_num,by omega,by omega,HB⟩)
         · clear PL HP HE HN TK cl x4
           go_wp2_with fail
           (go_roundg (n-i-1)
            case measure=>omega
            case rel=>exact⟨i+1,by go_num,by omega,by omega,HB⟩)
   · have ci:¬(i:Int)<(n:Int):=by omega
     obtain⟨m,rfl⟩:∃m,n=m+1:=⟨n-1,by omega⟩
     obtain⟨b',o',eb,hb,a0,a1,a2,a3,a4⟩:=Tks.keep TK.out HB m (by omega)
     cases eb
     have HE1:T.getD m noK=endK s.size:=HE.out
     dsimp only at a0 a1 a2 a3 a4
     rw [HE1] at a0 a1 a2 a3 a4
     dsimp only [endK] at a0 a1 a2 a3 a4
     clear HP HE HN TK cl HE1
     go_wp2_with fail
     go_ret
     exact⟨rfl,later HB0 HB⟩
end Go.Proofs.YtgocelaghggpmaaDoor
