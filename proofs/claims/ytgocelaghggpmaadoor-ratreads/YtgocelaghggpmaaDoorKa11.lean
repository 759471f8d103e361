/- The reference's numbers of stage 11: the number that digits write. The program's reading of an exponent (rat.readExponent). -/
import Derived.Test.YtgocelaghggpmaaDoorKa03
import Derived.Deep.RegionWith
import Derived.Test.YtgocelaghggpmaaDoorKa10
import Derived.Lib.ConvBytes
import Derived.Lib.AtoiErrMem
namespace Go.Proofs.YtgocelaghggpmaaDoor
open Go.ChangeShapes Go.WideShapes Go.ChangeAt Go.RowKit
def valN (l:List UInt8):Nat:=l.foldl (fun n c=>n*10+(c.toNat-48)) 0
theorem valN_snoc (l:List UInt8) (c:UInt8):valN (l++[c])=valN l*10+(c.toNat-48):=by
 unfold valN
 rw [List.foldl_append]
 rfl
set_option maxHeartbeats 2000000 in
theorem expo_none (s:ByteArray) (h:s.toList.isEmpty=true∨(s.toList.isEmpty=false∧∃h0:0<s.size,¬s[0].toNat=101∧¬s[0].toNat=69)) (w:World) :
   Calls Tryd.prog 21 #[.string s] w fun e w'=>e=.returned (.tuple #[.int .i64 0,.string s,.bool true])∧w=w':=by
 rcases h with he | ⟨he,h0,h1,h2⟩
 · go_enter Tryd.func21,Tryd.ntmps21
   go_wp2_with fail
   refine bodyPost_ret (v:=.tuple #[.int .i64 0,.string s,.bool true]) (by simp [results,Tryd.results21,go_sem, *]) rfl ⟨rfl,rfl⟩
 · have z:(0:Int)<(s.size:Int):=by omega
   have h1':((s[0].toNat:Int) != 101)=true:=by rw [bne_iff_ne];omega
   have h2':((s[0].toNat:Int) != 69)=true:=by rw [bne_iff_ne];omega
   go_enter Tryd.func21,Tryd.ntmps21
   go_wp2_with fail
   refine bodyPost_ret (v:=.tuple #[.int .i64 0,.string s,.bool true]) (by simp [results,Tryd.results21,go_sem, *]) rfl ⟨rfl,rfl⟩
set_option maxHeartbeats 4000000 in
theorem expo_lm (s t v a r:ByteArray) (q:Bool) (E:Int) (he:s.toList.isEmpty=false) (h0:0<s.size) (h1:s[0].toNat=101) (ht:s.extract 1 s.size=t) (te:t.toList.isEmpty=false) (t0:0<t.size) (t1:t[0].toNat=45) (hv:t.extract 1 t.size=v) (hq:a.toList.isEmpty=!q) (ha:a.size≤2) (hd:∀i (h:i<a.size),isDg a[i]=true) (hE:E=-((valN a.data.toList:Nat):Int))
   (c:∀W,Calls Tryd.prog 19 #[.string v,.int .i64 2] W fun e w'=>e=.returned (.tuple #[.string a,.string r])∧Below W.heap.size W w') (w:World) :
   Calls Tryd.prog 21 #[.string s] w fun e w'=>e=.returned (.tuple #[.int .i64 E,.string r,.bool q])∧Below w.heap.size w w':=by
 have z:(0:Int)<(s.size:Int):=by omega
 have z1:(1:Int)≤(s.size:Int):=by omega
 have g1:((s[0].toNat:Int) != 101)=false:=by rw [bne_eq_false_iff_eq];omega
 have tz:(0:Int)<(t.size:Int):=by omega
 have tz1:(1:Int)≤(t.size:Int):=by omega
 have g3:((t[0].toNat:Int)==45)=true:=by rw [beq_iff_eq];omega
 go_enter Tryd.func21,Tryd.ntmps21
 go_upto_region 8 with (go_at_call 19;(with_reducible refine (c _).mono ?_);rintro _ W1 ⟨rfl,hb1⟩)
 have hcv:=Lib.run_convert_string_bytes (P:=Tryd.prog) W1 9 51 5 a Tryd.underlying9 Tryd.underlying51 Tryd.underlying5
 have hbb:=Lib.bytesWorld_below W1 5 a
 replace hb1:=later hb1 hbb
 clear hbb
 have cell:∀j (hj:j<a.size),(Lib.bytesWorld W1 5 a).cell? ⟨W1.heap.size,j,none⟩=some (.int .u8 (a[j].toNat:Int)):=fun j hj=>by
   rw [Lib.bytesWorld_cell W1 _ a j hj]
   simp [List.getD,hj]
   rfl
 generalize grownCap W1 a.size 0 5=cap at *
 generalize Lib.bytesWorld W1 5 a=W2 at *
 generalize W1.heap.size=bA at *
 go_upto_region 9 with fail
 have HD:Hid (∀i (h:i<a.size),isDg a[i]=true):=hd
 have HEE:Hid (E=-((valN a.data.toList:Nat):Int)):=hE
 clear hd hE c hcv
 go_loopg [2,51] a.size (fun G s2 s51 wx=>∃(i x:Nat),s51=.int .i64 (i:Int)∧s2=.int .i64 (x:Int)∧i≤a.size∧i+G=a.size∧W2=wx∧Hid (x=valN (a.data.toList.take i)∧x<10^i))
 case atStart=>exact⟨0,0,rfl,rfl,by omega,by omega,rfl,rfl,by decide⟩
 case round =>
   obtain⟨i,x,rfl,rfl,hi,hG,rfl,H⟩:=hrel
   by_cases ci:i<a.size
   · have ci':(i:Int)<(a.size:Int):=by omega
     have hc:=cell i ci
     have dg:=HD.out i ci
     unfold isDg at dg
     rw [Bool.and_eq_true,decide_eq_true_eq,decide_eq_true_eq] at dg
     have hx:x<10:=by
       have h1:=H.out.2
       have:i=0∨i=1:=by omega
       rcases this with e | e <;> rw [e] at h1 <;> omega
     obtain⟨y,hy⟩:∃y,y=a[i].toNat-48:=⟨_,rfl⟩
     have f1:IntKind.u8.wrap ((a[i].toNat:Int)-48)=(y:Int):=by rw [IntKind.wrap_u8];omega
     have f2:IntKind.i64.wrap (y:Int)=(y:Int):=by rw [IntKind.wrap_i64];omega
     have f3:IntKind.i64.wrap (10*(x:Int))=((10*x:Nat):Int):=by rw [IntKind.wrap_i64];omega
     have f4:IntKind.i64.wrap (((10*x:Nat):Int)+(y:Int))=((10*x+y:Nat):Int):=by rw [IntKind.wrap_i64];omega
     have H2:Hid (10*x+y=valN (a.data.toList.take (i+1))∧10*x+y<10^(i+1)):=by
       have hl:i<a.data.toList.length:=by simpa using ci
       refine⟨?_, ?_⟩
       · rw [List.take_add_one,List.getElem?_eq_getElem hl,Option.toList_some,valN_snoc,←H.out.1,Nat.mul_comm 10 x,hy]
         rfl
       · have h1:=H.out.2
         rw [Nat.pow_succ]
         omega
     clear dg hy
     generalize 10*x+y=x2 at *
     generalize 10*x=x1 at *
     go_wp2_with fail
     (go_roundg (a.size-i-1)
      case measure=>omega
      case rel=>exact⟨i+1,x2,by go_num,rfl,by omega,by omega,rfl,H2⟩)
   · have ci':¬(i:Int)<(a.size:Int):=by omega
     have e:Hid (-(x:Int)=E):=by
       show _=_
       rw [HEE.out,H.out.1,show i=a.size by omega,List.take_of_length_le (by simp)]
     have hx:x<100:=by
       have h1:=H.out.2
       have:i=0∨i=1∨i=2:=by omega
       rcases this with e | e | e <;> rw [e] at h1 <;> omega
     have f1:IntKind.i64.wrap (-(x:Int))=-(x:Int):=by rw [IntKind.wrap_i64];omega
     clear H HEE HD
     go_wp2_with fail
     refine bodyPost_ret (v:=.tuple #[.int .i64 (-(x:Int)),.string r,.bool q]) (by simp [results,Tryd.results21,go_sem, *]) rfl ⟨?_,hb1⟩
     rw [e.out]
set_option maxHeartbeats 4000000 in
theorem expo_lp (s t v a r:ByteArray) (q:Bool) (E:Int) (he:s.toList.isEmpty=false) (h0:0<s.size) (h1:s[0].toNat=101) (ht:s.extract 1 s.size=t) (te:t.toList.isEmpty=false) (t0:0<t.size) (t1:t[0].toNat=43) (hv:t.extract 1 t.size=v) (hq:a.toList.isEmpty=!q) (ha:a.size≤2) (hd:∀i (h:i<a.size),isDg a[i]=true) (hE:E=((valN a.data.toList:Nat):Int))
   (c:∀W,Calls Tryd.prog 19 #[.string v,.int .i64 2] W fun e w'=>e=.returned (.tuple #[.string a,.string r])∧Below W.heap.size W w') (w:World) :
   Calls Tryd.prog 21 #[.string s] w fun e w'=>e=.returned (.tuple #[.int .i64 E,.string r,.bool q])∧Below w.heap.size w w':=by
 have z:(0:Int)<(s.size:Int):=by omega
 have z1:(1:Int)≤(s.size:Int):=by omega
 have g1:((s[0].toNat:Int) != 101)=false:=by rw [bne_eq_false_iff_eq];omega
 have tz:(0:Int)<(t.size:Int):=by omega
 have tz1:(1:Int)≤(t.size:Int):=by omega
 have g3:((t[0].toNat:Int)==45)=false:=by rw [beq_eq_false_iff_ne];omega
 have g4:((t[0].toNat:Int)==43)=true:=by rw [beq_iff_eq];omega
 go_enter Tryd.func21,Tryd.ntmps21
 go_upto_region 8 with (go_at_call 19;(with_reducible refine (c _).mono ?_);rintro _ W1 ⟨rfl,hb1⟩)
 have hcv:=Lib.run_convert_string_bytes (P:=Tryd.prog) W1 9 51 5 a Tryd.underlying9 Tryd.underlying51 Tryd.underlying5
 have hbb:=Lib.bytesWorld_below W1 5 a
 replace hb1:=later hb1 hbb
 clear hbb
 have cell:∀j (hj:j<a.size),(Lib.bytesWorld W1 5 a).cell? ⟨W1.heap.size,j,none⟩=some (.int .u8 (a[j].toNat:Int)):=fun j hj=>by
   rw [Lib.bytesWorld_cell W1 _ a j hj]
   simp [List.getD,hj]
   rfl
 generalize grownCap W1 a.size 0 5=cap at *
 generalize Lib.bytesWorld W1 5 a=W2 at *
 generalize W1.heap.size=bA at *
 go_upto_region 9 with fail
 have HD:Hid (∀i (h:i<a.size),isDg a[i]=true):=hd
 have HEE:Hid (E=((valN a.data.toList:Nat):Int)):=hE
 clear hd hE c hcv
 go_loopg [2,51] a.size (fun G s2 s51 wx=>∃(i x:Nat),s51=.int .i64 (i:Int)∧s2=.int .i64 (x:Int)∧i≤a.size∧i+G=a.size∧W2=wx∧Hid (x=valN (a.data.toList.take i)∧x<10^i))
 case atStart=>exact⟨0,0,rfl,rfl,by omega,by omega,rfl,rfl,by decide⟩
 case round =>
   obtain⟨i,x,rfl,rfl,hi,hG,rfl,H⟩:=hrel
   by_cases ci:i<a.size
   · have ci':(i:Int)<(a.size:Int):=by omega
     have hc:=cell i ci
     have dg:=HD.out i ci
     unfold isDg at dg
     rw [Bool.and_eq_true,decide_eq_true_eq,decide_eq_true_eq] at dg
     have hx:x<10:=by
       have h1:=H.out.2
       have:i=0∨i=1:=by omega
       rcases this with e | e <;> rw [e] at h1 <;> omega
     obtain⟨y,hy⟩:∃y,y=a[i].toNat-48:=⟨_,rfl⟩
     have f1:IntKind.u8.wrap ((a[i].toNat:Int)-48)=(y:Int):=by rw [IntKind.wrap_u8];omega
     have f2:IntKind.i64.wrap (y:Int)=(y:Int):=by rw [IntKind.wrap_i64];omega
     have f3:IntKind.i64.wrap (10*(x:Int))=((10*x:Nat):Int):=by rw [IntKind.wrap_i64];omega
     have f4:IntKind.i64.wrap (((10*x:Nat):Int)+(y:Int))=((10*x+y:Nat):Int):=by rw [IntKind.wrap_i64];omega
     have H2:Hid (10*x+y=valN (a.data.toList.take (i+1))∧10*x+y<10^(i+1)):=by
       have hl:i<a.data.toList.length:=by simpa using ci
       refine⟨?_, ?_⟩
       · rw [List.take_add_one,List.getElem?_eq_getElem hl,Option.toList_some,valN_snoc,←H.out.1,Nat.mul_comm 10 x,hy]
         rfl
       · have h1:=H.out.2
         rw [Nat.pow_succ]
         omega
     clear dg hy
     generalize 10*x+y=x2 at *
     generalize 10*x=x1 at *
     go_wp2_with fail
     (go_roundg (a.size-i-1)
      case measure=>omega
      case rel=>exact⟨i+1,x2,by go_num,rfl,by omega,by omega,rfl,H2⟩)
   · have ci':¬(i:Int)<(a.size:Int):=by omega
     have e:Hid ((x:Int)=E):=by
       show _=_
       rw [HEE.out,H.out.1,show i=a.size by omega,List.take_of_length_le (by simp)]
     have hx:x<100:=by
       have h1:=H.out.2
       have:i=0∨i=1∨i=2:=by omega
       rcases this with e | e | e <;> rw [e] at h1 <;> omega
     have f1:IntKind.i64.wrap (-(x:Int))=-(x:Int):=by rw [IntKind.wrap_i64];omega
     clear H HEE HD
     go_wp2_with fail
     refine bodyPost_ret (v:=.tuple #[.int .i64 ((x:Int)),.string r,.bool q]) (by simp [results,Tryd.results21,go_sem, *]) rfl ⟨?_,hb1⟩
     rw [e.out]
set_option maxHeartbeats 4000000 in
theorem expo_lo (s t a r:ByteArray) (q:Bool) (E:Int) (he:s.toList.isEmpty=false) (h0:0<s.size) (h1:s[0].toNat=101) (ht:s.extract 1 s.size=t) (te:t.toList.isEmpty=true∨(t.toList.isEmpty=false∧∃t0:0<t.size,¬t[0].toNat=45∧¬t[0].toNat=43)) (hq:a.toList.isEmpty=!q) (ha:a.size≤2) (hd:∀i (h:i<a.size),isDg a[i]=true) (hE:E=((valN a.data.toList:Nat):Int))
   (c:∀W,Calls Tryd.prog 19 #[.string t,.int .i64 2] W fun e w'=>e=.returned (.tuple #[.string a,.string r])∧Below W.heap.size W w') (w:World) :
   Calls Tryd.prog 21 #[.string s] w fun e w'=>e=.returned (.tuple #[.int .i64 E,.string r,.bool q])∧Below w.heap.size w w':=by
 have z:(0:Int)<(s.size:Int):=by omega
 have z1:(1:Int)≤(s.size:Int):=by omega
 have g1:((s[0].toNat:Int) != 101)=false:=by rw [bne_eq_false_iff_eq];omega
 rcases te with te | ⟨te,t0,t1,t2⟩
 · skip
   go_enter Tryd.func21,Tryd.ntmps21
   go_upto_region 8 with (go_at_call 19;(with_reducible refine (c _).mono ?_);rintro _ W1 ⟨rfl,hb1⟩)
   have hcv:=Lib.run_convert_string_bytes (P:=Tryd.prog) W1 9 51 5 a Tryd.underlying9 Tryd.underlying51 Tryd.underlying5
   have hbb:=Lib.bytesWorld_below W1 5 a
   replace hb1:=later hb1 hbb
   clear hbb
   have cell:∀j (hj:j<a.size),(Lib.bytesWorld W1 5 a).cell? ⟨W1.heap.size,j,none⟩=some (.int .u8 (a[j].toNat:Int)):=fun j hj=>by
     rw [Lib.bytesWorld_cell W1 _ a j hj]
     simp [List.getD,hj]
     rfl
   generalize grownCap W1 a.size 0 5=cap at *
   generalize Lib.bytesWorld W1 5 a=W2 at *
   generalize W1.heap.size=bA at *
   go_upto_region 9 with fail
   have HD:Hid (∀i (h:i<a.size),isDg a[i]=true):=hd
   have HEE:Hid (E=((valN a.data.toList:Nat):Int)):=hE
   clear hd hE c hcv
   go_loopg [2,51] a.size (fun G s2 s51 wx=>∃(i x:Nat),s51=.int .i64 (i:Int)∧s2=.int .i64 (x:Int)∧i≤a.size∧i+G=a.size∧W2=wx∧Hid (x=valN (a.data.toList.take i)∧x<10^i))
   case atStart=>exact⟨0,0,rfl,rfl,by omega,by omega,rfl,rfl,by decide⟩
   case round =>
     obtain⟨i,x,rfl,rfl,hi,hG,rfl,H⟩:=hrel
     by_cases ci:i<a.size
     · have ci':(i:Int)<(a.size:Int):=by omega
       have hc:=cell i ci
       have dg:=HD.out i ci
       unfold isDg at dg
       rw [Bool.and_eq_true,decide_eq_true_eq,decide_eq_true_eq] at dg
       have hx:x<10:=by
         have h1:=H.out.2
         have:i=0∨i=1:=by omega
         rcases this with e | e <;> rw [e] at h1 <;> omega
       obtain⟨y,hy⟩:∃y,y=a[i].toNat-48:=⟨_,rfl⟩
       have f1:IntKind.u8.wrap ((a[i].toNat:Int)-48)=(y:Int):=by rw [IntKind.wrap_u8];omega
       have f2:IntKind.i64.wrap (y:Int)=(y:Int):=by rw [IntKind.wrap_i64];omega
       have f3:IntKind.i64.wrap (10*(x:Int))=((10*x:Nat):Int):=by rw [IntKind.wrap_i64];omega
       have f4:IntKind.i64.wrap (((10*x:Nat):Int)+(y:Int))=((10*x+y:Nat):Int):=by rw [IntKind.wrap_i64];omega
       have H2:Hid (10*x+y=valN (a.data.toList.take (i+1))∧10*x+y<10^(i+1)):=by
         have hl:i<a.data.toList.length:=by simpa using ci
         refine⟨?_, ?_⟩
         · rw [List.take_add_one,List.getElem?_eq_getElem hl,Option.toList_some,valN_snoc,←H.out.1,Nat.mul_comm 10 x,hy]
           rfl
         · have h1:=H.out.2
           rw [Nat.pow_succ]
           omega
       clear dg hy
       generalize 10*x+y=x2 at *
       generalize 10*x=x1 at *
       go_wp2_with fail
       (go_roundg (a.size-i-1)
        case measure=>omega
        case rel=>exact⟨i+1,x2,by go_num,rfl,by omega,by omega,rfl,H2⟩)
     · have ci':¬(i:Int)<(a.size:Int):=by omega
       have e:Hid ((x:Int)=E):=by
         show _=_
         rw [HEE.out,H.out.1,show i=a.size by omega,List.take_of_length_le (by simp)]
       have hx:x<100:=by
         have h1:=H.out.2
         have:i=0∨i=1∨i=2:=by omega
         rcases this with e | e | e <;> rw [e] at h1 <;> omega
       have f1:IntKind.i64.wrap (-(x:Int))=-(x:Int):=by rw [IntKind.wrap_i64];omega
       clear H HEE HD
       go_wp2_with fail
       refine bodyPost_ret (v:=.tuple #[.int .i64 ((x:Int)),.string r,.bool q]) (by simp [results,Tryd.results21,go_sem, *]) rfl ⟨?_,hb1⟩
       rw [e.out]
 · skip
   have tz:(0:Int)<(t.size:Int):=by omega
   have g3:((t[0].toNat:Int)==45)=false:=by rw [beq_eq_false_iff_ne];omega
   have g4:((t[0].toNat:Int)==43)=false:=by rw [beq_eq_false_iff_ne];omega
   go_enter Tryd.func21,Tryd.ntmps21
   go_upto_region 8 with (go_at_call 19;(with_reducible refine (c _).mono ?_);rintro _ W1 ⟨rfl,hb1⟩)
   have hcv:=Lib.run_convert_string_bytes (P:=Tryd.prog) W1 9 51 5 a Tryd.underlying9 Tryd.underlying51 Tryd.underlying5
   have hbb:=Lib.bytesWorld_below W1 5 a
   replace hb1:=later hb1 hbb
   clear hbb
   have cell:∀j (hj:j<a.size),(Lib.bytesWorld W1 5 a).cell? ⟨W1.heap.size,j,none⟩=some (.int .u8 (a[j].toNat:Int)):=fun j hj=>by
     rw [Lib.bytesWorld_cell W1 _ a j hj]
     simp [List.getD,hj]
     rfl
   generalize grownCap W1 a.size 0 5=cap at *
   generalize Lib.bytesWorld W1 5 a=W2 at *
   generalize W1.heap.size=bA at *
   go_upto_region 9 with fail
   have HD:Hid (∀i (h:i<a.size),isDg a[i]=true):=hd
   have HEE:Hid (E=((valN a.data.toList:Nat):Int)):=hE
   clear hd hE c hcv
   go_loopg [2,51] a.size (fun G s2 s51 wx=>∃(i x:Nat),s51=.int .i64 (i:Int)∧s2=.int .i64 (x:Int)∧i≤a.size∧i+G=a.size∧W2=wx∧Hid (x=valN (a.data.toList.take i)∧x<10^i))
   case atStart=>exact⟨0,0,rfl,rfl,by omega,by omega,rfl,rfl,by decide⟩
   case round =>
     obtain⟨i,x,rfl,rfl,hi,hG,rfl,H⟩:=hrel
     by_cases ci:i<a.size
     · have ci':(i:Int)<(a.size:Int):=by omega
       have hc:=cell i ci
       have dg:=HD.out i ci
       unfold isDg at dg
       rw [Bool.and_eq_true,decide_eq_true_eq,decide_eq_true_eq] at dg
       have hx:x<10:=by
         have h1:=H.out.2
         have:i=0∨i=1:=by omega
         rcases this with e | e <;> rw [e] at h1 <;> omega
       obtain⟨y,hy⟩:∃y,y=a[i].toNat-48:=⟨_,rfl⟩
       have f1:IntKind.u8.wrap ((a[i].toNat:Int)-48)=(y:Int):=by rw [IntKind.wrap_u8];omega
       have f2:IntKind.i64.wrap (y:Int)=(y:Int):=by rw [IntKind.wrap_i64];omega
       have f3:IntKind.i64.wrap (10*(x:Int))=((10*x:Nat):Int):=by rw [IntKind.wrap_i64];omega
       have f4:IntKind.i64.wrap (((10*x:Nat):Int)+(y:Int))=((10*x+y:Nat):Int):=by rw [IntKind.wrap_i64];omega
       have H2:Hid (10*x+y=valN (a.data.toList.take (i+1))∧10*x+y<10^(i+1)):=by
         have hl:i<a.data.toList.length:=by simpa using ci
         refine⟨?_, ?_⟩
         · rw [List.take_add_one,List.getElem?_eq_getElem hl,Option.toList_some,valN_snoc,←H.out.1,Nat.mul_comm 10 x,hy]
           rfl
         · have h1:=H.out.2
           rw [Nat.pow_succ]
           omega
       clear dg hy
       generalize 10*x+y=x2 at *
       generalize 10*x=x1 at *
       go_wp2_with fail
       (go_roundg (a.size-i-1)
        case measure=>omega
        case rel=>exact⟨i+1,x2,by go_num,rfl,by omega,by omega,rfl,H2⟩)
     · have ci':¬(i:Int)<(a.size:Int):=by omega
       have e:Hid ((x:Int)=E):=by
         show _=_
         rw [HEE.out,H.out.1,show i=a.size by omega,List.take_of_length_le (by simp)]
       have hx:x<100:=by
         have h1:=H.out.2
         have:i=0∨i=1∨i=2:=by omega
         rcases this with e | e | e <;> rw [e] at h1 <;> omega
       have f1:IntKind.i64.wrap (-(x:Int))=-(x:Int):=by rw [IntKind.wrap_i64];omega
       clear H HEE HD
       go_wp2_with fail
       refine bodyPost_ret (v:=.tuple #[.int .i64 ((x:Int)),.string r,.bool q]) (by simp [results,Tryd.results21,go_sem, *]) rfl ⟨?_,hb1⟩
       rw [e.out]
set_option maxHeartbeats 4000000 in
theorem expo_um (s t v a r:ByteArray) (q:Bool) (E:Int) (he:s.toList.isEmpty=false) (h0:0<s.size) (h1:s[0].toNat=69) (ht:s.extract 1 s.size=t) (te:t.toList.isEmpty=false) (t0:0<t.size) (t1:t[0].toNat=45) (hv:t.extract 1 t.size=v) (hq:a.toList.isEmpty=!q) (ha:a.size≤2) (hd:∀i (h:i<a.size),isDg a[i]=true) (hE:E=-((valN a.data.toList:Nat):Int))
   (c:∀W,Calls Tryd.prog 19 #[.string v,.int .i64 2] W fun e w'=>e=.returned (.tuple #[.string a,.string r])∧Below W.heap.size W w') (w:World) :
   Calls Tryd.prog 21 #[.string s] w fun e w'=>e=.returned (.tuple #[.int .i64 E,.string r,.bool q])∧Below w.heap.size w w':=by
 have z:(0:Int)<(s.size:Int):=by omega
 have z1:(1:Int)≤(s.size:Int):=by omega
 have g1:((s[0].toNat:Int) != 101)=true:=by rw [bne_iff_ne];omega
 have g2:((s[0].toNat:Int) != 69)=false:=by rw [bne_eq_false_iff_eq];omega
 have tz:(0:Int)<(t.size:Int):=by omega
 have tz1:(1:Int)≤(t.size:Int):=by omega
 have g3:((t[0].toNat:Int)==45)=true:=by rw [beq_iff_eq];omega
 go_enter Tryd.func21,Tryd.ntmps21
 go_upto_region 8 with (go_at_call 19;(with_reducible refine (c _).mono ?_);rintro _ W1 ⟨rfl,hb1⟩)
 have hcv:=Lib.run_convert_string_bytes (P:=Tryd.prog) W1 9 51 5 a Tryd.underlying9 Tryd.underlying51 Tryd.underlying5
 have hbb:=Lib.bytesWorld_below W1 5 a
 replace hb1:=later hb1 hbb
 clear hbb
 have cell:∀j (hj:j<a.size),(Lib.bytesWorld W1 5 a).cell? ⟨W1.heap.size,j,none⟩=some (.int .u8 (a[j].toNat:Int)):=fun j hj=>by
   rw [Lib.bytesWorld_cell W1 _ a j hj]
   simp [List.getD,hj]
   rfl
 generalize grownCap W1 a.size 0 5=cap at *
 generalize Lib.bytesWorld W1 5 a=W2 at *
 generalize W1.heap.size=bA at *
 go_upto_region 9 with fail
 have HD:Hid (∀i (h:i<a.size),isDg a[i]=true):=hd
 have HEE:Hid (E=-((valN a.data.toList:Nat):Int)):=hE
 clear hd hE c hcv
 go_loopg [2,51] a.size (fun G s2 s51 wx=>∃(i x:Nat),s51=.int .i64 (i:Int)∧s2=.int .i64 (x:Int)∧i≤a.size∧i+G=a.size∧W2=wx∧Hid (x=valN (a.data.toList.take i)∧x<10^i))
 case atStart=>exact⟨0,0,rfl,rfl,by omega,by omega,rfl,rfl,by decide⟩
 case round =>
   obtain⟨i,x,rfl,rfl,hi,hG,rfl,H⟩:=hrel
   by_cases ci:i<a.size
   · have ci':(i:Int)<(a.size:Int):=by omega
     have hc:=cell i ci
     have dg:=HD.out i ci
     unfold isDg at dg
     rw [Bool.and_eq_true,decide_eq_true_eq,decide_eq_true_eq] at dg
     have hx:x<10:=by
       have h1:=H.out.2
       have:i=0∨i=1:=by omega
       rcases this with e | e <;> rw [e] at h1 <;> omega
     obtain⟨y,hy⟩:∃y,y=a[i].toNat-48:=⟨_,rfl⟩
     have f1:IntKind.u8.wrap ((a[i].toNat:Int)-48)=(y:Int):=by rw [IntKind.wrap_u8];omega
     have f2:IntKind.i64.wrap (y:Int)=(y:Int):=by rw [IntKind.wrap_i64];omega
     have f3:IntKind.i64.wrap (10*(x:Int))=((10*x:Nat):Int):=by rw [IntKind.wrap_i64];omega
     have f4:IntKind.i64.wrap (((10*x:Nat):Int)+(y:Int))=((10*x+y:Nat):Int):=by rw [IntKind.wrap_i64];omega
     have H2:Hid (10*x+y=valN (a.data.toList.take (i+1))∧10*x+y<10^(i+1)):=by
       have hl:i<a.data.toList.length:=by simpa using ci
       refine⟨?_, ?_⟩
       · rw [List.take_add_one,List.getElem?_eq_getElem hl,Option.toList_some,valN_snoc,←H.out.1,Nat.mul_comm 10 x,hy]
         rfl
       · have h1:=H.out.2
         rw [Nat.pow_succ]
         omega
     clear dg hy
     generalize 10*x+y=x2 at *
     generalize 10*x=x1 at *
     go_wp2_with fail
     (go_roundg (a.size-i-1)
      case measure=>omega
      case rel=>exact⟨i+1,x2,by go_num,rfl,by omega,by omega,rfl,H2⟩)
   · have ci':¬(i:Int)<(a.size:Int):=by omega
     have e:Hid (-(x:Int)=E):=by
       show _=_
       rw [HEE.out,H.out.1,show i=a.size by omega,List.take_of_length_le (by simp)]
     have hx:x<100:=by
       have h1:=H.out.2
       have:i=0∨i=1∨i=2:=by omega
       rcases this with e | e | e <;> rw [e] at h1 <;> omega
     have f1:IntKind.i64.wrap (-(x:Int))=-(x:Int):=by rw [IntKind.wrap_i64];omega
     clear H HEE HD
     go_wp2_with fail
     refine bodyPost_ret (v:=.tuple #[.int .i64 (-(x:Int)),.string r,.bool q]) (by simp [results,Tryd.results21,go_sem, *]) rfl ⟨?_,hb1⟩
     rw [e.out]
set_option maxHeartbeats 4000000 in
theorem expo_up (s t v a r:ByteArray) (q:Bool) (E:Int) (he:s.toList.isEmpty=false) (h0:0<s.size) (h1:s[0].toNat=69) (ht:s.extract 1 s.size=t) (te:t.toList.isEmpty=false) (t0:0<t.size) (t1:t[0].toNat=43) (hv:t.extract 1 t.size=v) (hq:a.toList.isEmpty=!q) (ha:a.size≤2) (hd:∀i (h:i<a.size),isDg a[i]=true) (hE:E=((valN a.data.toList:Nat):Int))
   (c:∀W,Calls Tryd.prog 19 #[.string v,.int .i64 2] W fun e w'=>e=.returned (.tuple #[.string a,.string r])∧Below W.heap.size W w') (w:World) :
   Calls Tryd.prog 21 #[.string s] w fun e w'=>e=.returned (.tuple #[.int .i64 E,.string r,.bool q])∧Below w.heap.size w w':=by
 have z:(0:Int)<(s.size:Int):=by omega
 have z1:(1:Int)≤(s.size:Int):=by omega
 have g1:((s[0].toNat:Int) != 101)=true:=by rw [bne_iff_ne];omega
 have g2:((s[0].toNat:Int) != 69)=false:=by rw [bne_eq_false_iff_eq];omega
 have tz:(0:Int)<(t.size:Int):=by omega
 have tz1:(1:Int)≤(t.size:Int):=by omega
 have g3:((t[0].toNat:Int)==45)=false:=by rw [beq_eq_false_iff_ne];omega
 have g4:((t[0].toNat:Int)==43)=true:=by rw [beq_iff_eq];omega
 go_enter Tryd.func21,Tryd.ntmps21
 go_upto_region 8 with (go_at_call 19;(with_reducible refine (c _).mono ?_);rintro _ W1 ⟨rfl,hb1⟩)
 have hcv:=Lib.run_convert_string_bytes (P:=Tryd.prog) W1 9 51 5 a Tryd.underlying9 Tryd.underlying51 Tryd.underlying5
 have hbb:=Lib.bytesWorld_below W1 5 a
 replace hb1:=later hb1 hbb
 clear hbb
 have cell:∀j (hj:j<a.size),(Lib.bytesWorld W1 5 a).cell? ⟨W1.heap.size,j,none⟩=some (.int .u8 (a[j].toNat:Int)):=fun j hj=>by
   rw [Lib.bytesWorld_cell W1 _ a j hj]
   simp [List.getD,hj]
   rfl
 generalize grownCap W1 a.size 0 5=cap at *
 generalize Lib.bytesWorld W1 5 a=W2 at *
 generalize W1.heap.size=bA at *
 go_upto_region 9 with fail
 have HD:Hid (∀i (h:i<a.size),isDg a[i]=true):=hd
 have HEE:Hid (E=((valN a.data.toList:Nat):Int)):=hE
 clear hd hE c hcv
 go_loopg [2,51] a.size (fun G s2 s51 wx=>∃(i x:Nat),s51=.int .i64 (i:Int)∧s2=.int .i64 (x:Int)∧i≤a.size∧i+G=a.size∧W2=wx∧Hid (x=valN (a.data.toList.take i)∧x<10^i))
 case atStart=>exact⟨0,0,rfl,rfl,by omega,by omega,rfl,rfl,by decide⟩
 case round =>
   obtain⟨i,x,rfl,rfl,hi,hG,rfl,H⟩:=hrel
   by_cases ci:i<a.size
   · have ci':(i:Int)<(a.size:Int):=by omega
     have hc:=cell i ci
     have dg:=HD.out i ci
     unfold isDg at dg
     rw [Bool.and_eq_true,decide_eq_true_eq,decide_eq_true_eq] at dg
     have hx:x<10:=by
       have h1:=H.out.2
       have:i=0∨i=1:=by omega
       rcases this with e | e <;> rw [e] at h1 <;> omega
     obtain⟨y,hy⟩:∃y,y=a[i].toNat-48:=⟨_,rfl⟩
     have f1:IntKind.u8.wrap ((a[i].toNat:Int)-48)=(y:Int):=by rw [IntKind.wrap_u8];omega
     have f2:IntKind.i64.wrap (y:Int)=(y:Int):=by rw [IntKind.wrap_i64];omega
     have f3:IntKind.i64.wrap (10*(x:Int))=((10*x:Nat):Int):=by rw [IntKind.wrap_i64];omega
     have f4:IntKind.i64.wrap (((10*x:Nat):Int)+(y:Int))=((10*x+y:Nat):Int):=by rw [IntKind.wrap_i64];omega
     have H2:Hid (10*x+y=valN (a.data.toList.take (i+1))∧10*x+y<10^(i+1)):=by
       have hl:i<a.data.toList.length:=by simpa using ci
       refine⟨?_, ?_⟩
       · rw [List.take_add_one,List.getElem?_eq_getElem hl,Option.toList_some,valN_snoc,←H.out.1,Nat.mul_comm 10 x,hy]
         rfl
       · have h1:=H.out.2
         rw [Nat.pow_succ]
         omega
     clear dg hy
     generalize 10*x+y=x2 at *
     generalize 10*x=x1 at *
     go_wp2_with fail
     (go_roundg (a.size-i-1)
      case measure=>omega
      case rel=>exact⟨i+1,x2,by go_num,rfl,by omega,by omega,rfl,H2⟩)
   · have ci':¬(i:Int)<(a.size:Int):=by omega
     have e:Hid ((x:Int)=E):=by
       show _=_
       rw [HEE.out,H.out.1,show i=a.size by omega,List.take_of_length_le (by simp)]
     have hx:x<100:=by
       have h1:=H.out.2
       have:i=0∨i=1∨i=2:=by omega
       rcases this with e | e | e <;> rw [e] at h1 <;> omega
     have f1:IntKind.i64.wrap (-(x:Int))=-(x:Int):=by rw [IntKind.wrap_i64];omega
     clear H HEE HD
     go_wp2_with fail
     refine bodyPost_ret (v:=.tuple #[.int .i64 ((x:Int)),.string r,.bool q]) (by simp [results,Tryd.results21,go_sem, *]) rfl ⟨?_,hb1⟩
     rw [e.out]
set_option maxHeartbeats 4000000 in
theorem expo_uo (s t a r:ByteArray) (q:Bool) (E:Int) (he:s.toList.isEmpty=false) (h0:0<s.size) (h1:s[0].toNat=69) (ht:s.extract 1 s.size=t) (te:t.toList.isEmpty=true∨(t.toList.isEmpty=false∧∃t0:0<t.size,¬t[0].toNat=45∧¬t[0].toNat=43)) (hq:a.toList.isEmpty=!q) (ha:a.size≤2) (hd:∀i (h:i<a.size),isDg a[i]=true) (hE:E=((valN a.data.toList:Nat):Int))
   (c:∀W,Calls Tryd.prog 19 #[.string t,.int .i64 2] W fun e w'=>e=.returned (.tuple #[.string a,.string r])∧Below W.heap.size W w') (w:World) :
   Calls Tryd.prog 21 #[.string s] w fun e w'=>e=.returned (.tuple #[.int .i64 E,.string r,.bool q])∧Below w.heap.size w w':=by
 have z:(0:Int)<(s.size:Int):=by omega
 have z1:(1:Int)≤(s.size:Int):=by omega
 have g1:((s[0].toNat:Int) != 101)=true:=by rw [bne_iff_ne];omega
 have g2:((s[0].toNat:Int) != 69)=false:=by rw [bne_eq_false_iff_eq];omega
 rcases te with te | ⟨te,t0,t1,t2⟩
 · skip
   go_enter Tryd.func21,Tryd.ntmps21
   go_upto_region 8 with (go_at_call 19;(with_reducible refine (c _).mono ?_);rintro _ W1 ⟨rfl,hb1⟩)
   have hcv:=Lib.run_convert_string_bytes (P:=Tryd.prog) W1 9 51 5 a Tryd.underlying9 Tryd.underlying51 Tryd.underlying5
   have hbb:=Lib.bytesWorld_below W1 5 a
   replace hb1:=later hb1 hbb
   clear hbb
   have cell:∀j (hj:j<a.size),(Lib.bytesWorld W1 5 a).cell? ⟨W1.heap.size,j,none⟩=some (.int .u8 (a[j].toNat:Int)):=fun j hj=>by
     rw [Lib.bytesWorld_cell W1 _ a j hj]
     simp [List.getD,hj]
     rfl
   generalize grownCap W1 a.size 0 5=cap at *
   generalize Lib.bytesWorld W1 5 a=W2 at *
   generalize W1.heap.size=bA at *
   go_upto_region 9 with fail
   have HD:Hid (∀i (h:i<a.size),isDg a[i]=true):=hd
   have HEE:Hid (E=((valN a.data.toList:Nat):Int)):=hE
   clear hd hE c hcv
   go_loopg [2,51] a.size (fun G s2 s51 wx=>∃(i x:Nat),s51=.int .i64 (i:Int)∧s2=.int .i64 (x:Int)∧i≤a.size∧i+G=a.size∧W2=wx∧Hid (x=valN (a.data.toList.take i)∧x<10^i))
   case atStart=>exact⟨0,0,rfl,rfl,by omega,by omega,rfl,rfl,by decide⟩
   case round =>
     obtain⟨i,x,rfl,rfl,hi,hG,rfl,H⟩:=hrel
     by_cases ci:i<a.size
     · have ci':(i:Int)<(a.size:Int):=by omega
       have hc:=cell i ci
       have dg:=HD.out i ci
       unfold isDg at dg
       rw [Bool.and_eq_true,decide_eq_true_eq,decide_eq_true_eq] at dg
       have hx:x<10:=by
         have h1:=H.out.2
         have:i=0∨i=1:=by omega
         rcases this with e | e <;> rw [e] at h1 <;> omega
       obtain⟨y,hy⟩:∃y,y=a[i].toNat-48:=⟨_,rfl⟩
       have f1:IntKind.u8.wrap ((a[i].toNat:Int)-48)=(y:Int):=by rw [IntKind.wrap_u8];omega
       have f2:IntKind.i64.wrap (y:Int)=(y:Int):=by rw [IntKind.wrap_i64];omega
       have f3:IntKind.i64.wrap (10*(x:Int))=((10*x:Nat):Int):=by rw [IntKind.wrap_i64];omega
       have f4:IntKind.i64.wrap (((10*x:Nat):Int)+(y:Int))=((10*x+y:Nat):Int):=by rw [IntKind.wrap_i64];omega
       have H2:Hid (10*x+y=valN (a.data.toList.take (i+1))∧10*x+y<10^(i+1)):=by
         have hl:i<a.data.toList.length:=by simpa using ci
         refine⟨?_, ?_⟩
         · rw [List.take_add_one,List.getElem?_eq_getElem hl,Option.toList_some,valN_snoc,←H.out.1,Nat.mul_comm 10 x,hy]
           rfl
         · have h1:=H.out.2
           rw [Nat.pow_succ]
           omega
       clear dg hy
       generalize 10*x+y=x2 at *
       generalize 10*x=x1 at *
       go_wp2_with fail
       (go_roundg (a.size-i-1)
        case measure=>omega
        case rel=>exact⟨i+1,x2,by go_num,rfl,by omega,by omega,rfl,H2⟩)
     · have ci':¬(i:Int)<(a.size:Int):=by omega
       have e:Hid ((x:Int)=E):=by
         show _=_
         rw [HEE.out,H.out.1,show i=a.size by omega,List.take_of_length_le (by simp)]
       have hx:x<100:=by
         have h1:=H.out.2
         have:i=0∨i=1∨i=2:=by omega
         rcases this with e | e | e <;> rw [e] at h1 <;> omega
       have f1:IntKind.i64.wrap (-(x:Int))=-(x:Int):=by rw [IntKind.wrap_i64];omega
       clear H HEE HD
       go_wp2_with fail
       refine bodyPost_ret (v:=.tuple #[.int .i64 ((x:Int)),.string r,.bool q]) (by simp [results,Tryd.results21,go_sem, *]) rfl ⟨?_,hb1⟩
       rw [e.out]
 · skip
   have tz:(0:Int)<(t.size:Int):=by omega
   have g3:((t[0].toNat:Int)==45)=false:=by rw [beq_eq_false_iff_ne];omega
   have g4:((t[0].toNat:Int)==43)=false:=by rw [beq_eq_false_iff_ne];omega
   go_enter Tryd.func21,Tryd.ntmps21
   go_upto_region 8 with (go_at_call 19;(with_reducible refine (c _).mono ?_);rintro _ W1 ⟨rfl,hb1⟩)
   have hcv:=Lib.run_convert_string_bytes (P:=Tryd.prog) W1 9 51 5 a Tryd.underlying9 Tryd.underlying51 Tryd.underlying5
   have hbb:=Lib.bytesWorld_below W1 5 a
   replace hb1:=later hb1 hbb
   clear hbb
   have cell:∀j (hj:j<a.size),(Lib.bytesWorld W1 5 a).cell? ⟨W1.heap.size,j,none⟩=some (.int .u8 (a[j].toNat:Int)):=fun j hj=>by
     rw [Lib.bytesWorld_cell W1 _ a j hj]
     simp [List.getD,hj]
     rfl
   generalize grownCap W1 a.size 0 5=cap at *
   generalize Lib.bytesWorld W1 5 a=W2 at *
   generalize W1.heap.size=bA at *
   go_upto_region 9 with fail
   have HD:Hid (∀i (h:i<a.size),isDg a[i]=true):=hd
   have HEE:Hid (E=((valN a.data.toList:Nat):Int)):=hE
   clear hd hE c hcv
   go_loopg [2,51] a.size (fun G s2 s51 wx=>∃(i x:Nat),s51=.int .i64 (i:Int)∧s2=.int .i64 (x:Int)∧i≤a.size∧i+G=a.size∧W2=wx∧Hid (x=valN (a.data.toList.take i)∧x<10^i))
   case atStart=>exact⟨0,0,rfl,rfl,by omega,by omega,rfl,rfl,by decide⟩
   case round =>
     obtain⟨i,x,rfl,rfl,hi,hG,rfl,H⟩:=hrel
     by_cases ci:i<a.size
     · have ci':(i:Int)<(a.size:Int):=by omega
       have hc:=cell i ci
       have dg:=HD.out i ci
       unfold isDg at dg
       rw [Bool.and_eq_true,decide_eq_true_eq,decide_eq_true_eq] at dg
       have hx:x<10:=by
         have h1:=H.out.2
         have:i=0∨i=1:=by omega
         rcases this with e | e <;> rw [e] at h1 <;> omega
       obtain⟨y,hy⟩:∃y,y=a[i].toNat-48:=⟨_,rfl⟩
       have f1:IntKind.u8.wrap ((a[i].toNat:Int)-48)=(y:Int):=by rw [IntKind.wrap_u8];omega
       have f2:IntKind.i64.wrap (y:Int)=(y:Int):=by rw [IntKind.wrap_i64];omega
       have f3:IntKind.i64.wrap (10*(x:Int))=((10*x:Nat):Int):=by rw [IntKind.wrap_i64];omega
       have f4:IntKind.i64.wrap (((10*x:Nat):Int)+(y:Int))=((10*x+y:Nat):Int):=by rw [IntKind.wrap_i64];omega
       have H2:Hid (10*x+y=valN (a.data.toList.take (i+1))∧10*x+y<10^(i+1)):=by
         have hl:i<a.data.toList.length:=by simpa using ci
         refine⟨?_, ?_⟩
         · rw [List.take_add_one,List.getElem?_eq_getElem hl,Option.toList_some,valN_snoc,←H.out.1,Nat.mul_comm 10 x,hy]
           rfl
         · have h1:=H.out.2
           rw [Nat.pow_succ]
           omega
       clear dg hy
       generalize 10*x+y=x2 at *
       generalize 10*x=x1 at *
       go_wp2_with fail
       (go_roundg (a.size-i-1)
        case measure=>omega
        case rel=>exact⟨i+1,x2,by go_num,rfl,by omega,by omega,rfl,H2⟩)
     · have ci':¬(i:Int)<(a.size:Int):=by omega
       have e:Hid ((x:Int)=E):=by
         show _=_
         rw [HEE.out,H.out.1,show i=a.size by omega,List.take_of_length_le (by simp)]
       have hx:x<100:=by
         have h1:=H.out.2
         have:i=0∨i=1∨i=2:=by omega
         rcases this with e | e | e <;> rw [e] at h1 <;> omega
       have f1:IntKind.i64.wrap (-(x:Int))=-(x:Int):=by rw [IntKind.wrap_i64];omega
       clear H HEE HD
       go_wp2_with fail
       refine bodyPost_ret (v:=.tuple #[.int .i64 ((x:Int)),.string r,.bool q]) (by simp [results,Tryd.results21,go_sem, *]) rfl ⟨?_,hb1⟩
       rw [e.out]
end Go.Proofs.YtgocelaghggpmaaDoor
