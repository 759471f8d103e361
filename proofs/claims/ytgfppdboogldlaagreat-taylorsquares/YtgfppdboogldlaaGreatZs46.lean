/- The reference's question whether an interval holds a quotient: the walk. -/
import Derived.Test.YtgfppdboogldlaaGreatZs45
import Derived.Test.YtgfppdboogldlaaGreatZs43
namespace Go.Proofs.YtgfppdboogldlaaGreat
open Go.ChangeShapes Go.WideShapes Go.ChangeAt Go.RowKit
theorem HqS.x0 {w wx:World} {lo hi:Nat} {a b:Nv} {m K:Nat} {c d:Int} (h:HqS w wx lo hi a b m K c d):wx.cell? ⟨w.heap.size,0,none⟩=some (.float .f64 lo):=h.x.1
theorem HqS.x1 {w wx:World} {lo hi:Nat} {a b:Nv} {m K:Nat} {c d:Int} (h:HqS w wx lo hi a b m K c d):wx.cell? ⟨w.heap.size,1,none⟩=some (.float .f64 hi):=h.x.2.1
theorem HqS.a0 {w wx:World} {lo hi:Nat} {ag bg:Bool} {aa ba:Option Addr} {al ac bl bc:Nat} {ae be:Int} {m K:Nat} {c d:Int} (h:HqS w wx lo hi ⟨ag,aa,al,ac,ae⟩ ⟨bg,ba,bl,bc,be⟩ m K c d):wx.cell? ⟨w.heap.size+1,0,none⟩=some (.bool ag):=h.ab.1
theorem HqS.a1 {w wx:World} {lo hi:Nat} {ag bg:Bool} {aa ba:Option Addr} {al ac bl bc:Nat} {ae be:Int} {m K:Nat} {c d:Int} (h:HqS w wx lo hi ⟨ag,aa,al,ac,ae⟩ ⟨bg,ba,bl,bc,be⟩ m K c d):wx.cell? ⟨w.heap.size+1,1,none⟩=some (.slice aa al ac):=h.ab.2.1
theorem HqS.a2 {w wx:World} {lo hi:Nat} {ag bg:Bool} {aa ba:Option Addr} {al ac bl bc:Nat} {ae be:Int} {m K:Nat} {c d:Int} (h:HqS w wx lo hi ⟨ag,aa,al,ac,ae⟩ ⟨bg,ba,bl,bc,be⟩ m K c d):wx.cell? ⟨w.heap.size+1,2,none⟩=some (.int .i64 ae):=h.ab.2.2.1
theorem HqS.b0 {w wx:World} {lo hi:Nat} {ag bg:Bool} {aa ba:Option Addr} {al ac bl bc:Nat} {ae be:Int} {m K:Nat} {c d:Int} (h:HqS w wx lo hi ⟨ag,aa,al,ac,ae⟩ ⟨bg,ba,bl,bc,be⟩ m K c d):wx.cell? ⟨w.heap.size+1+1,0,none⟩=some (.bool bg):=h.bx.1
theorem HqS.b1 {w wx:World} {lo hi:Nat} {ag bg:Bool} {aa ba:Option Addr} {al ac bl bc:Nat} {ae be:Int} {m K:Nat} {c d:Int} (h:HqS w wx lo hi ⟨ag,aa,al,ac,ae⟩ ⟨bg,ba,bl,bc,be⟩ m K c d):wx.cell? ⟨w.heap.size+1+1,1,none⟩=some (.slice ba bl bc):=h.bx.2.1
theorem HqS.b2 {w wx:World} {lo hi:Nat} {ag bg:Bool} {aa ba:Option Addr} {al ac bl bc:Nat} {ae be:Int} {m K:Nat} {c d:Int} (h:HqS w wx lo hi ⟨ag,aa,al,ac,ae⟩ ⟨bg,ba,bl,bc,be⟩ m K c d):wx.cell? ⟨w.heap.size+1+1,2,none⟩=some (.int .i64 be):=h.bx.2.2.1
theorem HqS.na' {w wx:World} {lo hi:Nat} {ag bg:Bool} {aa ba:Option Addr} {al ac bl bc:Nat} {ae be:Int} {m K:Nat} {c d:Int} (h:HqS w wx lo hi ⟨ag,aa,al,ac,ae⟩ ⟨bg,ba,bl,bc,be⟩ m K c d):NumZ (-1074*(m:Int)) (971*(m:Int)) K wx (.agg #[.bool ag,.slice aa al ac,.int .i64 ae]) c:=h.na
theorem HqS.nb' {w wx:World} {lo hi:Nat} {ag bg:Bool} {aa ba:Option Addr} {al ac bl bc:Nat} {ae be:Int} {m K:Nat} {c d:Int} (h:HqS w wx lo hi ⟨ag,aa,al,ac,ae⟩ ⟨bg,ba,bl,bc,be⟩ m K c d):NumZ (-1074*(m:Int)-1074) (971*(m:Int)+971) K wx (.agg #[.bool bg,.slice ba bl bc,.int .i64 be]) d:=h.nb
end Go.Proofs.YtgfppdboogldlaaGreat
