/- What math/bits' Div64 answers, of a divisor whose first bit is set; the walk of quotient. The walk of root: the exact root of an amount, with a mark for what is lost. The walks of Add, Sub, Mul, Div and Sqrt where all that comes in is finite: what is rounded is the exact result's Parts. -/
import Derived.Test.YtdnpoacjamkhkaaWg
import Derived.Test.YtdnpoacjamkhkaaWh
import Derived.Test.YtdnpoacjamkhkaaWj
namespace Go.Proofs.Ytdnpoacjamkhkaa
open Go.ChangeShapes Go.WideShapes Go.ChangeAt Go.RowKit

theorem wrap_sub (x c p r : Int) (h : x + c - p = r) (h0 : 0 ≤ r) (h1 : r < 18446744073709551616) : IntKind.u64.wrap (IntKind.u64.wrap (IntKind.u64.wrap x + c) - IntKind.u64.wrap p) = r := by
  rw [IntKind.wrap_u64, IntKind.wrap_u64, IntKind.wrap_u64, IntKind.wrap_u64]; omega

theorem wrap_sub1 (x p r : Int) (h : x - p = r) (h0 : 0 ≤ r) (h1 : r < 18446744073709551616) : IntKind.u64.wrap (x - IntKind.u64.wrap p) = r := by
  rw [IntKind.wrap_u64, IntKind.wrap_u64]; omega

/-- What holds ahead of each round of one of Div64's two loops. -/
def DivP (u v y yn1 : Nat) (a b : Nat) : Prop := b + a * yn1 = u ∧ (u * 4294967296 + v) / y ≤ a ∧ a ≤ 4294967297 ∧ b < 4294967296

theorem divP_start {u v y yn1 yn0 : Nat} (hy : y = yn1 * 4294967296 + yn0) (h1 : 2147483648 ≤ yn1) (h2 : yn1 < 4294967296) (h0 : yn0 < 4294967296) (hu : u < y) (hv : v < 4294967296) : DivP u v y yn1 (u / yn1) (u % yn1) := by
  refine ⟨?_, knuth_start hy h1 hv, knuth_top hy h1 h0 hu, ?_⟩
  · have := Nat.div_add_mod u yn1
    rw [Nat.mul_comm] at this; omega
  · have := Nat.mod_lt u (show 0 < yn1 by omega)
    omega

theorem divP_A {u v y yn1 yn0 a b : Nat} (hy : y = yn1 * 4294967296 + yn0) (h1 : 2147483648 ≤ yn1) (h0 : yn0 < 4294967296) (h : DivP u v y yn1 a b) (ha : a < 4294967296) :
    ∃ A : Nat, IntKind.u64.wrap ((a : Int) * (yn0 : Int)) = (A : Int) ∧ ((u * 4294967296 + v) / y < a ↔ 4294967296 * b + v < A) := by
  refine ⟨a * yn0, ?_, knuth_step hy h1 h.1⟩
  have hlt : a * yn0 < 4294967296 * 4294967296 := Nat.mul_lt_mul'' ha h0
  rw [← Int.natCast_mul, IntKind.wrap_u64]
  omega

theorem divP_next {u v y yn1 a b : Nat} (h : DivP u v y yn1 a b) (ht : (u * 4294967296 + v) / y < a) (hb : b + yn1 < 4294967296) : DivP u v y yn1 (a - 1) (b + yn1) := by
  obtain ⟨h1, h2, h3, h4⟩ := h
  unfold DivP
  generalize (u * 4294967296 + v) / y = q at *
  obtain ⟨c, rfl⟩ : ∃ c, a = c + 1 := ⟨a - 1, by omega⟩
  rw [Nat.add_mul] at h1
  exact ⟨by rw [Nat.add_sub_cancel]; omega, by omega, by omega, hb⟩

theorem divP_end {u v y yn1 yn0 a b : Nat} (hy : y = yn1 * 4294967296 + yn0) (hy1 : 2147483648 ≤ yn1) (h0 : yn0 < 4294967296) (h : DivP u v y yn1 a b) (ht : (u * 4294967296 + v) / y < a) (hb : 4294967296 ≤ b + yn1) : a - 1 = (u * 4294967296 + v) / y := by
  obtain ⟨h1, h2, h3, h4⟩ := h
  obtain ⟨c, rfl⟩ : ∃ c, a = c + 1 := ⟨a - 1, by generalize (u * 4294967296 + v) / y = q at *; omega⟩
  rw [Nat.add_mul] at h1
  have hs := knuth_step (u := u) (v := v) (a := c) (b := b + yn1) hy hy1 (by omega)
  have hle : c * yn0 ≤ 4294967296 * 4294967295 := Nat.mul_le_mul (by omega) (by omega)
  rw [Nat.add_sub_cancel]
  have : ¬ (u * 4294967296 + v) / y < c := by rw [hs]; omega
  generalize (u * 4294967296 + v) / y = q at *
  omega

theorem div_two {hi y un1 un0 : Nat} (hy : 0 < y) :
    (hi * 18446744073709551616 + (un1 * 4294967296 + un0)) / y = (hi * 4294967296 + un1) / y * 4294967296 + ((hi * 4294967296 + un1) % y * 4294967296 + un0) / y ∧
    (hi * 18446744073709551616 + (un1 * 4294967296 + un0)) % y = ((hi * 4294967296 + un1) % y * 4294967296 + un0) % y := by
  have e1 : hi * 18446744073709551616 + (un1 * 4294967296 + un0) = (hi * 4294967296 + un1) * 4294967296 + un0 := by omega
  have e2 := Nat.div_add_mod (hi * 4294967296 + un1) y
  have e3 : (hi * 4294967296 + un1) * 4294967296 + un0 = y * ((hi * 4294967296 + un1) / y * 4294967296) + ((hi * 4294967296 + un1) % y * 4294967296 + un0) := by
    conv => lhs; rw [← e2]
    rw [Nat.add_mul, Nat.mul_assoc]; omega
  rw [e1, e3]
  constructor
  · rw [Nat.mul_add_div hy]
  · rw [Nat.mul_add_mod]

theorem mask32 (x : Nat) (hx : x < 18446744073709551616) : bits .and .u64 (x : Int) 4294967295 = ((x % 4294967296 : Nat) : Int) := low32 x hx

theorem drewN_later {B : Nat} {w w1 : World} (n : Nat) (h : Below B w w1) : Below B w (w1.drewN n) := ⟨h.os, h.tape, h.output, h.size, h.block⟩

end Go.Proofs.Ytdnpoacjamkhkaa

namespace Go.Proofs.Ytdnpoacjamkhkaa
open Go.ChangeShapes Go.WideShapes Go.ChangeAt Go.RowKit

theorem has_new2 (T : TypeId) (w : World) (x1 y1 z1 x2 y2 z2 : Value) :
    Has3 ((w.alloc (.cells #[x1, y1, z1] T)).alloc (.cells #[x2, y2, z2] T)) w.heap.size x1 y1 z1 ∧
    Has3 ((w.alloc (.cells #[x1, y1, z1] T)).alloc (.cells #[x2, y2, z2] T)) (w.heap.size + 1) x2 y2 z2 ∧
    Below w.heap.size w ((w.alloc (.cells #[x1, y1, z1] T)).alloc (.cells #[x2, y2, z2] T)) := by
  refine ⟨⟨by go_simp, by go_simp, by go_simp, by go_simp, by go_simp, by go_simp, ?_⟩, ⟨by go_simp, by go_simp, by go_simp, by go_simp, by go_simp, by go_simp, ?_⟩, by go_grown⟩
  · show w.heap.size < (((w.alloc _).alloc _)).heap.size
    simp only [World.size_alloc]; omega
  · show w.heap.size + 1 < (((w.alloc _).alloc _)).heap.size
    simp only [World.size_alloc]; omega

end Go.Proofs.Ytdnpoacjamkhkaa

namespace Go.Proofs.Ytdnpoacjamkhkaa
open Go.ChangeShapes Go.WideShapes Go.ChangeAt Go.RowKit

theorem nan_w (w : World) : Calls Try.prog 97 #[] w fun e w' => e = .returned (.float .f64 9221120237041090561) ∧ w = w' := by
  go_enter Try.func97, Try.ntmps97
  go_wp2
  all_goals (go_ret; exact ⟨rfl, rfl⟩)

theorem isNaN_w (x : Nat) (hx : x < 18446744073709551616) (w : World) :
    Calls Try.prog 96 #[.float .f64 x] w fun e w' => e = .returned (.bool (nanB x)) ∧ w = w' := by
  have ho : (FloatKind.f64.format.order x x != some Ordering.eq) = nanB x := by
    rw [order_eq x x hx hx, Bool.or_self]
    cases nanB x <;> simp
  go_enter Try.func96, Try.ntmps96
  go_wp2
  all_goals (go_ret; exact ⟨rfl, rfl⟩)

set_option maxHeartbeats 400000 in
theorem add_core (a b : Nat) (dir : Int) (ga gb gs : Bool) (ma mb ms : Nat) (ea eb es : Int) (r : Nat)
    (ha : ∀ w, Calls Try.prog 93 #[.float .f64 a] w fun x w' => x = .returned (.tuple #[.agg #[.bool ga, .int .u64 ma, .int .i64 ea], .bool true]) ∧ Below w.heap.size w w')
    (hb : ∀ w, Calls Try.prog 93 #[.float .f64 b] w fun x w' => x = .returned (.tuple #[.agg #[.bool gb, .int .u64 mb, .int .i64 eb], .bool true]) ∧ Below w.heap.size w w')
    (hs : ∀ w, Calls Try.prog 94 #[.agg #[.bool ga, .int .u64 ma, .int .i64 ea], .agg #[.bool gb, .int .u64 mb, .int .i64 eb]] w fun x w' => x = .returned (.agg #[.bool gs, .int .u64 ms, .int .i64 es]) ∧ Below w.heap.size w w')
    (hr : ∀ w, Calls Try.prog 62 #[.agg #[.bool gs, .int .u64 ms, .int .i64 es], .int .i64 dir] w fun x w' => x = .returned (.float .f64 r) ∧ Below w.heap.size w w') (w : World) :
    Calls Try.prog 63 #[.float .f64 a, .float .f64 b, .int .i64 dir] w fun x w' => x = .returned (.float .f64 r) ∧ Below w.heap.size w w' := by
  go_enter Try.func63, Try.ntmps63
  go_upto_region 2 with (first | (go_at_call_of 93 (Value.float .f64 a); refine (ha _).mono ?_; rintro _ w1 ⟨rfl, hb1⟩))
  go_wp2_with (first
    | (go_at_call_of 93 (Value.float .f64 b); refine (hb _).mono ?_; rintro _ w2 ⟨rfl, hb2⟩
       have c0 := keepsC hb2 (b := w1.heap.size) (o := 0) (v := .bool ga) (by go_simp) (by simp)
       have c1 := keepsC hb2 (b := w1.heap.size) (o := 1) (v := .int .u64 ma) (by go_simp) (by simp)
       have c2 := keepsC hb2 (b := w1.heap.size) (o := 2) (v := .int .i64 ea) (by go_simp) (by simp)
       have hsz : w1.heap.size < w2.heap.size := by have := hb2.size; simp only [World.size_alloc] at this; omega)
    | (go_at_call 94; refine (hs _).mono ?_; rintro _ w3 ⟨rfl, hb3⟩)
    | (go_at_call 62; refine (hr _).mono ?_; rintro _ w4 ⟨rfl, hb4⟩))
  all_goals
    go_ret
    refine ⟨rfl, ?_⟩
    have t2 : Below w.heap.size w (w1.alloc (Obj.cells #[Value.bool ga, Value.int IntKind.u64 ma, Value.int IntKind.i64 ea] 78)) := hb1.alloc hb1.size _
    have t3 := later t2 hb2
    have t4 : Below w.heap.size w (w2.alloc (Obj.cells #[Value.bool gb, Value.int IntKind.u64 mb, Value.int IntKind.i64 eb] 78)) := t3.alloc t3.size _
    exact later (later t4 hb3) hb4
end Go.Proofs.Ytdnpoacjamkhkaa
