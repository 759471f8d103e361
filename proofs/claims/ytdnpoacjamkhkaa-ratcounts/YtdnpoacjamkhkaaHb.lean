/- The reference's Right: what is whole of a number by a power of 2; cut, pair. -/
import Derived.Test.YtdnpoacjamkhkaaHa
namespace Go.Proofs.Ytdnpoacjamkhkaa
open Go.ChangeShapes Go.WideShapes Go.ChangeAt Go.RowKit

theorem natOf_drop {ds : List Nat} (h : Digs ds) (k : Nat) : natOf ds / 4294967296 ^ k = natOf (ds.drop k) := by
  rcases Nat.lt_or_ge k ds.length with c | c
  · have e := natOf_split ds k
    have l := natOf_lt (h.take k)
    rw [List.length_take, Nat.min_eq_left (by omega)] at l
    rw [e, Nat.add_mul_div_left _ _ (Nat.pow_pos (by omega)), Nat.div_eq_of_lt l]
    omega
  · rw [List.drop_of_length_le c]
    have l := natOf_lt h
    have := Nat.pow_le_pow_right (show 4294967296 > 0 by omega) c
    exact Nat.div_eq_of_lt (by omega)
theorem natOf_drop_step (ds : List Nat) (k : Nat) : natOf (ds.drop k) = ds.getD k 0 + 4294967296 * natOf (ds.drop (k + 1)) := by
  rcases Nat.lt_or_ge k ds.length with c | c
  · rw [List.drop_eq_getElem_cons c, List.getD_eq_getElem?_getD, List.getElem?_eq_getElem c]
    rfl
  · rw [List.drop_of_length_le c, List.drop_of_length_le (by omega), List.getD_eq_getElem?_getD, List.getElem?_eq_none c]
    rfl
theorem two_digs {x y T r : Nat} (hr : r < 32) : (x + 4294967296 * (y + 4294967296 * T)) / 2 ^ r % 4294967296 = (x + 4294967296 * y) / 2 ^ r % 4294967296 := by
  obtain ⟨s, hs⟩ : ∃ s, 32 = r + s := ⟨32 - r, by omega⟩
  have e2 : 4294967296 = 2 ^ r * 2 ^ s := by rw [← Nat.pow_add, ← hs]
  have : x + 4294967296 * (y + 4294967296 * T) = (x + 4294967296 * y) + 2 ^ r * (2 ^ s * 4294967296 * T) := by
    have : 4294967296 * (4294967296 * T) = 2 ^ r * (2 ^ s * 4294967296 * T) := by
      have q : 2 ^ r * (2 ^ s * 4294967296 * T) = 2 ^ r * 2 ^ s * (4294967296 * T) := by simp only [Nat.mul_assoc]
      rw [q, ← e2]
    rw [Nat.mul_add, this]; omega
  rw [this, Nat.add_mul_div_left _ _ (Nat.two_pow_pos r)]
  have : 2 ^ s * 4294967296 * T = 4294967296 * (2 ^ s * T) := by rw [Nat.mul_comm (2 ^ s), Nat.mul_assoc]
  rw [this, Nat.add_mul_mod_self_left]
theorem right_step {ds os : List Nat} {i r o : Nat} (hd : Digs ds) (hr : r < 32) (hl : os.length = i) (h : natOf os = natOf ds / 2 ^ r % 4294967296 ^ i) (ho : o = (ds.getD i 0 + 4294967296 * ds.getD (i + 1) 0) / 2 ^ r % 4294967296) : natOf (os ++ [o]) = natOf ds / 2 ^ r % 4294967296 ^ (i + 1) := by
  rw [natOf_append, hl, h, Nat.pow_succ, Nat.mod_mul]
  have e : natOf [o] = o := by simp [natOf]
  rw [e]
  have : natOf ds / 2 ^ r / 4294967296 ^ i % 4294967296 = o := by
    rw [Nat.div_div_eq_div_mul, Nat.mul_comm, ← Nat.div_div_eq_div_mul, natOf_drop hd, natOf_drop_step, natOf_drop_step ds (i + 1), two_digs hr, ho]
  rw [this]
theorem right_whole {ds : List Nat} {q r n : Nat} (hd : Digs ds) (hqr : n = 32 * q + r) : natOf ds / 2 ^ n = natOf (ds.drop q) / 2 ^ r := by
  rw [hqr, Nat.pow_add, ← Nat.div_div_eq_div_mul, ← pow32, natOf_drop hd]
theorem right_fin {ds os : List Nat} {r : Nat} (hd : Digs ds) (h : natOf os = natOf ds / 2 ^ r % 4294967296 ^ ds.length) : natOf os = natOf ds / 2 ^ r := by
  rw [h]
  apply Nat.mod_eq_of_lt
  have := natOf_lt hd
  have := Nat.div_le_self (natOf ds) (2 ^ r)
  omega

end Go.Proofs.Ytdnpoacjamkhkaa
