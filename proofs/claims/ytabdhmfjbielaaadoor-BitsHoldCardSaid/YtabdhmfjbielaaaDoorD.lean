/- PROVED here: the contract of math/bits.OnesCount64. No condition but those in each theorem's own head. -/
import Derived.Test.YtabdhmfjbielaaaDoorC
import Derived.Test.YtabdhmfjbielaaaDoorP
namespace Go.Proofs.YtabdhmfjbielaaaDoor
open Go Go.RowKit
set_option maxHeartbeats 1000000 in
theorem ones_core (x x1 x2 x3 x4 x5 x6 : Nat) (r : Int) (w : World)
    (h1 : IntKind.u64.wrap (bits .and .u64 ((x : Int) / 2) 6148914691236517205 + bits .and .u64 (x : Int) 6148914691236517205) = (x1 : Int))
    (h2 : IntKind.u64.wrap (bits .and .u64 ((x1 : Int) / 4) 3689348814741910323 + bits .and .u64 (x1 : Int) 3689348814741910323) = (x2 : Int))
    (h3 : bits .and .u64 (IntKind.u64.wrap ((x2 : Int) / 16 + (x2 : Int))) 1085102592571150095 = (x3 : Int))
    (h4 : IntKind.u64.wrap ((x3 : Int) + (x3 : Int) / 256) = (x4 : Int))
    (h5 : IntKind.u64.wrap ((x4 : Int) + (x4 : Int) / 65536) = (x5 : Int))
    (h6 : IntKind.u64.wrap ((x5 : Int) + (x5 : Int) / 4294967296) = (x6 : Int))
    (h7 : bits .and .i64 (wrap64 (x6 : Int)) 127 = r) :
    Calls Tryd.prog 45 #[.int .u64 (x : Int)] w fun e w' => e = .returned (.int .i64 r) ∧ w = w' := by
  have H7 := Lib.hid h7
  clear h7
  go_enter Tryd.func45, Tryd.ntmps45
  go_wp2
  go_ret
  exact ⟨ret_int H7.out, rfl⟩

theorem ofInt_i64 (a : Nat) (ha : a < 9223372036854775808) : (BitVec.ofInt 64 (a : Int)).toNat = a := by
  rw [BitVec.ofInt_natCast, BitVec.toNat_ofNat]; exact Nat.mod_eq_of_lt (by omega)
theorem i64_and_nat (a b : Nat) (ha : a < 9223372036854775808) (hb : b < 9223372036854775808) : bits .and .i64 (a : Int) (b : Int) = ((a &&& b : Nat) : Int) := by
  have hx : a &&& b < 2 ^ 63 := Nat.and_lt_two_pow _ (by omega)
  show IntKind.i64.wrap ((BitVec.ofInt 64 (a : Int) &&& BitVec.ofInt 64 (b : Int)).toNat : Int) = _
  rw [BitVec.toNat_and, ofInt_i64 a ha, ofInt_i64 b hb, IntKind.wrap_i64]
  omega
theorem em1 : m1 8 = 6148914691236517205 := by decide
theorem em2 : m2 8 = 3689348814741910323 := by decide
theorem em3 : m3 8 = 1085102592571150095 := by decide
theorem e256 : (256 : Nat) ^ 8 = 18446744073709551616 := by decide
theorem two_ands (x q m : Nat) (hx : x < 18446744073709551616) (hm : m < 18446744073709551616) (hs : (x / q &&& m) + (x &&& m) < 18446744073709551616) :
    IntKind.u64.wrap (bits .and .u64 ((x : Int) / (q : Int)) (m : Int) + bits .and .u64 (x : Int) (m : Int)) = (((x / q &&& m) + (x &&& m) : Nat) : Int) := by
  have hq : x / q < 18446744073709551616 := Nat.lt_of_le_of_lt (Nat.div_le_self _ _) hx
  rw [← Int.natCast_ediv, u64_and_nat _ _ hq hm, u64_and_nat _ _ hx hm, ← Int.natCast_add, wrap_u64 hs]
theorem one_sum (x q : Nat) (hs : x + x / q < 18446744073709551616) : IntKind.u64.wrap ((x : Int) + (x : Int) / (q : Int)) = ((x + x / q : Nat) : Int) := by
  rw [← Int.natCast_ediv, ← Int.natCast_add, wrap_u64 hs]
theorem S8 (x : Nat) : S 8 x = 256 * (256 * (256 * (256 * (256 * (256 * (256 * (256 * 0 + popK 8 (x / 72057594037927936 % 256)) + popK 8 (x / 281474976710656 % 256)) + popK 8 (x / 1099511627776 % 256)) + popK 8 (x / 4294967296 % 256)) + popK 8 (x / 16777216 % 256)) + popK 8 (x / 65536 % 256)) + popK 8 (x / 256 % 256)) + popK 8 (x % 256) := by
  simp only [S, Nat.div_div_eq_div_mul, Nat.reduceMul]

theorem Ones (x : Nat) (hx : x < 18446744073709551616) (w : World) : Calls Tryd.prog 45 #[.int .u64 (x : Int)] w fun e w' => e = .returned (.int .i64 (popK 64 x : Int)) ∧ w = w' := by
  have l1 := F1_lt 8 x
  have l2 := F21_lt 8 x
  rw [e256] at l1 l2
  obtain ⟨hs, b4, b5, b6⟩ := sums _ _ _ _ _ _ _ _ (pop8_le x) (pop8_le (x / 256)) (pop8_le (x / 65536)) (pop8_le (x / 16777216)) (pop8_le (x / 4294967296)) (pop8_le (x / 1099511627776)) (pop8_le (x / 281474976710656)) (pop8_le (x / 72057594037927936)) (S 8 x) _ _ _ (S8 x) rfl rfl rfl
  refine ones_core x (F1 8 x) (F2 8 (F1 8 x)) (S 8 x) _ _ _ _ w ?_ ?_ ?_ (one_sum _ 256 b4) (one_sum _ 65536 b5) (one_sum _ 4294967296 (by omega)) ?_
  · have := two_ands x 2 6148914691236517205 hx (by decide) (by rw [← em1]; exact l1)
    rw [← em1] at this
    exact this
  · have := two_ands (F1 8 x) 4 3689348814741910323 l1 (by decide) (by rw [← em2]; show F2 8 (F1 8 x) < _; omega)
    rw [← em2] at this
    exact this
  · have hd : F2 8 (F1 8 x) / 16 + F2 8 (F1 8 x) < 18446744073709551616 := by omega
    have e : IntKind.u64.wrap (((F2 8 (F1 8 x) : Nat) : Int) / 16 + ((F2 8 (F1 8 x) : Nat) : Int)) = ((F2 8 (F1 8 x) / 16 + F2 8 (F1 8 x) : Nat) : Int) := by
      have := wrap_u64 hd
      rw [Int.natCast_add, Int.natCast_ediv] at this
      rw [Int.natCast_add, Int.natCast_ediv]; exact this
    rw [e, ← F_S]
    have := u64_and_nat _ 1085102592571150095 hd (by decide)
    rw [← em3] at this
    exact this
  · have e : ∀ y : Nat, y < 9223372036854775808 → bits .and .i64 (wrap64 (y : Int)) 127 = ((y % 128 : Nat) : Int) := fun y hy => by
      have h1 : wrap64 (y : Int) = (y : Int) := by simp only [wrap64]; omega
      have h2 := i64_and_nat y 127 hy (by decide)
      rw [h1]
      have h3 := Nat.and_two_pow_sub_one_eq_mod y 7
      simp only [Nat.reducePow, Nat.reduceSub] at h3
      rw [h3] at h2
      exact h2
    rw [e _ b6, hs, pop64]
end Go.Proofs.YtabdhmfjbielaaaDoor
