/- x & (2^k - 1) is the rest of a division. No statement of the program is proved here. -/
import Derived.Test.YtoienjlpncphgaaBase
namespace Go.Proofs.Ytoienjlpncphgaa
open Go.RowKit

theorem i64_and (y : Int) (k : Nat) (hk : k < 63) : bits .and .i64 y ((2 ^ k - 1 : Nat) : Int) = y % (2 ^ k : Nat) := by
  have hp : 2 ^ k ≤ 2 ^ 62 := Nat.pow_le_pow_right (by decide) (by omega)
  have hpos : 0 < 2 ^ k := Nat.pow_pos (by decide)
  have h7 : (BitVec.ofInt 64 ((2 ^ k - 1 : Nat) : Int)).toNat = 2 ^ k - 1 := by
    rw [BitVec.toNat_ofInt]
    omega
  show IntKind.i64.wrap ((BitVec.ofInt 64 y &&& BitVec.ofInt 64 ((2 ^ k - 1 : Nat) : Int)).toNat : Int) = _
  rw [BitVec.toNat_and, h7, Nat.and_two_pow_sub_one_eq_mod, BitVec.toNat_ofInt]
  have hm : (y % ((2 : Nat) ^ 64 : Nat)).toNat % 2 ^ k < 2 ^ k := Nat.mod_lt _ hpos
  rw [IntWalk.i64_in _ (by omega)]
  have hd : ((2 ^ k : Nat) : Int) ∣ ((2 ^ 64 : Nat) : Int) := Int.natCast_dvd_natCast.2 (Nat.pow_dvd_pow 2 (by omega))
  have h0 : 0 ≤ y % ((2 ^ 64 : Nat) : Int) := Int.emod_nonneg _ (by decide)
  have e : (((y % ((2 ^ 64 : Nat) : Int)).toNat % 2 ^ k : Nat) : Int) = (y % ((2 ^ 64 : Nat) : Int)) % ((2 ^ k : Nat) : Int) := by
    rw [Int.natCast_emod, Int.toNat_of_nonneg h0]
  rw [e, Int.emod_emod_of_dvd _ hd]
theorem and1023 (y : Int) : bits .and .i64 y 1023 = y % 1024 := i64_and y 10 (by decide)
theorem and127 (y : Int) : bits .and .i64 y 127 = y % 128 := i64_and y 7 (by decide)
end Go.Proofs.Ytoienjlpncphgaa
