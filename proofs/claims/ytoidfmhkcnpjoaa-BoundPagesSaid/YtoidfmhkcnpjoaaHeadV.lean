/- Contracts of the references of layer 3: Decode, Forward, Target. -/
import Derived.Test.YtoidfmhkcnpjoaaHeadU
namespace Go.Proofs.Ytoidfmhkcnpjoaa
open Go.RowKit

theorem and_dK (x : Nat) (hx : x < 18446744073709551616) : bits .and .u64 ((x : Int) / 4) 3 = ((dK x : Nat) : Int) := by
  have h := u64_and_nat (x / 4) 3 (by omega) (by omega)
  rw [show ((x / 4 : Nat) : Int) = (x : Int) / 4 from by omega, show ((3 : Nat) : Int) = 3 from rfl] at h
  rw [h, show (3 : Nat) = 2 ^ 2 - 1 from rfl, Nat.and_two_pow_sub_one_eq_mod]; rfl
theorem and_dN (x : Nat) (hx : x < 18446744073709551616) : bits .and .u64 ((x : Int) / 16) 4095 = ((dN x : Nat) : Int) := by
  have h := u64_and_nat (x / 16) 4095 (by omega) (by omega)
  rw [show ((x / 16 : Nat) : Int) = (x : Int) / 16 from by omega, show ((4095 : Nat) : Int) = 4095 from rfl] at h
  rw [h, show (4095 : Nat) = 2 ^ 12 - 1 from rfl, Nat.and_two_pow_sub_one_eq_mod]; rfl
theorem mod_dM (x : Nat) : (x : Int) / 65536 % 4294967296 = ((dM x : Nat) : Int) := by unfold dM; omega

end Go.Proofs.Ytoidfmhkcnpjoaa
