/- A walk of Word of the document's answer for layer 1: it is the word that the plain facts speak of. -/
import Derived.Test.YtmedlebepgobeaaDoorR2
import Derived.Test.YtmedlebepgobeaaDoorR3
namespace Go.Proofs.YtmedlebepgobeaaDoor
open Go.RowKit

theorem power_lt (n F : Int) (hF : pw n.toNat = F) (h0 : 0 ≤ n) (h1 : n ≤ 31) (w : World) : Calls Tryd.prog 27 #[.int .i64 n] w fun e w' => e = .returned (.int .u32 F) ∧ w' = w :=
  (power_lit n F hF h0 h1 w).mono fun _ _ ⟨a, b⟩ => ⟨a, b.symm⟩
theorem drewN_below (w : World) (n : Nat) : Below w.heap.size w (w.drewN n) := ⟨rfl, rfl, rfl, Nat.le_refl _, fun _ _ => rfl⟩

theorem pw1 : pw ((1 : Int)).toNat = 2 := by decide +kernel
theorem pw4 : pw ((4 : Int)).toNat = 16 := by decide +kernel
theorem pw5 : pw ((5 : Int)).toNat = 32 := by decide +kernel
theorem pw6 : pw ((6 : Int)).toNat = 64 := by decide +kernel
theorem pw7 : pw ((7 : Int)).toNat = 128 := by decide +kernel
theorem pw8 : pw ((8 : Int)).toNat = 256 := by decide +kernel
theorem pw10 : pw ((10 : Int)).toNat = 1024 := by decide +kernel
theorem pw11 : pw ((11 : Int)).toNat = 2048 := by decide +kernel
theorem pw12 : pw ((12 : Int)).toNat = 4096 := by decide +kernel
theorem pw15 : pw ((15 : Int)).toNat = 32768 := by decide +kernel
theorem pw20 : pw ((20 : Int)).toNat = 1048576 := by decide +kernel
theorem pw21 : pw ((21 : Int)).toNat = 2097152 := by decide +kernel
theorem pw25 : pw ((25 : Int)).toNat = 33554432 := by decide +kernel
theorem pw31 : pw ((31 : Int)).toNat = 2147483648 := by decide +kernel
theorem pw0 : pw ((0 : Int)).toNat = 1 := by decide +kernel
end Go.Proofs.YtmedlebepgobeaaDoor
