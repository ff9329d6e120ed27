/- Of machines in memory: one cell stored, pages kept. -/
import Derived.Test.YtpifndpbmjmglaaHE7
namespace Go.Proofs.Ytpifndpbmjmglaa.M
end Go.Proofs.Ytpifndpbmjmglaa.M
namespace Go.Proofs.Ytpifndpbmjmglaa.M
end Go.Proofs.Ytpifndpbmjmglaa.M
namespace Go.Proofs.Ytpifndpbmjmglaa
open Go.RowKit
instance (w : World) : Inhabited (Past w) := ⟨⟨w, Below.refl _ _⟩⟩
end Go.Proofs.Ytpifndpbmjmglaa
namespace Go.Proofs.Ytpifndpbmjmglaa
open Go.RowKit
theorem mcells_setT (k k' : Mc) (j : Nat) (v : Value) (hx : k'.x = k.x) (ht : (mtail k).set j v = mtail k') : (mcells k).setIfInBounds (32 + j) v = mcells k' := by
  apply Array.ext'
  rw [Array.toList_setIfInBounds, mcells, mcells, List.toList_toArray, List.toList_toArray, List.set_append_right _ _ (by rw [mregs_length]; omega), mregs_length, Nat.add_sub_cancel_left, ht, hx]
theorem mcells_set33 (k : Mc) (A : Option Addr) (n c : Nat) : (mcells k).setIfInBounds 33 (.slice A n c) = mcells { k with ma := A, ml := n, mc := c } := mcells_setT k { k with ma := A, ml := n, mc := c } 1 _ rfl rfl
/-- all of a machine loaded -/
theorem load_mach {ops : Array Oper} {rest : List Oper} {o : Oper} {a : Act} {w : World} {Q : Exit → Act → World → Prop} (hgd : o.guard = none) (x : Operand) (ho : o.op = .load 30 x)
    (B : Nat) (hx : a.eval x = .pointer (some ⟨B, 0, none⟩)) (k : Mc) (hM : Mach w B k) (h : wpList Try.prog ops Q rest (a.put o.dst (.agg (mcells k))) w) : wpList Try.prog ops Q (o :: rest) a w :=
  wpList_load_row hgd _ x ho B hx _ _ _ _ hM Try.underlying30 rfl (mach_info k) h
end Go.Proofs.Ytpifndpbmjmglaa
namespace Go.Proofs.Ytpifndpbmjmglaa.E
namespace M
end M
end Go.Proofs.Ytpifndpbmjmglaa.E
namespace Go.Proofs.Ytpifndpbmjmglaa.E
open Go.RowKit
namespace M
end M
end Go.Proofs.Ytpifndpbmjmglaa.E
namespace Go.Proofs.Ytpifndpbmjmglaa.E
open Go.RowKit
end Go.Proofs.Ytpifndpbmjmglaa.E
namespace Go.Proofs.Ytpifndpbmjmglaa.E
open Go.RowKit
end Go.Proofs.Ytpifndpbmjmglaa.E
namespace Go.Proofs.Ytpifndpbmjmglaa.E
open Go.RowKit
end Go.Proofs.Ytpifndpbmjmglaa.E
namespace Go.Proofs.Ytpifndpbmjmglaa.E
open Go.RowKit
end Go.Proofs.Ytpifndpbmjmglaa.E
namespace Go.Proofs.Ytpifndpbmjmglaa.E
open Go.RowKit
end Go.Proofs.Ytpifndpbmjmglaa.E
namespace Go.Proofs.Ytpifndpbmjmglaa.E
open Go.RowKit
end Go.Proofs.Ytpifndpbmjmglaa.E
namespace Go.Proofs.Ytpifndpbmjmglaa.E
open Go.RowKit
end Go.Proofs.Ytpifndpbmjmglaa.E
namespace Go.Proofs.Ytpifndpbmjmglaa.E
open Go.RowKit
end Go.Proofs.Ytpifndpbmjmglaa.E
namespace Go.Proofs.Ytpifndpbmjmglaa.E
open Go.RowKit
end Go.Proofs.Ytpifndpbmjmglaa.E
namespace Go.Proofs.Ytpifndpbmjmglaa.E
open Go.RowKit
end Go.Proofs.Ytpifndpbmjmglaa.E
namespace Go.Proofs.Ytpifndpbmjmglaa.E
open Go.RowKit
end Go.Proofs.Ytpifndpbmjmglaa.E
namespace Go.Proofs.Ytpifndpbmjmglaa.E
open Go.RowKit
end Go.Proofs.Ytpifndpbmjmglaa.E
namespace Go.Proofs.Ytpifndpbmjmglaa.E
open Go.RowKit
end Go.Proofs.Ytpifndpbmjmglaa.E
namespace Go.Proofs.Ytpifndpbmjmglaa.E
open Go.RowKit
end Go.Proofs.Ytpifndpbmjmglaa.E
namespace Go.Proofs.Ytpifndpbmjmglaa
open Go.RowKit
theorem mcells_i64 (k : Mc) (j : Nat) (p : Int) (h : (mcells k)[j]? = some (.int .i64 p)) : j = 36 := by
  by_cases h1 : j < 32
  · rw [mcells_x k j h1] at h; cases h
  · obtain ⟨t, rfl⟩ : ∃ t, j = 32 + t := ⟨j - 32, by omega⟩
    rw [mcells_t] at h
    match t, h with
    | 0, h => cases h
    | 1, h => cases h
    | 2, h => cases h
    | 3, h => cases h
    | 4, _ => rfl
    | 5, h => cases h
    | 6, h => cases h
    | t + 7, h => simp [mtail] at h
theorem pages_apart {W : World} {b off : Nat} {m : List M.Pg} {r : Nat} {k : Mc} (h : PagesIn W b off m) (h0 : 0 < m.length) (hr : Mach W r k) : b ≠ r := by
  rintro rfl
  obtain ⟨-, e1, e2⟩ := h.2 0 h0
  rw [Whole.cell hr] at e1 e2
  have := mcells_i64 k _ _ e1
  simp only [Nat.zero_mul, Nat.add_zero] at this e2
  rw [show off + 2 = 37 by omega, mcells_37] at e2
  cases e2
theorem pages_keepM {W W' : World} {v : Value} {m : List M.Pg} {r : Nat} {k : Mc} (h : Pages W v m) (hr : Mach W r k) (hg : W.grownBy W' (some r)) : Pages W' v m := by
  rcases h with h | ⟨h1, b, off, cap, rfl, h2⟩
  · exact .inl h
  · refine Pages.keep (.inr ⟨h1, b, off, cap, rfl, h2⟩) hg hr ?_
    rintro b' off' n c e
    cases e
    exact pages_apart h2 h1 hr
end Go.Proofs.Ytpifndpbmjmglaa
