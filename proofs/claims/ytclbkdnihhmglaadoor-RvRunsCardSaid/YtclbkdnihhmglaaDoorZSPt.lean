/- RvParts: so many steps, and so many more, are those of both together. -/
import Derived.Test.YtclbkdnihhmglaaDoorZSI
import Derived.Test.YtclbkdnihhmglaaDoorZNG
import Derived.Deep.RegionHeld
import Derived.IntWalk
namespace Go.Proofs.YtclbkdnihhmglaaDoor
open Go.RowKit

theorem exec_mach {o : Oper} {a : Act} (x : Operand) (ho : o.op = .load 26 x) (B : Nat) (hx : a.eval x = .pointer (some ⟨B, 0, none⟩)) {w : World} {k : Mc} (hM : Mach w B k) :
    (execOp a.eval o).run Tryd.prog w = .ok (.value (.agg (mcells k))) w := by
  unfold execOp
  simp only [ho, hx, Instr.loadAt, Instr.sureAddr, Sem.run_bind, Sem.run_pure, Result.andThen_ok, run_loadVar_row w B _ 26 _ _ _ hM Tryd.underlying26 rfl (mach_info k)]
theorem runR_with (k : Mc) (A : Option Addr) (l c : Nat) (m : List M.Pg) (n : Nat) : runR n (withM k A l c) m = (withM (runR n k m).1 A l c, (runR n k m).2) := by
  induction n with
  | zero => rfl
  | succ n ih =>
    show stepR (runR n (withM k A l c) m).1 (runR n (withM k A l c) m).2 = _
    rw [ih, stepR_with]
    rfl
theorem fits_of {k : Mc} {m : List M.Pg} (hB : MB k m) (ho : k.out.size ≤ 140737488351232) (hf : fewB k = true) : Fits k m := by
  have h := fit_of hB ho hf
  exact ⟨hB.mi, h.n, h.z, by omega⟩
theorem Fits.run {k : Mc} {m : List M.Pg} (h : Fits k m) (ho : k.out.size ≤ 140737488351232) (n : Nat) (hn : n ≤ 300) (A : Option Addr) (l c : Nat) : Fits { (runR n k m).1 with ma := A, ml := l, mc := c } (runR n k m).2 := by
  obtain ⟨h1, h2⟩ := runR_mi h.b n
  have h3 := runR_out k m n
  exact ⟨⟨h1.x, h1.pc, h1.cd, h1.n, h1.st, h1.wf⟩, by rw [h2]; exact h.n, runR_zero h.z n, by show (runR n k m).1.out.size ≤ _; omega⟩
theorem parts_same {k k1 k2 k3 : Mc} {m m1 m2 m3 : List M.Pg} {a b : Int} {A1 A2 A3 : Option Addr} {l1 l2 l3 c1 c2 c3 : Nat} (a0 : 0 ≤ a) (b0 : 0 ≤ b)
    (h1 : ({ (runR a.toNat k m).1 with ma := A1, ml := l1, mc := c1 } : Mc) = k1) (g1 : (runR a.toNat k m).2 = m1) (h2 : ({ (runR b.toNat k1 m1).1 with ma := A2, ml := l2, mc := c2 } : Mc) = k2) (g2 : (runR b.toNat k1 m1).2 = m2)
    (h3 : ({ (runR (a + b).toNat k m).1 with ma := A3, ml := l3, mc := c3 } : Mc) = k3) (g3 : (runR (a + b).toNat k m).2 = m3) : sameMc k2 k3 m2 m3 = true := by
  have e : (a + b).toNat = a.toNat + b.toNat := by omega
  have e1 : k1 = withM (runR a.toNat k m).1 A1 l1 c1 := h1.symm
  rw [e1, ← g1, runR_with] at h2 g2
  rw [e, runR_add] at h3 g3
  subst h2 g2 h3 g3
  exact sameMc_true rfl (fun _ _ => rfl) rfl rfl rfl rfl rfl rfl
theorem same_with {k : Mc} {m : List M.Pg} {A A' : Option Addr} {l l' c c' : Nat} : sameMc { k with ma := A, ml := l, mc := c } { k with ma := A', ml := l', mc := c' } m m = true :=
  sameMc_true rfl (fun _ _ => rfl) rfl rfl rfl rfl rfl rfl
end Go.Proofs.YtclbkdnihhmglaaDoor
