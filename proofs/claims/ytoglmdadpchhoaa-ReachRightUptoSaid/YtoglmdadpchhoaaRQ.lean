/- Rows that are no longer than so much: pure. -/
import Derived.Test.YtoglmdadpchhoaaOS
namespace Go.Proofs.Ytoglmdadpchhoaa
open Go.RowKit

def InK (k : Nat) (i : In) : Prop := i.l.length ≤ k
def BkK (k : Nat) (b : Bk) : Prop := b.i.length ≤ k ∧ b.e.l.length ≤ k ∧ b.e.m.length ≤ k ∧ ∀ i ∈ b.i, InK k i
def FnK (k : Nat) (f : Fn) : Prop := f.l.length ≤ k ∧ (insF f).length ≤ k ∧ ∀ b ∈ f.l, BkK k b
def MdK (k : Nat) (m : Md) : Prop := m.f.length + m.g.length ≤ k ∧ (m.f.map fun f => (insF f).length).sum ≤ k ∧ ∀ f ∈ m.f, FnK k f
theorem InK.mono {k n : Nat} {i : In} (h : InK k i) (hn : k ≤ n) : InK n i := Nat.le_trans h hn
theorem BkK.mono {k n : Nat} {b : Bk} (h : BkK k b) (hn : k ≤ n) : BkK n b := ⟨Nat.le_trans h.1 hn, Nat.le_trans h.2.1 hn, Nat.le_trans h.2.2.1 hn, fun i hi => (h.2.2.2 i hi).mono hn⟩
theorem FnK.mono {k n : Nat} {f : Fn} (h : FnK k f) (hn : k ≤ n) : FnK n f := ⟨Nat.le_trans h.1 hn, Nat.le_trans h.2.1 hn, fun b hb => (h.2.2 b hb).mono hn⟩
end Go.Proofs.Ytoglmdadpchhoaa
