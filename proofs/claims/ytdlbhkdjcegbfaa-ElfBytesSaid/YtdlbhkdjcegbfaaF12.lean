/- An image that came in as an argument, opened. -/
import Derived.Test.YtdlbhkdjcegbfaaFg
import Derived.Test.YtdlbhkdjcegbfaaF1
import Derived.SizedLaws
namespace Go.Proofs.Ytdlbhkdjcegbfaa
open Go.ChangeShapes Go.WideShapes Go.ChangeAt Go.RowKit Go.Deep Go.Joins

theorem cellsSeg : Try.prog.cellsOf 41 = 4 := by kernel_rfl
theorem cellsImage : Try.prog.cellsOf 25 = 2 := by kernel_rfl
section
variable {H : Type} {enc : TypeId × Value → H}
/-- the segment that lies at a place -/
def sgAt (W : World) (b off i : Nat) : Sg :=
  ⟨match W.cell? ⟨b, off + i * 4, none⟩ with | some (.int _ z) => z | _ => 0, match W.cell? ⟨b, off + i * 4 + 1, none⟩ with | some (.int _ z) => z | _ => 0, match W.cell? ⟨b, off + i * 4 + 2, none⟩ with | some (.string s) => s | _ => .empty, match W.cell? ⟨b, off + i * 4 + 3, none⟩ with | some (.int _ z) => z | _ => 0⟩
theorem open_segs {W : World} {base : Nat} {spare : Nat → Bool} {held : Bool} {c : Value} {fuel : Nat} {y : DataW H × List MemPlace} (h : DataW.trod enc Try.prog W base spare held fuel 23 [c] = some y) :
    ∃ (A : Option Addr) (nv cap : Nat) (l : List Sg), c = .slice A nv cap ∧ Segs W c l ∧ (∀ s ∈ l, SgIn s) ∧ nv ≤ cap ∧ cap ≤ maxLen := by
  rcases open_slice Try.underlying23 h with ⟨h1, _⟩ | ⟨a, len, cap, m, n, D, Pl, hcs, _, hl, hm, hmm, _, hat⟩
  · simp only [List.cons.injEq, and_true] at h1
    subst h1
    exact ⟨none, 0, 0, [], rfl, .inl ⟨rfl, .inl rfl⟩, fun x h => by simp at h, Nat.le_refl _, by unfold maxLen; omega⟩
  · simp only [List.cons.injEq, and_true] at hcs
    subst hcs
    have hlm : len ≤ m := by rw [hmm]; split <;> omega
    have cells : ∀ i, i < len → ∃ s : Sg, SgIn s ∧ W.cell? (a.add (i * 4)) = some (.int .u64 s.a) ∧ W.cell? (a.add (i * 4 + 1)) = some (.int .i64 s.p) ∧ W.cell? (a.add (i * 4 + 2)) = some (.string s.d) ∧ W.cell? (a.add (i * 4 + 3)) = some (.int .u64 s.z) := fun i hi => by
      obtain ⟨cs', hc, ht⟩ := hat i (by omega)
      rw [cellsSeg] at hc
      obtain ⟨_, hcl, hca⟩ := World.cells?_some hc
      obtain ⟨ys, q, _, _, _, hg⟩ := row_of Try.underlying41 (by kernel_rfl) cellsSeg ht
      obtain ⟨c0, y0, g0, _, r0⟩ := hg 0 _ rfl
      obtain ⟨c1, y1, g1, _, r1⟩ := hg 1 _ rfl
      obtain ⟨c2, y2, g2, _, r2⟩ := hg 2 _ rfl
      obtain ⟨c3, y3, g3, _, r3⟩ := hg 3 _ rfl
      obtain ⟨x, e0, _, wx⟩ := DataW.trod_int Try.underlying22 r0
      obtain ⟨p, e1, _, wp⟩ := DataW.trod_int Try.underlying3 r1
      obtain ⟨s, e2, _, ws⟩ := DataW.trod_string Try.underlying9 r2
      obtain ⟨z, e3, _, wz⟩ := DataW.trod_int Try.underlying22 r3
      simp only [List.cons.injEq, and_true] at e0 e1 e2 e3
      subst e0 e1 e2 e3
      have k0 := hca 0 (by omega)
      have k1 := hca 1 (by omega)
      have k2 := hca 2 (by omega)
      have k3 := hca 3 (by omega)
      rw [add_add] at k0 k1 k2 k3
      have hM : maxLen = 9223372036854775807 := rfl
      exact ⟨⟨x, p, s, z⟩, ⟨bounds_u64 wx, bounds_i64 wp, bounds_u64 wz, by have := ws; simp only; omega⟩, k0.trans g0, k1.trans g1, k2.trans g2, k3.trans g3⟩
    by_cases h0 : 0 < len
    · obtain ⟨b, off, spot⟩ := a
      obtain ⟨_, _, hz0, _⟩ := cells 0 h0
      have hspot : spot = none := by simpa [Addr.add] using World.cell?_spot hz0
      subst hspot
      have hlen : ((List.range len).map (sgAt W b off)).length = len := by simp
      have hpg : ∀ i, i < len → ∃ s : Sg, SgIn s ∧ sgAt W b off i = s ∧ W.cell? ⟨b, off + i * 4, none⟩ = some (.int .u64 s.a) ∧ W.cell? ⟨b, off + i * 4 + 1, none⟩ = some (.int .i64 s.p) ∧ W.cell? ⟨b, off + i * 4 + 2, none⟩ = some (.string s.d) ∧ W.cell? ⟨b, off + i * 4 + 3, none⟩ = some (.int .u64 s.z) := fun i hi => by
        obtain ⟨s, hs, k0, k1, k2, k3⟩ := cells i hi
        rw [add_plain, ← Nat.add_assoc] at k1 k2 k3
        rw [add_plain] at k0
        exact ⟨s, hs, by unfold sgAt; rw [k0, k1, k2, k3], k0, k1, k2, k3⟩
      have hmem : ∀ q ∈ (List.range len).map (sgAt W b off), SgIn q := fun q hq => by
        obtain ⟨i, hi, rfl⟩ := List.mem_map.1 hq
        obtain ⟨s, hs, e, _⟩ := hpg i (List.mem_range.1 hi)
        rw [e]
        exact hs
      refine ⟨_, len, cap, (List.range len).map (sgAt W b off), rfl, .inr ⟨by omega, b, off, cap, by rw [hlen], World.block_lt_of_cell? W _ hz0, fun i hi => ?_⟩, hmem, hl, hm⟩
      rw [List.getElem_map, List.getElem_range]
      obtain ⟨s, _, e, k⟩ := hpg i (by omega)
      rw [e]
      exact k
    · obtain rfl : len = 0 := by omega
      exact ⟨_, _, _, [], rfl, .inl ⟨rfl, .inr ⟨_, _, rfl⟩⟩, fun x h => by simp at h, hl, hm⟩
set_option maxRecDepth 100000 in
theorem open_image {W : World} {r : Reach} {b0 base : Nat} {spare : Nat → Bool} {held : Bool} {v : Value} {d : DataW H} {p : List MemPlace} (hv : Value.okWide Try.prog W r b0 25 v)
    (h : DataW.Trod enc Try.prog W base spare held 25 v d p) :
    ∃ (e : Nat) (A : Option Addr) (nv cap : Nat) (l : List Sg), v = .agg #[.int .u64 e, .slice A nv cap] ∧ Segs W (.slice A nv cap) l ∧ (∀ s ∈ l, SgIn s) ∧ e < 18446744073709551616 ∧ nv ≤ cap ∧ cap ≤ maxLen := by
  obtain ⟨cs, rfl, hsz⟩ := okWide_struct Try.underlying25 hv
  obtain ⟨l⟩ := cs
  match l, hsz.trans cellsImage with
  | [c0, c1], _ =>
    obtain ⟨fuel, hf⟩ := h
    obtain ⟨ys, q, _, _, _, hg⟩ := row_of Try.underlying25 (by kernel_rfl) cellsImage hf
    obtain ⟨k0, y0, g0, _, r0⟩ := hg 0 _ rfl
    obtain ⟨k1, y1, g1, _, r1⟩ := hg 1 _ rfl
    obtain rfl : c0 = k0 := Option.some.inj g0
    obtain rfl : c1 = k1 := Option.some.inj g1
    obtain ⟨e, e1, _, w1⟩ := DataW.trod_int Try.underlying22 r0
    obtain ⟨A, nv, cap, l, rfl, hS, hI, h1, h2⟩ := open_segs r1
    simp only [List.cons.injEq, and_true] at e1
    subst e1
    obtain ⟨E0, E1⟩ := bounds_u64 w1
    obtain ⟨E, rfl⟩ := Int.eq_ofNat_of_zero_le E0
    exact ⟨E, A, nv, cap, l, rfl, hS, hI, by omega, h1, h2⟩
end
end Go.Proofs.Ytdlbhkdjcegbfaa
