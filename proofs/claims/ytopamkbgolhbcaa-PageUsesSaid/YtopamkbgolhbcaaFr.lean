/- What every law's row of package page wants besides its walk: arguments that read as they read before, and memory opened to its pages. -/
import Derived.Test.YtopamkbgolhbcaaP23
import Derived.Test.YtopamkbgolhbcaaRows
import Derived.ProofKit
import Derived.OpenShut
import Derived.ShutString
import Derived.Deep.DeepHandedRow
import Derived.Deep.Fields
import Derived.Lib.LaidTab
import Derived.Lib.SmallJoins
import Derived.Deep.Slices
namespace Go.Proofs.Ytopamkbgolhbcaa
open Go.ChangeShapes Go.WideShapes Go.ChangeAt Go.RowKit Go.Deep Go.Joins

theorem own : ownKnob Try.prog.godebug = none := by kernel_rfl
theorem cellsPage : Try.prog.cellsOf 67 = 3 := by kernel_rfl

section
variable {H : Type} {enc : TypeId × Value → H} {P : Program} {w : World} {base : Nat} {spare : Nat → Bool} {held : Bool}
/-- a struct of one-cell fields, read: each field's cell with its own reading -/
theorem row_of {t : TypeId} {fs : Array Field} {fuel : Nat} {cs : List Value} {x : DataW H × List MemPlace} (ht : P.underlying t = some (.struct fs)) (hone : oneCellFields P fs = true) (hC : P.cellsOf t = fs.size)
    (h : DataW.trod enc P w base spare held fuel t cs = some x) :
    ∃ (ys : List (DataW H × List MemPlace)) (n : Nat), x.1 = .agg (ys.map (·.1)) ∧ ys.length = fs.size ∧ cs.length = fs.size ∧
      ∀ (j : Nat) (f : Field), fs[j]? = some f → ∃ c y, cs[j]? = some c ∧ ys[j]? = some y ∧ DataW.trod enc P w base spare held n f.type [c] = some y := by
  obtain ⟨ys, n, _, hx, hlen, hyl, hf⟩ := DataW.trod_struct ht h
  refine ⟨ys, n, by rw [hx], hyl, hlen.trans hC, fun j f hj => ?_⟩
  obtain ⟨ho, hk⟩ := hone_of hone j f hj
  have hjl : j < fs.size := (Array.getElem?_eq_some_iff.1 hj).1
  have h1 := hf j f hj
  rw [ho, hk] at h1
  have hcl : j < cs.length := by omega
  have hone' : (cs.drop j).take 1 = [cs[j]] := by
    rw [List.drop_eq_getElem_cons hcl]
    rfl
  rw [hone'] at h1
  exact ⟨_, _, List.getElem?_eq_getElem hcl, List.getElem?_eq_getElem (by omega), h1.trans (List.getElem?_eq_getElem (by omega))⟩
end

section
variable {H : Type} {enc : TypeId × Value → H}
/-- the arguments read behind the call as they read before -/
theorem trodAll_below {W W' : World} (bel : Below W.heap.size W W') : ∀ (ts : List TypeId) (vs : List Value) (ds : List (DataW H)) (p : List MemPlace),
    (∀ t ∈ ts, Try.prog.readableRec t = true ∧ t < Try.prog.types.size) → DataW.TrodAll enc Try.prog W 0 (fun _ => true) true ts vs ds p → (∀ x ∈ p, x.block < W.heap.size) →
    DataW.TrodAll enc Try.prog W' 0 (fun b => decide (b < W.heap.size)) true ts vs ds p := by
  intro ts
  induction ts with
  | nil =>
    intro vs ds p _ h _
    obtain ⟨rfl, rfl, rfl⟩ := trodAll_nil h
    exact trodAll_mk0
  | cons t ts ih =>
    intro vs ds p ht h hp
    obtain ⟨v, vs', d, ds', p1, p2, rfl, rfl, rfl, h1, h2⟩ := trodAll_cons h
    have ht1 := ht t (by simp)
    exact trodAll_cons_mk (Below.trod laidOut ht1.1 ht1.2 h1 bel (fun x hx => hp x (by simp [hx]))) (ih vs' ds' p2 (fun t ht' => ht t (by simp [ht'])) h2 (fun x hx => hp x (by simp [hx])))
/-- the row's last step, of every law -/
theorem law_post {f : Func} {s : ChangeSpec} {W W' : World} {args : Array Value} {ds gs : List (DataW H)} {before : List MemPlace} (hv : s.vars = []) (hr : f.resultTypes = #[4])
    (ht : ∀ t ∈ f.params.toList, Try.prog.readableRec t = true ∧ t < Try.prog.types.size)
    (hW : DataW.Whole enc Try.prog f.params.toList s.vars false W args.toList ds gs before) (bel : Below W.heap.size W W')
    (h1 : (s.fn H (ds ++ gs)).results = [.lit (.bool true)]) (h2 : (s.fn H (ds ++ gs)).args = ds) (h3 : (s.fn H (ds ++ gs)).vars = []) :
    s.post enc Try.prog f false true false false W args (.bool true) W' := by
  have hlt : ∀ p ∈ before, p.block < W.heap.size := fun p hp => hW.lt p hp
  have hW' := hW
  obtain ⟨p, q, hA, hV, rfl, _, _⟩ := hW
  refine ⟨ds, gs, p ++ q, [], p, [], hW', ?_, ?_, ?_, bel.frame _, fun h => by cases h⟩
  · rw [h1, hr]
    exact trodAll_mk1 (shut_bool Try.underlying4 _)
  · rw [h2]
    exact trodAll_below bel _ _ _ _ ht hA (fun x hx => hlt x (by simp [hx]))
  · rw [h3, hv]
    rfl

/-- the page that lies at a place -/
def pgAt (W : World) (b off i : Nat) : M.Pg :=
  ⟨match W.cell? ⟨b, off + i * 3, none⟩ with | some (.int _ z) => z | _ => 0, match W.cell? ⟨b, off + i * 3 + 1, none⟩ with | some (.int _ z) => z | _ => 0, match W.cell? ⟨b, off + i * 3 + 2, none⟩ with | some (.string s) => s | _ => .empty⟩
theorem open_pages {W : World} {base : Nat} {spare : Nat → Bool} {held : Bool} {c : Value} {fuel : Nat} {y : DataW H × List MemPlace} (h : DataW.trod enc Try.prog W base spare held fuel 22 [c] = some y) :
    ∃ (A : Option Addr) (nv cap : Nat) (m : List M.Pg), c = .slice A nv cap ∧ Pages W c m ∧ Wf m ∧ nv ≤ cap ∧ cap ≤ maxLen := by
  rcases open_slice Try.underlying22 h with ⟨h1, _⟩ | ⟨a, len, cap, m, n, D, Pl, hcs, _, hl, hm, hmm, _, hat⟩
  · simp only [List.cons.injEq, and_true] at h1
    subst h1
    exact ⟨none, 0, 0, [], rfl, .inl ⟨rfl, .inl rfl⟩, ⟨by simp, fun x h => by simp at h, fun x h => by simp at h⟩, Nat.le_refl _, by unfold maxLen; omega⟩
  · simp only [List.cons.injEq, and_true] at hcs
    subst hcs
    have hlm : len ≤ m := by rw [hmm]; split <;> omega
    have cells : ∀ i, i < len → ∃ (x p : Int) (s : ByteArray), (0 ≤ x ∧ x ≤ 18446744073709551615) ∧ W.cell? (a.add (i * 3)) = some (.int .u64 x) ∧ W.cell? (a.add (i * 3 + 1)) = some (.int .i64 p) ∧ W.cell? (a.add (i * 3 + 2)) = some (.string s) := fun i hi => by
      obtain ⟨cs', hc, ht⟩ := hat i (by omega)
      rw [cellsPage] at hc
      obtain ⟨_, hcl, hca⟩ := World.cells?_some hc
      obtain ⟨ys, q, _, _, _, hg⟩ := row_of Try.underlying67 (by kernel_rfl) cellsPage ht
      obtain ⟨c0, y0, g0, _, r0⟩ := hg 0 _ rfl
      obtain ⟨c1, y1, g1, _, r1⟩ := hg 1 _ rfl
      obtain ⟨c2, y2, g2, _, r2⟩ := hg 2 _ rfl
      obtain ⟨x, e0, _, wx⟩ := DataW.trod_int Try.underlying23 r0
      obtain ⟨p, e1, _, _⟩ := DataW.trod_int Try.underlying3 r1
      obtain ⟨s, e2, _, _⟩ := DataW.trod_string Try.underlying9 r2
      simp only [List.cons.injEq, and_true] at e0 e1 e2
      subst e0 e1 e2
      have k0 := hca 0 (by omega)
      have k1 := hca 1 (by omega)
      have k2 := hca 2 (by omega)
      rw [add_add] at k0 k1 k2
      exact ⟨x, p, s, bounds_u64 wx, k0.trans g0, k1.trans g1, k2.trans g2⟩
    by_cases h0 : 0 < len
    · obtain ⟨b, off, spot⟩ := a
      obtain ⟨_, _, _, _, hz0, _⟩ := cells 0 h0
      have hspot : spot = none := by simpa [Addr.add] using World.cell?_spot hz0
      subst hspot
      have hlen : ((List.range len).map (pgAt W b off)).length = len := by simp
      have hpg : ∀ i, i < len → ∃ (x p : Int) (s : ByteArray), (0 ≤ x ∧ x ≤ 18446744073709551615) ∧ pgAt W b off i = ⟨x, p, s⟩ ∧ W.cell? ⟨b, off + i * 3, none⟩ = some (.int .u64 x) ∧ W.cell? ⟨b, off + i * 3 + 1, none⟩ = some (.int .i64 p) ∧ W.cell? ⟨b, off + i * 3 + 2, none⟩ = some (.string s) := fun i hi => by
        obtain ⟨x, p, s, hx, k0, k1, k2⟩ := cells i hi
        rw [add_plain, ← Nat.add_assoc] at k1 k2
        rw [add_plain] at k0
        exact ⟨x, p, s, hx, by unfold pgAt; rw [k0, k1, k2], k0, k1, k2⟩
      have hmem : ∀ q ∈ (List.range len).map (pgAt W b off), 0 ≤ q.a ∧ q.a ≤ 18446744073709551615 := fun q hq => by
        obtain ⟨i, hi, rfl⟩ := List.mem_map.1 hq
        obtain ⟨x, p, s, hx, e, _⟩ := hpg i (List.mem_range.1 hi)
        rw [e]
        exact hx
      have hM : maxLen = 9223372036854775807 := rfl
      refine ⟨_, len, cap, (List.range len).map (pgAt W b off), rfl, .inr ⟨by omega, b, off, cap, by rw [hlen], World.block_lt_of_cell? W _ hz0, fun i hi => ?_⟩, ⟨by omega, fun q hq => (hmem q hq).1, fun q hq => (hmem q hq).2⟩, hl, hm⟩
      rw [List.getElem_map, List.getElem_range]
      obtain ⟨x, p, s, _, e, k⟩ := hpg i (by omega)
      rw [e]
      exact k
    · obtain rfl : len = 0 := by omega
      exact ⟨_, _, _, [], rfl, .inl ⟨rfl, .inr ⟨_, _, rfl⟩⟩, ⟨by simp, fun x h => by simp at h, fun x h => by simp at h⟩, hl, hm⟩
end
end Go.Proofs.Ytopamkbgolhbcaa
