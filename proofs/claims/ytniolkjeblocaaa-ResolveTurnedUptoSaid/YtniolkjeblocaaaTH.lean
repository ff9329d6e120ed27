/- Rows of modules that came in as arguments, opened: how many functions and globals they have at most. -/
import Derived.Test.YtniolkjeblocaaaH1
import Derived.Test.YtniolkjeblocaaaSB
namespace Go.Proofs.Ytniolkjeblocaaa
open Go.ChangeShapes Go.WideShapes Go.ChangeAt Go.RowKit Go.Deep Go.Joins

theorem allI_len (ms : List Md) : (allI ms ms.length).length ≤ (ms.map fun m => m.f.length + m.g.length).sum := by
  unfold allI
  rw [List.take_of_length_le (by simp)]
  have key : ∀ (ms : List Md) (k : Nat), (((ms.zipIdx k).map fun p => itemsOf (p.2 : Int) p.1).flatten).length ≤ (ms.map fun m => m.f.length + m.g.length).sum := by
    intro ms
    induction ms with
    | nil => intro k; simp
    | cons m ms ih =>
      intro k
      have h := ih (k + 1)
      have h1 : (itemsOf (k : Int) m).length ≤ m.f.length + m.g.length := by
        unfold itemsOf
        rw [List.length_append, List.length_map, List.length_map]
        have := List.length_filter_le (fun f : Fn => !(f.b == 1)) m.f
        have := List.length_filter_le (fun g : Gl => !(g.b == 1)) m.g
        omega
      rw [List.zipIdx_cons, List.map_cons, List.flatten_cons, List.length_append, List.map_cons, List.sum_cons]
      show (itemsOf (k : Int) m).length + _ ≤ _
      omega
  exact key ms 0
section
variable {H : Type} {enc : TypeId × Value → H} {W : World} {base : Nat} {spare : Nat → Bool} {held : Bool}
theorem mod_bulk {n : Nat} {F G : Option Addr} {nf cf ng cg : Nat} {y : DataW H × List MemPlace} (ht : DataW.trod enc Try.prog W base spare held n 25 [.slice F nf cf, .slice G ng cg] = some y) : nf + ng ≤ Rows.uptoBulk y.1 := by
  obtain ⟨ys, q, hd, _, _, hg⟩ := row_of Try.underlying25 (by kernel_rfl) cellsModule ht
  obtain ⟨c0, y0, g0, hy0, r0⟩ := hg 0 _ rfl
  obtain ⟨c1, y1, g1, hy1, r1⟩ := hg 1 _ rfl
  obtain rfl : (.slice F nf cf : Value) = c0 := Option.some.inj g0
  obtain rfl : (.slice G ng cg : Value) = c1 := Option.some.inj g1
  have h0 := slice_bulk Try.underlying22 r0
  have h1 := slice_bulk Try.underlying23 r1
  have hs : Rows.uptoBulk y0.1 + Rows.uptoBulk y1.1 ≤ Rows.uptoBulkAll (ys.map (·.1)) := by
    match ys, hy0, hy1 with
    | a :: b :: r, hy0, hy1 =>
      obtain rfl : a = y0 := by simpa using hy0
      obtain rfl : b = y1 := by simpa using hy1
      simp only [List.map_cons, Rows.uptoBulkAll]
      omega
  rw [hd]
  simp only [Rows.uptoBulk]
  omega
theorem openb_mod_at (n b off : Nat) (cs : List Value) (y : DataW H × List MemPlace) (hc : ∀ j, j < 2 → W.cell? ⟨b, off + j, none⟩ = cs[j]?) (hl : cs.length = 2) (ht : DataW.trod enc Try.prog W base spare held n 25 cs = some y) (hz : ∀ k ∈ y.1.weights Try.prog 25, k ≤ reachBytes) : ∃ x, ((MdOk x ∧ MdW x) ∧ x.f.length + x.g.length ≤ Rows.uptoBulk y.1) ∧ MdIn W b off x := by
  obtain ⟨m, F, G, cf, cg, ok, rfl, hA⟩ := openw_mod n cs y hl ht hz
  exact ⟨m, ⟨ok, mod_bulk ht⟩, F, cf, G, cg, hc 0 (by omega), hc 1 (by omega), hA⟩
theorem sum_bulk2 : ∀ (l : List Md) (ds : List (DataW H)), ds.length = l.length → (∀ (i : Nat) (h : i < l.length) (h' : i < ds.length), l[i].f.length + l[i].g.length ≤ Rows.uptoBulk ds[i]) → (l.map fun m => m.f.length + m.g.length).sum ≤ Rows.uptoBulkAll ds
  | [], _, _, _ => Nat.zero_le _
  | x :: l, [], h, _ => by simp at h
  | x :: l, d :: ds, h, hk => by
    have h0 := hk 0 (by simp) (by simp)
    simp only [List.getElem_cons_zero] at h0
    have h1 := sum_bulk2 l ds (by simpa using h) (fun i h h' => by
      have := hk (i + 1) (by simp; omega) (by simp; omega)
      simpa using this)
    rw [List.map_cons, List.sum_cons]
    simp only [Rows.uptoBulkAll]
    omega
set_option maxRecDepth 100000 in
theorem argb_mods {r : Reach} {b0 : Nat} {v : Value} {d : DataW H} {p : List MemPlace} (hv : Value.okWide Try.prog W r b0 28 v) (h : DataW.Trod enc Try.prog W base spare held 28 v d p) (hz : ∀ k ∈ d.weights Try.prog 28, k ≤ reachBytes) :
    ∃ (l : List Md) (A : Option Addr) (c : Nat), v = .slice A l.length c ∧ (∀ m ∈ l, MdOk m ∧ MdW m) ∧ Mods W (.slice A l.length c) l ∧ l.length ≤ c ∧ l.length ≤ Rows.uptoBulk d ∧ (l.map fun m => m.f.length + m.g.length).sum ≤ Rows.uptoBulk d := by
  obtain ⟨a, n, c, rfl⟩ := okWide_slice Try.underlying28 hv
  obtain ⟨fuel, hf⟩ := h
  obtain ⟨A, cap, l, ds, e, hr, hdl, ho, h1, h2, h3⟩ := open_rowb (H := H) MdIn (fun (m : Md) d => (MdOk m ∧ MdW m) ∧ m.f.length + m.g.length ≤ Rows.uptoBulk d) Try.underlying28 cellsModule (by omega) openb_mod_at (c := .slice a n c) hf hz
  rw [e] at hr
  have h4 := sum_bulk2 l ds hdl (fun i h h' => (ho i h h').2)
  have h5 := bulk_len ds
  have h6 : Rows.uptoBulkAll ds ≤ Rows.uptoBulk d := h3
  refine ⟨l, A, cap, e, fun m hm => ?_, hr, h1, by omega, by omega⟩
  obtain ⟨i, hi, rfl⟩ := List.getElem_of_mem hm
  exact (ho i hi (by omega)).1
end
end Go.Proofs.Ytniolkjeblocaaa
