/- What every law's row wants besides its walk: a world in which the tables lie, arguments that read as they read before, and structs of five fields opened to their numbers. -/
import Derived.Test.YtmedlebepgobeaaDoorLaid
import Derived.Test.YtmedlebepgobeaaDoorL1
import Derived.Lib.SmallJoins
import Derived.Deep.Slices
namespace Go.Proofs.YtmedlebepgobeaaDoor
open Go.ChangeShapes Go.WideShapes Go.ChangeAt Go.RowKit Go.Deep Go.Joins

theorem own : ownKnob Tryd.prog.godebug = none := by kernel_rfl
theorem laidOut : laidOutB Tryd.prog = true := by kernel_rfl
theorem cells23 : Tryd.prog.cellsOf 23 = 5 := by kernel_rfl
theorem cells50 : Tryd.prog.cellsOf 50 = 5 := by kernel_rfl

def kindCells : Array Value := #[.int .i64 0, .int .u32 0, .int .u32 0, .int .u32 0, .int .i64 0, .int .u32 51, .int .u32 0, .int .u32 0, .int .i64 0, .int .u32 51, .int .u32 0, .int .u32 32, .int .i64 0, .int .u32 51, .int .u32 1, .int .u32 0, .int .i64 0, .int .u32 51, .int .u32 3, .int .u32 0, .int .i64 0, .int .u32 51, .int .u32 4, .int .u32 0, .int .i64 0, .int .u32 51, .int .u32 5, .int .u32 0, .int .i64 0, .int .u32 51, .int .u32 6, .int .u32 0, .int .i64 0, .int .u32 51, .int .u32 7, .int .u32 0, .int .i64 0, .int .u32 51, .int .u32 0, .int .u32 1, .int .i64 0, .int .u32 51, .int .u32 5, .int .u32 1, .int .i64 0, .int .u32 51, .int .u32 7, .int .u32 1, .int .i64 1, .int .u32 19, .int .u32 0, .int .u32 0, .int .i64 1, .int .u32 19, .int .u32 3, .int .u32 0, .int .i64 1, .int .u32 19, .int .u32 4, .int .u32 0, .int .i64 1, .int .u32 19, .int .u32 6, .int .u32 0, .int .i64 1, .int .u32 19, .int .u32 7, .int .u32 0, .int .i64 2, .int .u32 19, .int .u32 1, .int .u32 0, .int .i64 2, .int .u32 19, .int .u32 5, .int .u32 0, .int .i64 1, .int .u32 3, .int .u32 3, .int .u32 0, .int .i64 1, .int .u32 3, .int .u32 4, .int .u32 0, .int .i64 3, .int .u32 35, .int .u32 3, .int .u32 0, .int .i64 3, .int .u32 35, .int .u32 0, .int .u32 0, .int .i64 4, .int .u32 99, .int .u32 0, .int .u32 0, .int .i64 4, .int .u32 99, .int .u32 1, .int .u32 0, .int .i64 4, .int .u32 99, .int .u32 6, .int .u32 0, .int .i64 4, .int .u32 99, .int .u32 7, .int .u32 0, .int .i64 5, .int .u32 55, .int .u32 0, .int .u32 0, .int .i64 5, .int .u32 23, .int .u32 0, .int .u32 0, .int .i64 6, .int .u32 111, .int .u32 0, .int .u32 0, .int .i64 1, .int .u32 103, .int .u32 0, .int .u32 0, .int .i64 7, .int .u32 115, .int .u32 0, .int .u32 0]
def formCells : Array Value := #[.bool true, .bool true, .bool true, .int .i64 (0), .int .i64 (0), .int .i64 (1), .bool true, .bool true, .bool false, .int .i64 (-2048), .int .i64 (2047), .int .i64 (1), .bool true, .bool true, .bool false, .int .i64 (0), .int .i64 (63), .int .i64 (1), .bool false, .bool true, .bool true, .int .i64 (-2048), .int .i64 (2047), .int .i64 (1), .bool false, .bool true, .bool true, .int .i64 (-4096), .int .i64 (4094), .int .i64 (2), .bool true, .bool false, .bool false, .int .i64 (-2147483648), .int .i64 (2147479552), .int .i64 (4096), .bool true, .bool false, .bool false, .int .i64 (-1048576), .int .i64 (1048574), .int .i64 (2), .bool false, .bool false, .bool false, .int .i64 (0), .int .i64 (0), .int .i64 (1)]
def setCells (cs : Array Value) : Obj → Obj
  | .cells _ t frozen => .cells cs t frozen
  | o => o
noncomputable def laidWorld (os : Os) : World :=
  { World.holding Tryd.prog os ⟨#[], #[], []⟩ with heap := ((World.holding Tryd.prog os ⟨#[], #[], []⟩).heap.modify 0 (setCells kindCells)).modify 1 (setCells formCells) }

section
variable {H : Type} {enc : TypeId × Value → H}
/-- the arguments read behind the call as they read before -/
theorem trodAll_below {W W' : World} (bel : Below W.heap.size W W') : ∀ (ts : List TypeId) (vs : List Value) (ds : List (DataW H)) (p : List MemPlace),
    (∀ t ∈ ts, Tryd.prog.readableRec t = true ∧ t < Tryd.prog.types.size) → DataW.TrodAll enc Tryd.prog W 0 (fun _ => true) true ts vs ds p → (∀ x ∈ p, x.block < W.heap.size) →
    DataW.TrodAll enc Tryd.prog W' 0 (fun b => decide (b < W.heap.size)) true ts vs ds p := by
  intro ts
  induction ts with
  | nil =>
    intro vs ds p _ h _
    obtain ⟨rfl, rfl, rfl⟩ := trodAll_nil h
    exact trodAll_mk0
  | cons t ts ih =>
    intro vs ds p ht h hp
    obtain ⟨v, vs', d, ds', p1, p2, rfl, rfl, rfl, h1, h2⟩ := trodAll_cons h
    have ht1 := ht t (by simp)
    exact trodAll_cons_mk (Below.trod laidOut ht1.1 ht1.2 h1 bel (fun x hx => hp x (by simp [hx]))) (ih vs' ds' p2 (fun t ht' => ht t (by simp [ht'])) h2 (fun x hx => hp x (by simp [hx])))
/-- the row's last step, of every law -/
theorem law_post {f : Func} {s : ChangeSpec} {W W' : World} {args : Array Value} {ds gs : List (DataW H)} {before : List MemPlace} (hv : s.vars = []) (hr : f.resultTypes = #[4])
    (ht : ∀ t ∈ f.params.toList, Tryd.prog.readableRec t = true ∧ t < Tryd.prog.types.size)
    (hW : DataW.Whole enc Tryd.prog f.params.toList s.vars false W args.toList ds gs before) (bel : Below W.heap.size W W')
    (h1 : (s.fn H (ds ++ gs)).results = [.lit (.bool true)]) (h2 : (s.fn H (ds ++ gs)).args = ds) (h3 : (s.fn H (ds ++ gs)).vars = []) :
    s.post enc Tryd.prog f false true false false W args (.bool true) W' := by
  have hlt : ∀ p ∈ before, p.block < W.heap.size := fun p hp => hW.lt p hp
  have hW' := hW
  obtain ⟨p, q, hA, hV, rfl, _, _⟩ := hW
  refine ⟨ds, gs, p ++ q, [], p, [], hW', ?_, ?_, ?_, bel.frame _, fun h => by cases h⟩
  · rw [h1, hr]
    exact trodAll_mk1 (shut_bool Tryd.underlying4 _)
  · rw [h2]
    exact trodAll_below bel _ _ _ _ ht hA (fun x hx => hlt x (by simp [hx]))
  · rw [h3, hv]
    rfl

/-- a struct of five numbers, by value -/
theorem open_five {W : World} {r : Reach} {b0 base : Nat} {spare : Nat → Bool} {held : Bool} {t : TypeId} {fs : Array Field} {v : Value} {d : DataW H} {p : List MemPlace} (hs : Tryd.prog.underlying t = some (.struct fs)) (hone : oneCellFields Tryd.prog fs = true)
    (h5 : fs.size = 5) (hC : Tryd.prog.cellsOf t = 5) (hi : ∀ (j : Nat) (f : Field), fs[j]? = some f → Tryd.prog.underlying f.type = some (.int .i64))
    (hv : Value.okWide Tryd.prog W r b0 t v) (h : DataW.Trod enc Tryd.prog W base spare held t v d p) :
    ∃ k rd a b n : Int, v = .agg #[.int .i64 k, .int .i64 rd, .int .i64 a, .int .i64 b, .int .i64 n] ∧
      ((Lit.int .i64 k).wf = true ∧ (Lit.int .i64 rd).wf = true ∧ (Lit.int .i64 a).wf = true ∧ (Lit.int .i64 b).wf = true ∧ (Lit.int .i64 n).wf = true) := by
  obtain ⟨cs, rfl, hsz⟩ := okWide_struct hs hv
  obtain ⟨l⟩ := cs
  match l, hsz.trans hC with
  | [c0, c1, c2, c3, c4], _ =>
    obtain ⟨fuel, hf⟩ := h
    obtain ⟨ys, n, _, _, _, hg⟩ := row_of hs hone (hC.trans h5.symm) hf
    have G : ∀ (j : Nat) (c : Value), j < 5 → [c0, c1, c2, c3, c4][j]? = some c → ∃ m : Int, c = .int .i64 m ∧ (Lit.int .i64 m).wf = true := fun j c hj hc => by
      have hfj : fs[j]? = some fs[j] := Array.getElem?_eq_getElem (by omega)
      obtain ⟨c', y, e1, _, e3⟩ := hg j _ hfj
      obtain rfl : c = c' := Option.some.inj (hc.symm.trans e1)
      obtain ⟨m, hm, _, hw⟩ := DataW.trod_int (hi j _ hfj) e3
      exact ⟨m, by simpa using hm, hw⟩
    obtain ⟨m0, rfl, w0⟩ := G 0 c0 (by omega) rfl
    obtain ⟨m1, rfl, w1⟩ := G 1 c1 (by omega) rfl
    obtain ⟨m2, rfl, w2⟩ := G 2 c2 (by omega) rfl
    obtain ⟨m3, rfl, w3⟩ := G 3 c3 (by omega) rfl
    obtain ⟨m4, rfl, w4⟩ := G 4 c4 (by omega) rfl
    exact ⟨m0, m1, m2, m3, m4, rfl, w0, w1, w2, w3, w4⟩
end
end Go.Proofs.YtmedlebepgobeaaDoor
