/- The two tables of package enc, as the rows list them, are what the walks ask of memory; and what a law's walk gives its row. What every law's row wants besides its walk: a world in which the tables lie, arguments that read as they read before, and structs of five fields opened to their numbers. -/
import Derived.Test.YtclbkdnihhmglaaDoorCards
import Derived.Test.YtclbkdnihhmglaaDoorTie
import Derived.Test.YtclbkdnihhmglaaDoorZEA
import Derived.ProofKit
import Derived.OpenShut
import Derived.ShutString
import Derived.Deep.DeepHandedRow
import Derived.Deep.Fields
import Derived.Lib.LaidTab
import Derived.Test.YtclbkdnihhmglaaDoorZEC
import Derived.Lib.SmallJoins
import Derived.Deep.Slices
namespace Go.Proofs.YtclbkdnihhmglaaDoor.E
open Go.ChangeShapes Go.WideShapes Go.ChangeAt Go.RowKit Go.Deep

section
variable {H : Type} {enc : TypeId × Value → H} {P : Program} {w : World} {base : Nat} {spare : Nat → Bool} {held : Bool}
/-- a struct of one-cell fields, read: each field's cell with its own reading -/
theorem row_of {t : TypeId} {fs : Array Field} {fuel : Nat} {cs : List Value} {x : DataW H × List MemPlace} (ht : P.underlying t = some (.struct fs)) (hone : oneCellFields P fs = true) (hC : P.cellsOf t = fs.size)
    (h : DataW.trod enc P w base spare held fuel t cs = some x) :
    ∃ (ys : List (DataW H × List MemPlace)) (n : Nat), x.1 = .agg (ys.map (·.1)) ∧ ys.length = fs.size ∧ cs.length = fs.size ∧
      ∀ (j : Nat) (f : Field), fs[j]? = some f → ∃ c y, cs[j]? = some c ∧ ys[j]? = some y ∧ DataW.trod enc P w base spare held n f.type [c] = some y := by
  obtain ⟨ys, n, _, hx, hlen, hyl, hf⟩ := DataW.trod_struct ht h
  refine ⟨ys, n, by rw [hx], hyl, hlen.trans hC, fun j f hj => ?_⟩
  obtain ⟨ho, hk⟩ := hone_of hone j f hj
  have hjl : j < fs.size := (Array.getElem?_eq_some_iff.1 hj).1
  have h1 := hf j f hj
  rw [ho, hk] at h1
  have hcl : j < cs.length := by omega
  have hone' : (cs.drop j).take 1 = [cs[j]] := by
    rw [List.drop_eq_getElem_cons hcl]
    rfl
  rw [hone'] at h1
  exact ⟨_, _, List.getElem?_eq_getElem hcl, List.getElem?_eq_getElem (by omega), h1.trans (List.getElem?_eq_getElem (by omega))⟩
theorem fst_of {ys : List (DataW H × List MemPlace)} {ds : List (DataW H)} (h : (DataW.agg ds : DataW H) = .agg (ys.map (·.1))) {j : Nat} {y : DataW H × List MemPlace} (hy : ys[j]? = some y) : ds[j]? = some y.1 := by
  injection h with h
  rw [h, List.getElem?_map, hy]
  rfl
theorem int_of {t : TypeId} {k : IntKind} {n : Nat} {c : Value} {y : DataW H × List MemPlace} {a : Int} (ht : P.underlying t = some (.int k)) (h : DataW.trod enc P w base spare held n t [c] = some y) (hy : some (DataW.lit (.int k a)) = some y.1) : c = .int k a := by
  obtain ⟨m, hc, hx, _⟩ := DataW.trod_int ht h
  subst hx
  simp at hy hc
  rw [hc, hy]
theorem bool_of {t : TypeId} {n : Nat} {c : Value} {y : DataW H × List MemPlace} {a : Bool} (ht : P.underlying t = some .bool) (h : DataW.trod enc P w base spare held n t [c] = some y) (hy : some (DataW.lit (.bool a)) = some y.1) : c = .bool a := by
  obtain ⟨m, hc, hx⟩ := DataW.trod_bool ht h
  subst hx
  simp at hy hc
  rw [hc, hy]
end
theorem cells54 : Tryd.prog.cellsOf 98 = 4 := by kernel_rfl
theorem cells55 : Tryd.prog.cellsOf 100 = 128 := by kernel_rfl
theorem cells65 : Tryd.prog.cellsOf 119 = 6 := by kernel_rfl
theorem cells66 : Tryd.prog.cellsOf 120 = 48 := by kernel_rfl
def kd {H : Type} (k : Nat) : DataW H := .agg [.lit (.int .i64 (M.fm k)), .lit (.int .u32 (M.op k)), .lit (.int .u32 (M.f3 k)), .lit (.int .u32 (M.f7 k))]
def fd {H : Type} (f : Nat) : DataW H := .agg [.lit (.bool (M.hasRd f)), .lit (.bool (M.hasA f)), .lit (.bool (M.hasB f)), .lit (.int .i64 (M.lo f)), .lit (.int .i64 (M.hi f)), .lit (.int .i64 (M.mu f))]
theorem kinds_are : (Rows.laid_marline_enc_kinds : DataW Unit) = .agg ((List.range 32).map kd) := by kernel_rfl
theorem forms_are : (Rows.laid_marline_enc_forms : DataW Unit) = .agg ((List.range 8).map fd) := by kernel_rfl
section
variable {H : Type} {enc : TypeId × Value → H} {w : World} {base : Nat} {spare : Nat → Bool} {held : Bool}
theorem kind_row {fuel k : Nat} {cs : List Value} {p : List MemPlace} (h : DataW.trod enc Tryd.prog w base spare held fuel 98 cs = some (kd k, p)) :
    cs = [.int .i64 (M.fm k), .int .u32 (M.op k), .int .u32 (M.f3 k), .int .u32 (M.f7 k)] := by
  obtain ⟨ys, n, hx, _, hl, hf⟩ := row_of Tryd.underlying98 (by kernel_rfl) cells54 h
  match cs, hl with
  | [c0, c1, c2, c3], _ =>
    obtain ⟨_, y, e0, hy, ht0⟩ := hf 0 _ rfl
    injection e0 with e0; subst e0
    have r0 := int_of Tryd.underlying3 ht0 (fst_of hx hy)
    obtain ⟨_, y, e0, hy, ht0⟩ := hf 1 _ rfl
    injection e0 with e0; subst e0
    have r1 := int_of Tryd.underlying54 ht0 (fst_of hx hy)
    obtain ⟨_, y, e0, hy, ht0⟩ := hf 2 _ rfl
    injection e0 with e0; subst e0
    have r2 := int_of Tryd.underlying54 ht0 (fst_of hx hy)
    obtain ⟨_, y, e0, hy, ht0⟩ := hf 3 _ rfl
    injection e0 with e0; subst e0
    have r3 := int_of Tryd.underlying54 ht0 (fst_of hx hy)
    rw [r0, r1, r2, r3]
theorem form_row {fuel k : Nat} {cs : List Value} {p : List MemPlace} (h : DataW.trod enc Tryd.prog w base spare held fuel 119 cs = some (fd k, p)) :
    cs = [.bool (M.hasRd k), .bool (M.hasA k), .bool (M.hasB k), .int .i64 (M.lo k), .int .i64 (M.hi k), .int .i64 (M.mu k)] := by
  obtain ⟨ys, n, hx, _, hl, hf⟩ := row_of Tryd.underlying119 (by kernel_rfl) cells65 h
  match cs, hl with
  | [c0, c1, c2, c3, c4, c5], _ =>
    obtain ⟨_, y, e0, hy, ht0⟩ := hf 0 _ rfl
    injection e0 with e0; subst e0
    have r0 := bool_of Tryd.underlying4 ht0 (fst_of hx hy)
    obtain ⟨_, y, e0, hy, ht0⟩ := hf 1 _ rfl
    injection e0 with e0; subst e0
    have r1 := bool_of Tryd.underlying4 ht0 (fst_of hx hy)
    obtain ⟨_, y, e0, hy, ht0⟩ := hf 2 _ rfl
    injection e0 with e0; subst e0
    have r2 := bool_of Tryd.underlying4 ht0 (fst_of hx hy)
    obtain ⟨_, y, e0, hy, ht0⟩ := hf 3 _ rfl
    injection e0 with e0; subst e0
    have r3 := int_of Tryd.underlying2 ht0 (fst_of hx hy)
    obtain ⟨_, y, e0, hy, ht0⟩ := hf 4 _ rfl
    injection e0 with e0; subst e0
    have r4 := int_of Tryd.underlying2 ht0 (fst_of hx hy)
    obtain ⟨_, y, e0, hy, ht0⟩ := hf 5 _ rfl
    injection e0 with e0; subst e0
    have r5 := int_of Tryd.underlying2 ht0 (fst_of hx hy)
    rw [r0, r1, r2, r3, r4, r5]
theorem in_row {cs : List Value} {i m j : Nat} {l : List Value} {u : Value} (h : (cs.drop (i * m)).take m = l) (hl : l[j]? = some u) (hj : j < m) : cs[i * m + j]? = some u := by
  rw [← h, List.getElem?_take, if_pos hj, List.getElem?_drop] at hl
  exact hl
theorem kind_tab {fuel : Nat} {cs : List Value} {p : List MemPlace} (h : DataW.trod enc Tryd.prog w base spare held fuel 100 cs = some (.agg ((List.range 32).map kd), p)) (k : Nat) (hk : k < 32) :
    (cs.drop (k * 4)).take 4 = [.int .i64 (M.fm k), .int .u32 (M.op k), .int .u32 (M.f3 k), .int .u32 (M.f7 k)] := by
  obtain ⟨xs, m, _, hx, hlen, hxl, hat⟩ := DataW.trod_array Tryd.underlying100 h
  have h1 := hat k hk
  rw [cells54] at h1
  have hg : xs[k]? = some xs[k] := List.getElem?_eq_getElem (by omega)
  have hf := fst_of (ds := (List.range 32).map kd) (ys := xs) (by injection hx) hg
  have he : kd k = xs[k].1 := by simpa [hk] using hf
  rw [hg, show xs[k] = (kd k, xs[k].2) by rw [he]] at h1
  exact kind_row h1
theorem form_tab {fuel : Nat} {cs : List Value} {p : List MemPlace} (h : DataW.trod enc Tryd.prog w base spare held fuel 120 cs = some (.agg ((List.range 8).map fd), p)) (k : Nat) (hk : k < 8) :
    (cs.drop (k * 6)).take 6 = [.bool (M.hasRd k), .bool (M.hasA k), .bool (M.hasB k), .int .i64 (M.lo k), .int .i64 (M.hi k), .int .i64 (M.mu k)] := by
  obtain ⟨xs, m, _, hx, hlen, hxl, hat⟩ := DataW.trod_array Tryd.underlying120 h
  have h1 := hat k hk
  rw [cells65] at h1
  have hg : xs[k]? = some xs[k] := List.getElem?_eq_getElem (by omega)
  have hf := fst_of (ds := (List.range 8).map fd) (ys := xs) (by injection hx) hg
  have he : fd k = xs[k].1 := by simpa [hk] using hf
  rw [hg, show xs[k] = (fd k, xs[k].2) by rw [he]] at h1
  exact form_row h1
end
theorem gKinds : Tryd.prog.globalNamed "marline/enc.kinds" = some 0 := by kernel_rfl
theorem gKindsType : (Tryd.prog.globals[0]?).map (·.type) = some 100 := by kernel_rfl
theorem gForms : Tryd.prog.globalNamed "marline/enc.forms" = some 1 := by kernel_rfl
theorem gFormsType : (Tryd.prog.globals[1]?).map (·.type) = some 120 := by kernel_rfl

/-- what the rows' list gives: the tables lie as the walks ask -/
theorem tabs_of {W : World} (h : laidMetH Tryd.prog [("marline/enc.forms", Rows.laid_marline_enc_forms), ("marline/enc.kinds", Rows.laid_marline_enc_kinds)] W) : Tabs W := by
  have h0 : laidMet Tryd.prog [("marline/enc.forms", Rows.laid_marline_enc_forms), ("marline/enc.kinds", Rows.laid_marline_enc_kinds)] W := h
  obtain ⟨ps, ⟨g, t, cs, fuel, p, q, hg, ht, hvar, hd, ⟨g', t', cs', fuel', p', q', hg', ht', hvar', hd', _⟩, _⟩, _⟩ := h0
  obtain rfl := Option.some.inj (gForms.symm.trans hg)
  obtain rfl := Option.some.inj (gFormsType.symm.trans ht)
  obtain rfl := Option.some.inj (gKinds.symm.trans hg')
  obtain rfl := Option.some.inj (gKindsType.symm.trans ht')
  have vf := World.var?_cell gForms hvar
  have vk := World.var?_cell gKinds hvar'
  rw [forms_are] at hd
  rw [kinds_are] at hd'
  have hk := fun k hk => kind_tab hd' k hk
  have hf := fun k hk => form_tab hd k hk
  have K : ∀ (k j : Nat) (u : Value), k < 32 → j < 4 → [Value.int .i64 (M.fm k), .int .u32 (M.op k), .int .u32 (M.f3 k), .int .u32 (M.f7 k)][j]? = some u → W.cell? ⟨0, k * 4 + j, none⟩ = some u := fun k j u h1 h2 h3 => by
    rw [vk, ← Array.getElem?_toList]
    exact in_row (hk k h1) h3 h2
  have F : ∀ (k j : Nat) (u : Value), k < 8 → j < 6 → [Value.bool (M.hasRd k), .bool (M.hasA k), .bool (M.hasB k), .int .i64 (M.lo k), .int .i64 (M.hi k), .int .i64 (M.mu k)][j]? = some u → W.cell? ⟨1, k * 6 + j, none⟩ = some u := fun k j u h1 h2 h3 => by
    rw [vf, ← Array.getElem?_toList]
    exact in_row (hf k h1) h3 h2
  exact ⟨World.block_lt_of_cell? W _ (F 0 0 _ (by omega) (by omega) rfl), fun k h => K k 0 _ h (by omega) rfl, fun k h => K k 1 _ h (by omega) rfl, fun k h => K k 2 _ h (by omega) rfl, fun k h => K k 3 _ h (by omega) rfl,
    fun k h => F k 0 _ h (by omega) rfl, fun k h => F k 1 _ h (by omega) rfl, fun k h => F k 2 _ h (by omega) rfl, fun k h => F k 3 _ h (by omega) rfl, fun k h => F k 4 _ h (by omega) rfl, fun k h => F k 5 _ h (by omega) rfl⟩
end Go.Proofs.YtclbkdnihhmglaaDoor.E

namespace Go.Proofs.YtclbkdnihhmglaaDoor.E
open Go.ChangeShapes Go.WideShapes Go.ChangeAt Go.RowKit Go.Deep Go.Joins

theorem own : ownKnob Tryd.prog.godebug = none := by kernel_rfl
theorem laidOut : laidOutB Tryd.prog = true := by kernel_rfl
theorem cells23 : Tryd.prog.cellsOf 35 = 5 := by kernel_rfl

def kindCells : Array Value := #[.int .i64 0, .int .u32 0, .int .u32 0, .int .u32 0, .int .i64 0, .int .u32 51, .int .u32 0, .int .u32 0, .int .i64 0, .int .u32 51, .int .u32 0, .int .u32 32, .int .i64 0, .int .u32 51, .int .u32 1, .int .u32 0, .int .i64 0, .int .u32 51, .int .u32 3, .int .u32 0, .int .i64 0, .int .u32 51, .int .u32 4, .int .u32 0, .int .i64 0, .int .u32 51, .int .u32 5, .int .u32 0, .int .i64 0, .int .u32 51, .int .u32 6, .int .u32 0, .int .i64 0, .int .u32 51, .int .u32 7, .int .u32 0, .int .i64 0, .int .u32 51, .int .u32 0, .int .u32 1, .int .i64 0, .int .u32 51, .int .u32 5, .int .u32 1, .int .i64 0, .int .u32 51, .int .u32 7, .int .u32 1, .int .i64 1, .int .u32 19, .int .u32 0, .int .u32 0, .int .i64 1, .int .u32 19, .int .u32 3, .int .u32 0, .int .i64 1, .int .u32 19, .int .u32 4, .int .u32 0, .int .i64 1, .int .u32 19, .int .u32 6, .int .u32 0, .int .i64 1, .int .u32 19, .int .u32 7, .int .u32 0, .int .i64 2, .int .u32 19, .int .u32 1, .int .u32 0, .int .i64 2, .int .u32 19, .int .u32 5, .int .u32 0, .int .i64 1, .int .u32 3, .int .u32 3, .int .u32 0, .int .i64 1, .int .u32 3, .int .u32 4, .int .u32 0, .int .i64 3, .int .u32 35, .int .u32 3, .int .u32 0, .int .i64 3, .int .u32 35, .int .u32 0, .int .u32 0, .int .i64 4, .int .u32 99, .int .u32 0, .int .u32 0, .int .i64 4, .int .u32 99, .int .u32 1, .int .u32 0, .int .i64 4, .int .u32 99, .int .u32 6, .int .u32 0, .int .i64 4, .int .u32 99, .int .u32 7, .int .u32 0, .int .i64 5, .int .u32 55, .int .u32 0, .int .u32 0, .int .i64 5, .int .u32 23, .int .u32 0, .int .u32 0, .int .i64 6, .int .u32 111, .int .u32 0, .int .u32 0, .int .i64 1, .int .u32 103, .int .u32 0, .int .u32 0, .int .i64 7, .int .u32 115, .int .u32 0, .int .u32 0]
def formCells : Array Value := #[.bool true, .bool true, .bool true, .int .i64 (0), .int .i64 (0), .int .i64 (1), .bool true, .bool true, .bool false, .int .i64 (-2048), .int .i64 (2047), .int .i64 (1), .bool true, .bool true, .bool false, .int .i64 (0), .int .i64 (63), .int .i64 (1), .bool false, .bool true, .bool true, .int .i64 (-2048), .int .i64 (2047), .int .i64 (1), .bool false, .bool true, .bool true, .int .i64 (-4096), .int .i64 (4094), .int .i64 (2), .bool true, .bool false, .bool false, .int .i64 (-2147483648), .int .i64 (2147479552), .int .i64 (4096), .bool true, .bool false, .bool false, .int .i64 (-1048576), .int .i64 (1048574), .int .i64 (2), .bool false, .bool false, .bool false, .int .i64 (0), .int .i64 (0), .int .i64 (1)]
def setCells (cs : Array Value) : Obj → Obj
  | .cells _ t frozen => .cells cs t frozen
  | o => o
noncomputable def laidWorld (os : Os) : World :=
  { World.holding Tryd.prog os ⟨#[], #[], []⟩ with heap := ((World.holding Tryd.prog os ⟨#[], #[], []⟩).heap.modify 0 (setCells kindCells)).modify 1 (setCells formCells) }

section
variable {H : Type} {enc : TypeId × Value → H}
/-- the arguments read behind the call as they read before -/
theorem trodAll_below {W W' : World} (bel : Below W.heap.size W W') : ∀ (ts : List TypeId) (vs : List Value) (ds : List (DataW H)) (p : List MemPlace),
    (∀ t ∈ ts, Tryd.prog.readableRec t = true ∧ t < Tryd.prog.types.size) → DataW.TrodAll enc Tryd.prog W 0 (fun _ => true) true ts vs ds p → (∀ x ∈ p, x.block < W.heap.size) →
    DataW.TrodAll enc Tryd.prog W' 0 (fun b => decide (b < W.heap.size)) true ts vs ds p := by
  intro ts
  induction ts with
  | nil =>
    intro vs ds p _ h _
    obtain ⟨rfl, rfl, rfl⟩ := trodAll_nil h
    exact trodAll_mk0
  | cons t ts ih =>
    intro vs ds p ht h hp
    obtain ⟨v, vs', d, ds', p1, p2, rfl, rfl, rfl, h1, h2⟩ := trodAll_cons h
    have ht1 := ht t (by simp)
    exact trodAll_cons_mk (Below.trod laidOut ht1.1 ht1.2 h1 bel (fun x hx => hp x (by simp [hx]))) (ih vs' ds' p2 (fun t ht' => ht t (by simp [ht'])) h2 (fun x hx => hp x (by simp [hx])))
/-- the row's last step, of every law -/
theorem law_post {f : Func} {s : ChangeSpec} {W W' : World} {args : Array Value} {ds gs : List (DataW H)} {before : List MemPlace} (hv : s.vars = []) (hr : f.resultTypes = #[4])
    (ht : ∀ t ∈ f.params.toList, Tryd.prog.readableRec t = true ∧ t < Tryd.prog.types.size)
    (hW : DataW.Whole enc Tryd.prog f.params.toList s.vars false W args.toList ds gs before) (bel : Below W.heap.size W W')
    (h1 : (s.fn H (ds ++ gs)).results = [.lit (.bool true)]) (h2 : (s.fn H (ds ++ gs)).args = ds) (h3 : (s.fn H (ds ++ gs)).vars = []) :
    s.post enc Tryd.prog f false true false false W args (.bool true) W' := by
  have hlt : ∀ p ∈ before, p.block < W.heap.size := fun p hp => hW.lt p hp
  have hW' := hW
  obtain ⟨p, q, hA, hV, rfl, _, _⟩ := hW
  refine ⟨ds, gs, p ++ q, [], p, [], hW', ?_, ?_, ?_, bel.frame _, fun h => by cases h⟩
  · rw [h1, hr]
    exact trodAll_mk1 (shut_bool Tryd.underlying4 _)
  · rw [h2]
    exact trodAll_below bel _ _ _ _ ht hA (fun x hx => hlt x (by simp [hx]))
  · rw [h3, hv]
    rfl

set_option maxRecDepth 100000 in
/-- a struct of five numbers, by value -/
theorem open_five {W : World} {r : Reach} {b0 base : Nat} {spare : Nat → Bool} {held : Bool} {t : TypeId} {fs : Array Field} {v : Value} {d : DataW H} {p : List MemPlace} (hs : Tryd.prog.underlying t = some (.struct fs)) (hone : oneCellFields Tryd.prog fs = true)
    (h5 : fs.size = 5) (hC : Tryd.prog.cellsOf t = 5) (hi : ∀ (j : Nat) (f : Field), fs[j]? = some f → Tryd.prog.underlying f.type = some (.int .i64))
    (hv : Value.okWide Tryd.prog W r b0 t v) (h : DataW.Trod enc Tryd.prog W base spare held t v d p) :
    ∃ k rd a b n : Int, v = .agg #[.int .i64 k, .int .i64 rd, .int .i64 a, .int .i64 b, .int .i64 n] ∧
      ((Lit.int .i64 k).wf = true ∧ (Lit.int .i64 rd).wf = true ∧ (Lit.int .i64 a).wf = true ∧ (Lit.int .i64 b).wf = true ∧ (Lit.int .i64 n).wf = true) := by
  obtain ⟨cs, rfl, hsz⟩ := okWide_struct hs hv
  obtain ⟨l⟩ := cs
  match l, hsz.trans hC with
  | [c0, c1, c2, c3, c4], _ =>
    obtain ⟨fuel, hf⟩ := h
    obtain ⟨ys, n, _, _, _, hg⟩ := row_of hs hone (hC.trans h5.symm) hf
    have G : ∀ (j : Nat) (c : Value), j < 5 → [c0, c1, c2, c3, c4][j]? = some c → ∃ m : Int, c = .int .i64 m ∧ (Lit.int .i64 m).wf = true := fun j c hj hc => by
      have hfj : fs[j]? = some fs[j] := Array.getElem?_eq_getElem (by omega)
      obtain ⟨c', y, e1, _, e3⟩ := hg j _ hfj
      obtain rfl : c = c' := Option.some.inj (hc.symm.trans e1)
      obtain ⟨m, hm, _, hw⟩ := DataW.trod_int (hi j _ hfj) e3
      exact ⟨m, by simpa using hm, hw⟩
    obtain ⟨m0, rfl, w0⟩ := G 0 c0 (by omega) rfl
    obtain ⟨m1, rfl, w1⟩ := G 1 c1 (by omega) rfl
    obtain ⟨m2, rfl, w2⟩ := G 2 c2 (by omega) rfl
    obtain ⟨m3, rfl, w3⟩ := G 3 c3 (by omega) rfl
    obtain ⟨m4, rfl, w4⟩ := G 4 c4 (by omega) rfl
    exact ⟨m0, m1, m2, m3, m4, rfl, w0, w1, w2, w3, w4⟩
end
end Go.Proofs.YtclbkdnihhmglaaDoor.E
