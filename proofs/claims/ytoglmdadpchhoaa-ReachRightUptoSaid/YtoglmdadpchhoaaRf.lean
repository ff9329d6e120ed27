/- Package reach: the document's example. -/
import Derived.Test.YtoglmdadpchhoaaRe
namespace Go.Proofs.Ytoglmdadpchhoaa
open Go.RowKit Go.Shelf

/-- a function that calls one, or none -/
def funE (s : ByteArray) (b : Int) (i : In) : Fn := ⟨s, b, 0, [⟨0, [i], ⟨3, 0, 0, [], 0, []⟩⟩]⟩
def GivenFn (f : Fn) (w : World) (e : Ending) (w' : World) : Prop := ∃ A, e = .returned (.agg #[.string f.s, .int .i64 f.b, .int .i64 f.p, .slice A 1 1]) ∧ Below w.heap.size w w' ∧ Blocks w' (.slice A 1 1) f.l
theorem four_rows (w : World) (o0 o1 o2 o3 : Obj) :
    ((((w.alloc o0).alloc o1).alloc o2).alloc o3).heap[w.heap.size]? = some o0 ∧ ((((w.alloc o0).alloc o1).alloc o2).alloc o3).heap[w.heap.size + 1]? = some o1 ∧
    ((((w.alloc o0).alloc o1).alloc o2).alloc o3).heap[w.heap.size + 1 + 1 + 1]? = some o3 ∧ Below w.heap.size w ((((w.alloc o0).alloc o1).alloc o2).alloc o3) := by
  have k0 := balloc (Below.refl _ w) o0
  have k1 := balloc (Below.refl _ (w.alloc o0)) o1
  have k2 := balloc (Below.refl _ ((w.alloc o0).alloc o1)) o2
  have k3 := balloc (Below.refl _ (((w.alloc o0).alloc o1).alloc o2)) o3
  have e0 := heap_alloc_new w o0
  have e1 := heap_alloc_new (w.alloc o0) o1
  have e3 := heap_alloc_new (((w.alloc o0).alloc o1).alloc o2) o3
  have f0 := (k1.block _ (Array.getElem?_eq_some_iff.1 e0).1).trans e0
  have g0 := (k2.block _ (Array.getElem?_eq_some_iff.1 f0).1).trans f0
  have h0 := (k3.block _ (Array.getElem?_eq_some_iff.1 g0).1).trans g0
  have g1 := (k2.block _ (Array.getElem?_eq_some_iff.1 e1).1).trans e1
  have h1 := (k3.block _ (Array.getElem?_eq_some_iff.1 g1).1).trans g1
  simp only [World.size_alloc] at h1 e3
  exact ⟨h0, h1, e3, bthen (bthen (bthen k0 k1) k2) k3⟩
set_option maxRecDepth 100000 in
set_option maxHeartbeats 8000000 in
theorem fun_none (s : ByteArray) (b : Int) (w : World) : Calls Try.prog 37 #[.string s, .int .i64 b, .string ⟨#[]⟩] w (GivenFn (funE s b ⟨1, 0, 0, 0, ⟨#[]⟩, []⟩) w) := by
  go_enter Try.func37, Try.ntmps37
  go_wp2_with fail
  obtain ⟨i0, i1, i3, hb⟩ := four_rows w (.cells #[.string s, .int .i64 b, .int .i64 0, .slice (some ⟨w.heap.size + 1 + 1 + 1, 0, none⟩) 1 1] 50) (.cells #[.int .i64 1, .int .i64 0, .int .i64 0, .int .u64 0, .string ⟨#[]⟩, .slice none 0 0] 62)
    (.cells #[.int .i64 0, .slice (some ⟨w.heap.size + 1, 0, none⟩) 1 1, .int .i64 3, .int .i64 0, .int .i64 0, .slice none 0 0, .int .i64 0, .slice none 0 0] 67) (.cells #[.int .i64 0, .slice (some ⟨w.heap.size + 1, 0, none⟩) 1 1, .int .i64 3, .int .i64 0, .int .i64 0, .slice none 0 0, .int .i64 0, .slice none 0 0] 67)
  refine bodyPost_ret (results_cell_row Try.results37 _ _ w.heap.size 50 #[.string s, .int .i64 b, .int .i64 0, .slice (some ⟨w.heap.size + 1 + 1 + 1, 0, none⟩) 1 1] (0, 0) _ rfl i0 Try.underlying50 rfl size_Fn) rfl ?_
  refine ⟨_, rfl, hb, .inr ⟨by simp [funE], w.heap.size + 1 + 1 + 1, 0, 1, rfl, (Array.getElem?_eq_some_iff.1 i3).1, fun i hi => ?_⟩⟩
  obtain rfl : i = 0 := by simpa [funE] using hi
  refine ⟨Lib.cell_of_heap i3 0, ⟨some ⟨w.heap.size + 1, 0, none⟩, 1, Lib.cell_of_heap i3 1, .inr ⟨by simp [funE], w.heap.size + 1, 0, 1, rfl, (Array.getElem?_eq_some_iff.1 i1).1, fun j hj => ?_⟩⟩, Lib.cell_of_heap i3 2, Lib.cell_of_heap i3 3, Lib.cell_of_heap i3 4, ⟨none, 0, Lib.cell_of_heap i3 5, .inl ⟨rfl, .inl rfl⟩⟩, Lib.cell_of_heap i3 6, none, 0, Lib.cell_of_heap i3 7, .inl ⟨rfl, .inl rfl⟩⟩
  obtain rfl : j = 0 := by simpa [funE] using hj
  exact ⟨Lib.cell_of_heap i1 0, Lib.cell_of_heap i1 1, Lib.cell_of_heap i1 2, Lib.cell_of_heap i1 3, Lib.cell_of_heap i1 4, none, 0, Lib.cell_of_heap i1 5, .inl ⟨rfl, .inl rfl⟩⟩
set_option maxRecDepth 100000 in
set_option maxHeartbeats 8000000 in
theorem fun_one (s : ByteArray) (b : Int) (w : World) : Calls Try.prog 37 #[.string s, .int .i64 b, .string ⟨#[102]⟩] w (GivenFn (funE s b ⟨14, 0, 0, 0, ⟨#[102]⟩, []⟩) w) := by
  go_enter Try.func37, Try.ntmps37
  go_wp2_with fail
  obtain ⟨i0, i1, i3, hb⟩ := four_rows w (.cells #[.string s, .int .i64 b, .int .i64 0, .slice (some ⟨w.heap.size + 1 + 1 + 1, 0, none⟩) 1 1] 50) (.cells #[.int .i64 14, .int .i64 0, .int .i64 0, .int .u64 0, .string ⟨#[102]⟩, .slice none 0 0] 62)
    (.cells #[.int .i64 0, .slice (some ⟨w.heap.size + 1, 0, none⟩) 1 1, .int .i64 3, .int .i64 0, .int .i64 0, .slice none 0 0, .int .i64 0, .slice none 0 0] 67) (.cells #[.int .i64 0, .slice (some ⟨w.heap.size + 1, 0, none⟩) 1 1, .int .i64 3, .int .i64 0, .int .i64 0, .slice none 0 0, .int .i64 0, .slice none 0 0] 67)
  refine bodyPost_ret (results_cell_row Try.results37 _ _ w.heap.size 50 #[.string s, .int .i64 b, .int .i64 0, .slice (some ⟨w.heap.size + 1 + 1 + 1, 0, none⟩) 1 1] (0, 0) _ rfl i0 Try.underlying50 rfl size_Fn) rfl ?_
  refine ⟨_, rfl, hb, .inr ⟨by simp [funE], w.heap.size + 1 + 1 + 1, 0, 1, rfl, (Array.getElem?_eq_some_iff.1 i3).1, fun i hi => ?_⟩⟩
  obtain rfl : i = 0 := by simpa [funE] using hi
  refine ⟨Lib.cell_of_heap i3 0, ⟨some ⟨w.heap.size + 1, 0, none⟩, 1, Lib.cell_of_heap i3 1, .inr ⟨by simp [funE], w.heap.size + 1, 0, 1, rfl, (Array.getElem?_eq_some_iff.1 i1).1, fun j hj => ?_⟩⟩, Lib.cell_of_heap i3 2, Lib.cell_of_heap i3 3, Lib.cell_of_heap i3 4, ⟨none, 0, Lib.cell_of_heap i3 5, .inl ⟨rfl, .inl rfl⟩⟩, Lib.cell_of_heap i3 6, none, 0, Lib.cell_of_heap i3 7, .inl ⟨rfl, .inl rfl⟩⟩
  obtain rfl : j = 0 := by simpa [funE] using hj
  exact ⟨Lib.cell_of_heap i1 0, Lib.cell_of_heap i1 1, Lib.cell_of_heap i1 2, Lib.cell_of_heap i1 3, Lib.cell_of_heap i1 4, none, 0, Lib.cell_of_heap i1 5, .inl ⟨rfl, .inl rfl⟩⟩
/-- few -/
def fewE (m : Md) : Bool := decide (m.f.length + m.g.length ≤ 40)
set_option maxRecDepth 100000 in
set_option maxHeartbeats 8000000 in
theorem few_any (m : Md) (F G : Option Addr) (nf cf ng cg : Nat) (w : World) (hnf : m.f.length = nf) (hng : m.g.length = ng) (hk : nf + ng ≤ 1048576) :
    Calls Try.prog 20 #[.agg #[.slice F nf cf, .slice G ng cg]] w fun e w' => e = .returned (.bool (fewE m)) ∧ Below w.heap.size w w' := by
  have HE := Lib.hid (show fewE m = decide (nf + ng ≤ 40) by unfold fewE; rw [hnf, hng])
  have n1 : (nf : Int) + ng ≤ 1048576 := by omega
  clear hnf hng
  go_enter Try.func20, Try.ntmps20
  by_cases h : nf + ng ≤ 40
  · have h2 : (nf : Int) + ng ≤ 40 := by omega
    go_wp2_with fail
    go_ret
    exact ⟨by rw [HE.out]; simp [h], balloc (Below.refl _ w) _⟩
  · have h2 : ¬ (nf : Int) + ng ≤ 40 := by omega
    go_wp2_with fail
    go_ret
    exact ⟨by rw [HE.out]; simp [h], balloc (Below.refl _ w) _⟩
end Go.Proofs.Ytoglmdadpchhoaa
