/- Package eval: a run, and how it lies in memory. Package eval: how a run in memory changes. Package eval: a step is counted; the next byte is read. -/
import Derived.Test.YtkalgiaapkjplaaV1
import Derived.Test.YtkalgiaapkjplaaK5
import Derived.Deep.AppendLies
import Derived.Laws.MakeOwn
import Derived.Test.YtkalgiaapkjplaaJ6
namespace Go.Proofs.Ytkalgiaapkjplaa
open Go.RowKit

/-- a call that is open -/
structure Cl where
  bs : List Bk
  k : Nat
  nx : Nat
  vs : List Int
/-- what a run has come to -/
structure Rs where
  en : Bool
  co : Int
  read : Nat
  steps : Nat
  deep : Nat
  out : List Int
  gl : ByteArray → Int
  cs : List Cl
/-- a call as it lies in memory -/
structure Gc where
  c : Cl
  bv : Value
  g : Nat
  cap : Nat
def u64s (l : List Int) : List Value := l.map (Value.int .u64)
def gcV (x : Gc) : List Value := [x.bv, .int .i64 x.c.k, .int .i64 x.c.nx, .slice (some ⟨x.g, 0, none⟩) x.c.vs.length x.cap]
def gcsV (l : List Gc) : List Value := l.flatMap gcV
theorem gcsV_length : ∀ l : List Gc, (gcsV l).length = l.length * 4
  | [] => rfl
  | x :: l => by
    have := gcsV_length l
    unfold gcsV at this ⊢
    rw [List.flatMap_cons, List.length_append, this, List.length_cons]
    simp only [gcV, List.length_cons, List.length_nil]
    omega
theorem gcsV_snoc (l : List Gc) (x : Gc) : gcsV (l ++ [x]) = gcsV l ++ gcV x := by simp [gcsV]
theorem gcsV_at (l : List Gc) (x : Gc) (j : Nat) : (gcsV (l ++ [x]))[l.length * 4 + j]? = (gcV x)[j]? := by
  rw [gcsV_snoc, List.getElem?_append_right (by rw [gcsV_length]; omega), gcsV_length, Nat.add_sub_cancel_left]
theorem gcsV_set (l : List Gc) (x : Gc) (j : Nat) (v : Value) : (gcsV (l ++ [x])).set (l.length * 4 + j) v = gcsV l ++ (gcV x).set j v := by
  rw [gcsV_snoc, List.set_append_right _ _ (by rw [gcsV_length]; omega), gcsV_length, Nat.add_sub_cancel_left]

/-- slices as they are, in a map -/
def slR : Value → Option (DataW Value × List MemPlace)
  | .slice a n c => some (.held (.slice a n c), [])
  | _ => none
theorem slR_inv {v u : Value} {ps : List MemPlace} (h : slR v = some (.held u, ps)) : v = u := by
  unfold slR at h
  split at h
  · simp only [Option.some.injEq, Prod.mk.injEq, DataW.held.injEq] at h
    exact h.1
  · cases h
/-- numbers in a map -/
def nuR : Value → Option (DataW Value × List MemPlace)
  | .int .u64 x => some (.lit (.int .u64 x), [])
  | _ => none
theorem nuR_inv {v : Value} {x : Int} {ps : List MemPlace} (h : nuR v = some (.lit (.int .u64 x), ps)) : v = .int .u64 x := by
  unfold nuR at h
  split at h
  · simp only [Option.some.injEq, Prod.mk.injEq, DataW.lit.injEq, Lit.int.injEq, true_and] at h
    rw [h.1]
  · cases h
/-- where a run lies -/
structure Lay where
  ov : Value
  fm : Nat
  gm : Nat
  fn : Nat
  gn : Nat
  FD : DataW Value
  GD : DataW Value
  opv : Value
  gs : List Gc
  lab : Nat → Nat
def rcells (inp : ByteArray) (L : Lay) (s : Rs) : Array Value :=
  #[.bool s.en, .int .u64 s.co, .string ⟨#[]⟩, .int .i64 s.read, .int .i64 s.steps, .int .i64 s.deep, L.ov, .string inp, .map (some L.fm), .map (some L.gm), L.opv]
/-- a run that lies in memory: block R, beside what it owns; each block has a label, others have 0 -/
structure RunOk (W0 : World) (m : Md) (inp : ByteArray) (R : Nat) (L : Lay) (s : Rs) (W : World) : Prop where
  bel : Below W0.heap.size W0 W
  low : ∀ k, k < W0.heap.size → L.lab k = 0
  high : ∀ k, W.heap.size ≤ k → L.lab k = 0
  tR : L.lab R = 1
  hR : W.heap[R]? = some (.cells (rcells inp L s) 102 (0, 0))
  hout : W.ownsRow 0 5 1 L.ov s.out.length (s.out.map (Value.int .u8))
  tout : ∀ g, L.ov.ownBlock = some g → L.lab g = 5
  hf : W.ownsMap Try.prog 9 slR L.fm L.fn L.FD
  tf : L.lab L.fm = 2
  hg : W.ownsMap Try.prog 9 nuR L.gm L.gn L.GD
  tg : L.lab L.gm = 3
  gn : L.gn ≤ 1000 + s.steps
  hop : W.ownsRow 0 134 4 L.opv L.gs.length (gcsV L.gs)
  top : ∀ g, L.opv.ownBlock = some g → L.lab g = 4
  hv : ∀ i (h : i < L.gs.length), W.ownsRow 0 41 1 (.slice (some ⟨L.gs[i].g, 0, none⟩) L.gs[i].c.vs.length L.gs[i].cap) L.gs[i].c.vs.length (u64s L.gs[i].c.vs) ∧ L.lab L.gs[i].g = i + 6
  hb : ∀ x ∈ L.gs, Blocks W0 x.bv x.c.bs ∧ ∃ b, x.c.bs[x.c.k]? = some b ∧ (x.cap : Int) = b.p + b.i.length
  hcs : s.cs = (L.gs.map (·.c)).reverse
  fF : ∀ f ∈ m.f, ∃ A cap, (∀ z, L.FD.atKey (slit f.s) z = .held (.slice A f.l.length cap)) ∧ Blocks W0 (.slice A f.l.length cap) f.l
  gF : ∀ n, L.GD.atKey (slit n) (.lit (.int .u64 0)) = .lit (.int .u64 (s.gl n))
/-- what is no part of a run stays -/
def Fr (L : Lay) (W W' : World) (L' : Lay) : Prop := W.heap.size ≤ W'.heap.size ∧ ∀ k, k < W.heap.size → L.lab k = 0 → W'.heap[k]? = W.heap[k]? ∧ L'.lab k = 0
theorem Fr.refl (L : Lay) (W : World) : Fr L W W L := ⟨Nat.le_refl _, fun _ _ h => ⟨rfl, h⟩⟩
theorem Fr.trans {L L1 L2 : Lay} {W W1 W2 : World} (h : Fr L W W1 L1) (k : Fr L1 W1 W2 L2) : Fr L W W2 L2 :=
  ⟨Nat.le_trans h.1 k.1, fun j hj h0 => by
    obtain ⟨a, b⟩ := h.2 j hj h0
    obtain ⟨c, d⟩ := k.2 j (Nat.lt_of_lt_of_le hj h.1) b
    exact ⟨c.trans a, d⟩⟩
theorem own_same {W W' : World} {base : Nat} {e : TypeId} {size : Nat} {v : Value} {n : Nat} {xs : List Value} (h : W.ownsRow base e size v n xs) (hs : ∀ g, v.ownBlock = some g → g < W.heap.size → W'.heap[g]? = W.heap[g]?) : W'.ownsRow base e size v n xs := by
  refine ⟨h.1, ?_⟩
  rcases h.2 with hn | ⟨g, cap, cur, rfl, hb, hgg, rest⟩
  · exact .inl hn
  · exact .inr ⟨g, cap, cur, rfl, hb, (hs g rfl (Array.getElem?_eq_some_iff.1 hgg).1).trans hgg, rest⟩
theorem map_same {H : Type} {P : Program} {k : TypeId} {r : Value → Option (DataW H × List MemPlace)} {W W' : World} {b n : Nat} {D : DataW H} (h : W.ownsMap P k r b n D) (hs : b < W.heap.size → W'.heap[b]? = W.heap[b]?) : W'.ownsMap P k r b n D := by
  have hlt := h.lt
  obtain ⟨es, clock, hb, F, hz, hD⟩ := h
  exact ⟨es, clock, (hs hlt).trans hb, F, hz, hD⟩
section
variable {W0 : World} {m : Md} {inp : ByteArray} {R : Nat} {L : Lay} {s : Rs} {W : World}
theorem RunOk.base (h : RunOk W0 m inp R L s W) {k : Nat} (hk : L.lab k ≠ 0) : W0.heap.size ≤ k := by
  rcases Nat.lt_or_ge k W0.heap.size with h1 | h1
  · exact absurd (h.low k h1) hk
  · exact h1
theorem RunOk.lt (h : RunOk W0 m inp R L s W) {k : Nat} (hk : L.lab k ≠ 0) : k < W.heap.size := by
  rcases Nat.lt_or_ge k W.heap.size with h1 | h1
  · exact h1
  · exact absurd (h.high k h1) hk
/-- new blocks, draws -/
theorem RunOk.quiet (h : RunOk W0 m inp R L s W) {W' : World} (hg : Below W.heap.size W W') : RunOk W0 m inp R L s W' := by
  have q : ∀ k, k < W.heap.size → W'.heap[k]? = W.heap[k]? := fun k hk => hg.block k hk
  exact { bel := bthen h.bel hg, low := h.low, high := fun k hk => h.high k (Nat.le_trans hg.size hk), tR := h.tR, hR := (q R (Array.getElem?_eq_some_iff.1 h.hR).1).trans h.hR, hout := own_same h.hout (fun g _ => q g), tout := h.tout, hf := map_same h.hf (q _), tf := h.tf, hg := map_same h.hg (q _), tg := h.tg, gn := h.gn, hop := own_same h.hop (fun g _ => q g), top := h.top, hv := fun i hi => ⟨own_same (h.hv i hi).1 (fun g _ => q g), (h.hv i hi).2⟩, hb := h.hb, hcs := h.hcs, fF := h.fF, gF := h.gF }
theorem fr_quiet {W' : World} (hg : Below W.heap.size W W') : Fr L W W' L :=
  ⟨hg.size, fun k hk h0 => ⟨hg.block k hk, h0⟩⟩
/-- only what stands in the run's own block changes: numbers -/
theorem RunOk.setR (h : RunOk W0 m inp R L s W) {W' : World} {s' : Rs} (hg : W.grownBy W' (some R)) (hR : W'.heap[R]? = some (.cells (rcells inp L s') 102 (0, 0)))
    (h1 : s'.out = s.out) (h2 : s'.gl = s.gl) (h3 : s'.cs = s.cs) (h4 : s.steps ≤ s'.steps) : RunOk W0 m inp R L s' W' ∧ Fr L W W' L := by
  have q : ∀ k, k < W.heap.size → L.lab k ≠ 1 → W'.heap[k]? = W.heap[k]? := fun k hk hl => hg.block k hk (fun e => hl (by cases e; exact h.tR))
  have hB : W0.heap.size ≤ R := h.base (by rw [h.tR]; decide)
  refine ⟨{ bel := h.bel.trans ⟨hg.os, hg.tape, hg.output, hg.size, fun k hk => hg.block k (Nat.lt_of_lt_of_le hk h.bel.size) (fun e => by cases e; omega)⟩, low := h.low, high := fun k hk => h.high k (Nat.le_trans hg.size hk), tR := h.tR, hR := hR, hout := ?_, tout := h.tout, hf := map_same h.hf (fun hk => q _ hk (by rw [h.tf]; decide)), tf := h.tf, hg := map_same h.hg (fun hk => q _ hk (by rw [h.tg]; decide)), tg := h.tg, gn := Nat.le_trans h.gn (by omega), hop := own_same h.hop (fun g hg' hk => q g hk (by rw [h.top g hg']; decide)), top := h.top, hv := fun i hi => ⟨own_same (h.hv i hi).1 (fun g hg' hk => q g hk (by cases hg'; rw [(h.hv i hi).2]; omega)), (h.hv i hi).2⟩, hb := h.hb, hcs := h3.trans h.hcs, fF := h.fF, gF := fun n => by rw [h2]; exact h.gF n },
    hg.size, fun k hk h0 => ⟨q k hk (by omega), h0⟩⟩
  rw [h1]
  exact own_same h.hout (fun g hg' hk => q g hk (by rw [h.tout g hg']; decide))
/-- a global changes -/
theorem RunOk.setG (h : RunOk W0 m inp R L s W) {W' : World} (n : ByteArray) (v : Int) (hst : L.gn < 1000 + s.steps) (hg : W.grownBy W' (some L.gm)) (hM : W'.ownsMap Try.prog 9 nuR L.gm (L.gn + 1) (L.GD.put (slit n) (.lit (.int .u64 v)))) :
    RunOk W0 m inp R { L with GD := L.GD.put (slit n) (.lit (.int .u64 v)), gn := L.gn + 1 } { s with gl := fun x => if x = n then v else s.gl x } W' ∧ Fr L W W' { L with GD := L.GD.put (slit n) (.lit (.int .u64 v)), gn := L.gn + 1 } := by
  have q : ∀ k, k < W.heap.size → L.lab k ≠ 3 → W'.heap[k]? = W.heap[k]? := fun k hk hl => hg.block k hk (fun e => hl (by cases e; exact h.tg))
  have hB : W0.heap.size ≤ L.gm := h.base (by rw [h.tg]; decide)
  refine ⟨{ bel := h.bel.trans ⟨hg.os, hg.tape, hg.output, hg.size, fun k hk => hg.block k (Nat.lt_of_lt_of_le hk h.bel.size) (fun e => by cases e; omega)⟩, low := h.low, high := fun k hk => h.high k (Nat.le_trans hg.size hk), tR := h.tR, hR := (q R (Array.getElem?_eq_some_iff.1 h.hR).1 (by rw [h.tR]; decide)).trans h.hR, hout := own_same h.hout (fun g hg' hk => q g hk (by rw [h.tout g hg']; decide)), tout := h.tout, hf := map_same h.hf (fun hk => q _ hk (by rw [h.tf]; decide)), tf := h.tf, hg := hM, tg := h.tg, gn := hst, hop := own_same h.hop (fun g hg' hk => q g hk (by rw [h.top g hg']; decide)), top := h.top, hv := fun i hi => ⟨own_same (h.hv i hi).1 (fun g hg' hk => q g hk (by cases hg'; rw [(h.hv i hi).2]; omega)), (h.hv i hi).2⟩, hb := h.hb, hcs := h.hcs, fF := h.fF, gF := fun x => ?_ },
    hg.size, fun k hk h0 => ⟨q k hk (by omega), h0⟩⟩
  by_cases hx : x = n
  · subst hx
    simp only [if_true]
    exact Maps.atKey_put_same h.hg.isMap (slit_key _) _ _
  · simp only [if_neg hx]
    rw [Maps.atKey_put_other (fun e => hx (by rw [slit_inj e]))]
    exact h.gF x
end
end Go.Proofs.Ytkalgiaapkjplaa

namespace Go.Proofs.Ytkalgiaapkjplaa
open Go.RowKit

def relab (L : Lay) (g t : Nat) : Nat → Nat := fun k => if k = g then t else L.lab k
section
variable {W0 : World} {m : Md} {inp : ByteArray} {R : Nat} {L : Lay} {s : Rs} {W : World}
theorem relab_self (g t : Nat) : relab L g t g = t := if_pos rfl
theorem relab_ne (h : RunOk W0 m inp R L s W) {g t k : Nat} (hat : L.lab g = t ∨ W.heap.size ≤ g) (h0 : L.lab k ≠ 0) (h1 : L.lab k ≠ t) : relab L g t k = L.lab k := by
  refine if_neg (fun e => ?_)
  subst e
  rcases hat with hat | hat
  · exact h1 hat
  · exact h0 (h.high _ hat)
theorem relab_zero {g t k : Nat} (ht : t ≠ 0) (hat : L.lab g = t ∨ W.heap.size ≤ g) (hk : k < W.heap.size) (h0 : L.lab k = 0) : relab L g t k = 0 := by
  unfold relab
  rw [if_neg (fun e => ?_), h0]
  subst e
  rcases hat with hat | hat
  · exact ht (hat.symm.trans h0)
  · omega
theorem relab_low (h : RunOk W0 m inp R L s W) {g t k : Nat} (ht : t ≠ 0) (hat : L.lab g = t ∨ W.heap.size ≤ g) (hk : k < W0.heap.size) : relab L g t k = 0 :=
  relab_zero ht hat (Nat.lt_of_lt_of_le hk h.bel.size) (h.low k hk)
theorem relab_high (h : RunOk W0 m inp R L s W) {g t k N : Nat} (hg : g < N) (hN : W.heap.size ≤ N) (hk : N ≤ k) : relab L g t k = 0 := by
  unfold relab
  rw [if_neg (by omega), h.high k (by omega)]
/-- a byte more is written -/
theorem RunOk.setOut (h : RunOk W0 m inp R L s W) {W1 : World} {g cap : Nat} {x : Int} (hg : W.grownBy W1 L.ov.ownBlock) (ho : W1.ownsRow 0 5 1 (.slice (some ⟨g, 0, none⟩) (s.out.length + 1) cap) (s.out.length + 1) (s.out.map (Value.int .u8) ++ [.int .u8 x]))
    (hat : L.ov.ownBlock = some g ∨ g = W.heap.size) (hlt : g < W1.heap.size) :
    RunOk W0 m inp R { L with ov := .slice (some ⟨g, 0, none⟩) (s.out.length + 1) cap, lab := relab L g 5 } { s with out := s.out ++ [x] } (W1.setCell ⟨R, 6, none⟩ (.slice (some ⟨g, 0, none⟩) (s.out.length + 1) cap)) ∧
      Fr L W (W1.setCell ⟨R, 6, none⟩ (.slice (some ⟨g, 0, none⟩) (s.out.length + 1) cap)) { L with ov := .slice (some ⟨g, 0, none⟩) (s.out.length + 1) cap, lab := relab L g 5 } := by
  have hat' : L.lab g = 5 ∨ W.heap.size ≤ g := hat.elim (fun e => .inl (h.tout g e)) (fun e => .inr (by omega))
  have hRl : R < W.heap.size := (Array.getElem?_eq_some_iff.1 h.hR).1
  have hB : W0.heap.size ≤ R := h.base (by rw [h.tR]; decide)
  have q1 : ∀ k, k < W.heap.size → L.lab k ≠ 5 → W1.heap[k]? = W.heap[k]? := fun k hk hl => hg.block k hk (fun e => hl (h.tout k e.symm))
  have hR1 : W1.heap[R]? = some (.cells (rcells inp L s) 102 (0, 0)) := (q1 R hRl (by rw [h.tR]; decide)).trans h.hR
  have hgR : g ≠ R := fun e => by subst e; rcases hat' with h1 | h1; · rw [h.tR] at h1; cases h1
                                  · omega
  obtain ⟨V, hV⟩ : ∃ V, Value.slice (some ⟨g, 0, none⟩) (s.out.length + 1) cap = V := ⟨_, rfl⟩
  have hVb : V.ownBlock = some g := by rw [← hV]; rfl
  rw [hV] at ho ⊢
  have q2 : ∀ k, k ≠ R → (W1.setCell ⟨R, 6, none⟩ V).heap[k]? = W1.heap[k]? := fun k hk => heap_setCell_other W1 ⟨R, 6, none⟩ k V hk
  have q : ∀ k, k < W.heap.size → L.lab k ≠ 5 → L.lab k ≠ 1 → (W1.setCell ⟨R, 6, none⟩ V).heap[k]? = W.heap[k]? := fun k hk h5 h1 => (q2 k (fun e => h1 (by rw [e, h.tR]))).trans (q1 k hk h5)
  have hs : (W1.setCell ⟨R, 6, none⟩ V).heap.size = W1.heap.size := by simp
  refine ⟨{ bel := h.bel.trans ⟨hg.os, hg.tape, hg.output, by rw [hs]; exact hg.size, fun k hk => q k (Nat.lt_of_lt_of_le hk h.bel.size) (by rw [h.low k hk]; decide) (by rw [h.low k hk]; decide)⟩, low := fun k hk => relab_low h (by decide) hat' hk, high := fun k hk => relab_high h hlt hg.size (by rw [hs] at hk; exact hk), tR := (relab_ne h hat' (by rw [h.tR]; decide) (by rw [h.tR]; decide)).trans h.tR, hR := (heap_setCell_same W1 R 6 _ _ V hR1), hout := ?_, tout := fun g' hg' => by (rw [hVb] at hg'; cases hg'; exact relab_self g 5), hf := map_same h.hf (fun hk => q _ hk (by rw [h.tf]; decide) (by rw [h.tf]; decide)), tf := (relab_ne h hat' (by rw [h.tf]; decide) (by rw [h.tf]; decide)).trans h.tf, hg := map_same h.hg (fun hk => q _ hk (by rw [h.tg]; decide) (by rw [h.tg]; decide)), tg := (relab_ne h hat' (by rw [h.tg]; decide) (by rw [h.tg]; decide)).trans h.tg, gn := h.gn, hop := own_same h.hop (fun g' hg' hk => q g' hk (by rw [h.top g' hg']; decide) (by rw [h.top g' hg']; decide)), top := fun g' hg' => (relab_ne h hat' (by rw [h.top g' hg']; decide) (by rw [h.top g' hg']; decide)).trans (h.top g' hg'), hv := fun i hi => ⟨own_same (h.hv i hi).1 (fun g' hg' hk => q g' hk (by cases hg'; rw [(h.hv i hi).2]; omega) (by cases hg'; rw [(h.hv i hi).2]; omega)), (relab_ne h hat' (by rw [(h.hv i hi).2]; omega) (by rw [(h.hv i hi).2]; omega)).trans (h.hv i hi).2⟩, hb := h.hb, hcs := h.hcs, fF := h.fF, gF := h.gF }, by rw [hs]; exact hg.size, fun k hk h0 => ⟨q k hk (by omega) (by omega), relab_zero (by decide) hat' hk h0⟩⟩
  have e : (s.out ++ [x]).length = s.out.length + 1 := by simp
  simp only [e, List.map_append, List.map_cons, List.map_nil]
  exact own_same ho (fun g' hg' _ => q2 g' (by rw [hVb] at hg'; cases hg'; exact hgR))
/-- the last call changes, or one more is open -/
theorem RunOk.top' (h : RunOk W0 m inp R L s W) {pre : List Gc} {x' : Gc} {opv' : Value} {lab' : Nat → Nat} {W' : World} {s' : Rs}
    (hpre : ∃ rest, L.gs = pre ++ rest) (hbel : Below W0.heap.size W W')
    (hq : ∀ k, k < W.heap.size → L.lab k ≠ 1 → L.lab k ≠ 4 → L.lab k ≠ pre.length + 6 → W'.heap[k]? = W.heap[k]?)
    (hlab : ∀ k, L.lab k ≠ 0 → L.lab k ≠ 4 → L.lab k ≠ pre.length + 6 → lab' k = L.lab k) (hlow : ∀ k, k < W0.heap.size → lab' k = 0) (hhigh : ∀ k, W'.heap.size ≤ k → lab' k = 0)
    (hop' : W'.ownsRow 0 134 4 opv' (pre.length + 1) (gcsV (pre ++ [x']))) (htop' : ∀ g, opv'.ownBlock = some g → lab' g = 4)
    (hx' : W'.ownsRow 0 41 1 (.slice (some ⟨x'.g, 0, none⟩) x'.c.vs.length x'.cap) x'.c.vs.length (u64s x'.c.vs)) (hlx : lab' x'.g = pre.length + 6)
    (hbx : Blocks W0 x'.bv x'.c.bs ∧ ∃ b, x'.c.bs[x'.c.k]? = some b ∧ (x'.cap : Int) = b.p + b.i.length)
    (hR' : W'.heap[R]? = some (.cells (rcells inp { L with opv := opv' } s') 102 (0, 0)))
    (h1 : s'.out = s.out) (h2 : s'.gl = s.gl) (h3 : s'.cs = x'.c :: (pre.map (·.c)).reverse) (h4 : s.steps ≤ s'.steps) :
    RunOk W0 m inp R { L with opv := opv', gs := pre ++ [x'], lab := lab' } s' W' := by
  obtain ⟨rest, hgs⟩ := hpre
  refine { bel := h.bel.trans hbel, low := hlow, high := hhigh, tR := (hlab R (by rw [h.tR]; decide) (by rw [h.tR]; decide) (by rw [h.tR]; omega)).trans h.tR, hR := hR', hout := ?_, tout := fun g hg => (hlab g (by rw [h.tout g hg]; decide) (by rw [h.tout g hg]; decide) (by rw [h.tout g hg]; omega)).trans (h.tout g hg), hf := map_same h.hf (fun hk => hq _ hk (by rw [h.tf]; decide) (by rw [h.tf]; decide) (by rw [h.tf]; omega)), tf := (hlab _ (by rw [h.tf]; decide) (by rw [h.tf]; decide) (by rw [h.tf]; omega)).trans h.tf, hg := map_same h.hg (fun hk => hq _ hk (by rw [h.tg]; decide) (by rw [h.tg]; decide) (by rw [h.tg]; omega)), tg := (hlab _ (by rw [h.tg]; decide) (by rw [h.tg]; decide) (by rw [h.tg]; omega)).trans h.tg, gn := Nat.le_trans h.gn (by omega), hop := ?_, top := htop', hv := ?_, hb := ?_, hcs := ?_, fF := h.fF, gF := fun n => by rw [h2]; exact h.gF n }
  · rw [h1]
    exact own_same h.hout (fun g hg hk => hq g hk (by rw [h.tout g hg]; decide) (by rw [h.tout g hg]; decide) (by rw [h.tout g hg]; omega))
  · simp only [List.length_append, List.length_cons, List.length_nil, Nat.zero_add]
    exact hop'
  · intro i hi
    simp only [List.length_append, List.length_cons, List.length_nil, Nat.zero_add] at hi
    by_cases hlt : i < pre.length
    · simp only [List.getElem_append_left hlt]
      have hi' : i < L.gs.length := by rw [hgs, List.length_append]; omega
      have e : L.gs[i] = pre[i] := by simp only [hgs, List.getElem_append_left hlt]
      obtain ⟨a, b⟩ := h.hv i hi'
      rw [e] at a b
      exact ⟨own_same a (fun g hg hk => by cases hg; exact hq _ hk (by rw [b]; omega) (by rw [b]; omega) (by rw [b]; omega)), (hlab _ (by rw [b]; omega) (by rw [b]; omega) (by rw [b]; omega)).trans b⟩
    · obtain rfl : i = pre.length := by omega
      simp only [List.getElem_concat_length]
      exact ⟨hx', hlx⟩
  · intro y hy
    rcases List.mem_append.1 hy with hy | hy
    · exact h.hb y (by rw [hgs]; exact List.mem_append_left _ hy)
    · rw [List.mem_singleton.1 hy]
      exact hbx
  · rw [h3]
    simp
/-- the last call is closed -/
theorem RunOk.pop (h : RunOk W0 m inp R L s W) {pre : List Gc} {x : Gc} {og ocap : Nat} {s' : Rs} (hgs : L.gs = pre ++ [x]) (hopv : L.opv = .slice (some ⟨og, 0, none⟩) (pre.length + 1) ocap)
    (he : rcells inp L s' = rcells inp L s) (h1 : s'.out = s.out) (h2 : s'.gl = s.gl) (h3 : s'.cs = (pre.map (·.c)).reverse) (h4 : s'.steps = s.steps) :
    RunOk W0 m inp R { L with opv := .slice (some ⟨og, 0, none⟩) pre.length ocap, gs := pre } s' (W.setCell ⟨R, 10, none⟩ (.slice (some ⟨og, 0, none⟩) pre.length ocap)) ∧
      Fr L W (W.setCell ⟨R, 10, none⟩ (.slice (some ⟨og, 0, none⟩) pre.length ocap)) { L with opv := .slice (some ⟨og, 0, none⟩) pre.length ocap, gs := pre } := by
  have hB : W0.heap.size ≤ R := h.base (by rw [h.tR]; decide)
  have q2 : ∀ k, L.lab k ≠ 1 → (W.setCell ⟨R, 10, none⟩ (.slice (some ⟨og, 0, none⟩) pre.length ocap)).heap[k]? = W.heap[k]? := fun k hk => heap_setCell_other W ⟨R, 10, none⟩ k _ (fun e => hk (by rw [show k = R from e, h.tR]))
  have hop := h.hop
  rw [hopv, hgs, List.length_append, List.length_singleton] at hop
  have htop := h.top
  rw [hopv] at htop
  refine ⟨{ bel := h.bel.trans ⟨rfl, rfl, rfl, by simp, fun k hk => q2 k (by rw [h.low k hk]; decide)⟩, low := h.low, high := fun k hk => h.high k (by simpa using hk), tR := h.tR, hR := ?_, hout := ?_, tout := h.tout, hf := map_same h.hf (fun _ => q2 _ (by rw [h.tf]; decide)), tf := h.tf, hg := map_same h.hg (fun _ => q2 _ (by rw [h.tg]; decide)), tg := h.tg, gn := by rw [h4]; exact h.gn, hop := ?_, top := fun g hg => htop g hg, hv := ?_, hb := fun y hy => h.hb y (by rw [hgs]; exact List.mem_append_left _ hy), hcs := h3, fF := h.fF, gF := fun n => by rw [h2]; exact h.gF n }, by simp, fun k hk h0 => ⟨q2 k (by omega), h0⟩⟩
  · have := heap_setCell_same W R 10 _ _ (.slice (some ⟨og, 0, none⟩) pre.length ocap) h.hR
    rw [← he] at this
    exact this
  · rw [h1]
    exact own_same h.hout (fun g hg hk => q2 g (by rw [h.tout g hg]; decide))
  · refine own_same (v := .slice (some ⟨og, 0, none⟩) pre.length ocap) (W := W) ?_ (fun g hg _ => q2 g (by cases hg; rw [htop _ rfl]; decide))
    rcases hop.2 with ⟨e, _⟩ | ⟨g, cap, cur, e, hb, hgg, hn, hm, hc, ht⟩
    · cases e
    · cases e
      refine ⟨gcsV_length pre, .inr ⟨og, ocap, cur, rfl, hb, hgg, (by dsimp only; omega), hm, hc, ?_⟩⟩
      have := congrArg (List.take (pre.length * 4)) ht
      rw [List.take_take, Nat.min_eq_left (by omega), gcsV_snoc, List.take_append_of_le_length (by rw [gcsV_length]; omega), List.take_of_length_le (l := gcsV pre) (by rw [gcsV_length]; omega)] at this
      exact this
  · intro i hi
    dsimp only at hi ⊢
    have hi' : i < L.gs.length := by rw [hgs, List.length_append]; omega
    have e : L.gs[i] = pre[i] := by simp only [hgs, List.getElem_append_left hi]
    obtain ⟨a, b⟩ := h.hv i hi'
    rw [e] at a b
    exact ⟨own_same a (fun g hg hk => by cases hg; exact q2 _ (by rw [b]; omega)), b⟩
end
end Go.Proofs.Ytkalgiaapkjplaa

namespace Go.Proofs.Ytkalgiaapkjplaa
open Go.RowKit

theorem rcell {W0 : World} {m : Md} {inp : ByteArray} {R : Nat} {L : Lay} {s : Rs} {W : World} (h : RunOk W0 m inp R L s W) (j : Nat) : W.cell? ⟨R, j, none⟩ = (rcells inp L s)[j]? := Lib.cell_of_heap h.hR j
theorem rfrozen {W0 : World} {m : Md} {inp : ByteArray} {R : Nat} {L : Lay} {s : Rs} {W : World} (h : RunOk W0 m inp R L s W) (j : Nat) : W.frozen? ⟨R, j, none⟩ = false := frozen_of_row W R j _ _ h.hR
theorem grown_set {W : World} {R : Nat} (j : Nat) (v : Value) : W.grownBy (W.setCell ⟨R, j, none⟩ v) (some R) := ⟨rfl, rfl, rfl, by simp, fun k _ hk => heap_setCell_other W ⟨R, j, none⟩ k v (fun e => hk (by simp [e]))⟩
set_option maxRecDepth 100000 in
set_option maxHeartbeats 2000000 in
theorem step_any {W0 : World} {m : Md} {inp : ByteArray} {R : Nat} {L : Lay} {s : Rs} (BR BF fuel : Nat) (w : World) (h : RunOk W0 m inp R L s w) (h9 : s.steps ≤ 100000) (f9 : fuel ≤ 100000)
    (hr : w.cell? ⟨BR, 0, none⟩ = some (.pointer (some ⟨R, 0, none⟩))) (hf : w.cell? ⟨BF, 0, none⟩ = some (.int .i64 fuel)) :
    Calls Try.prog 89 #[.pointer (some ⟨BR, 0, none⟩), .pointer (some ⟨BF, 0, none⟩)] w fun e w' =>
      ((s.steps = fuel ∧ e = .returned (.bool false) ∧ RunOk W0 m inp R L s w') ∨ (s.steps ≠ fuel ∧ e = .returned (.bool true) ∧ RunOk W0 m inp R L { s with steps := s.steps + 1 } w')) ∧ Fr L w w' L := by
  have H := Lib.hid h
  obtain ⟨st, hst⟩ : ∃ x, s.steps = x := ⟨_, rfl⟩
  have c4 : w.cell? ⟨R, 4, none⟩ = some (.int .i64 st) := by rw [rcell h 4, ← hst]; rfl
  have HST := Lib.hid (show s.steps ≤ st ∧ st ≤ s.steps by omega)
  have s0 : (st : Int) ≤ 100000 := by omega
  have f0 : (fuel : Int) ≤ 100000 := by omega
  clear h h9 hst f9
  by_cases he : st = fuel
  · subst he
    go_enter Try.func89, Try.ntmps89
    go_wp2_with fail
    go_quiet (fail)
    have HB := Lib.hid (drewN_below' w nq)
    clear c4 hr hf
    generalize w.drewN nq = wz at *
    go_wp2_with fail
    go_ret
    exact ⟨.inl ⟨by have := HST.out; omega, rfl, H.out.quiet HB.out⟩, fr_quiet HB.out⟩
  · have d : (((st : Nat) : Int) == (fuel : Int)) = false := by simp; omega
    have HNE := Lib.hid (show st < fuel ∨ fuel < st by omega)
    clear he
    go_enter Try.func89, Try.ntmps89
    go_wp2_with fail
    go_quiet (fail)
    have HB := Lib.hid (drewN_below' w nq)
    have HQ := Lib.hid (H.out.quiet HB.out)
    have r1 : (w.drewN nq).cell? ⟨BR, 0, none⟩ = some (.pointer (some ⟨R, 0, none⟩)) := by first | exact hr | (rw [← hr]; rfl)
    have c4' : (w.drewN nq).cell? ⟨R, 4, none⟩ = some (.int .i64 st) := by first | exact c4 | (rw [← c4]; rfl)
    have z4 := rfrozen HQ.out 4
    clear c4 hr hf
    generalize w.drewN nq = wz at *
    go_wp2_with fail
    go_ret
    have hst : s.steps = st := by have := HST.out; omega
    obtain ⟨a, b⟩ := HQ.out.setR (s' := { s with steps := s.steps + 1 }) (grown_set 4 (.int .i64 ((st : Int) + 1))) (by
      have := heap_setCell_same wz R 4 _ _ (.int .i64 ((st : Int) + 1)) HQ.out.hR
      rw [this, hst]; rfl) rfl rfl rfl (Nat.le_succ _)
    exact ⟨.inr ⟨by have := HNE.out; omega, rfl, a⟩, (fr_quiet HB.out).trans b⟩
/-- the next byte, and how many were taken then -/
def byteE (inp : ByteArray) (i : Nat) : Int := if h : i < inp.size then (inp[i].toNat : Int) else 256
def readE (inp : ByteArray) (s : Rs) : Int × Rs := (byteE inp s.read, if s.read < inp.size then { s with read := s.read + 1 } else s)
set_option maxRecDepth 100000 in
set_option maxHeartbeats 2000000 in
theorem read_any {W0 : World} {m : Md} {inp : ByteArray} {R : Nat} {L : Lay} {s : Rs} (w : World) (h : RunOk W0 m inp R L s w) (hi : inp.size < 9223372036854775808) (hr : s.read ≤ inp.size) :
    Calls Try.prog 116 #[.pointer (some ⟨R, 0, none⟩)] w fun e w' => e = .returned (.int .u64 (readE inp s).1) ∧ RunOk W0 m inp R L (readE inp s).2 w' ∧ Fr L w w' L := by
  have H := Lib.hid h
  obtain ⟨rd, hrd⟩ : ∃ x, s.read = x := ⟨_, rfl⟩
  obtain ⟨sz, hsz⟩ : ∃ x, inp.size = x := ⟨_, rfl⟩
  have c3 : w.cell? ⟨R, 3, none⟩ = some (.int .i64 rd) := by rw [rcell h 3, ← hrd]; rfl
  have c7 : w.cell? ⟨R, 7, none⟩ = some (.string inp) := rcell h 7
  have z3 := rfrozen h 3
  have HRD := Lib.hid (show s.read ≤ rd ∧ rd ≤ s.read by omega)
  have HSZ := Lib.hid (show inp.size ≤ sz ∧ sz ≤ inp.size by omega)
  rw [hrd, hsz] at hr
  rw [hsz] at hi
  by_cases he : rd = sz
  · have HX := Lib.hid (show readE inp s = (256, s) by unfold readE byteE; rw [dif_neg (by omega), if_neg (by omega)])
    have d : ((rd : Int) == ((inp.size : Nat) : Int)) = true := by rw [hsz]; simp; omega
    have d2 : ((rd : Int) == (sz : Int)) = true := by simp; omega
    clear h hi hr hrd hsz he
    go_enter Try.func116, Try.ntmps116
    go_wp2_with fail
    go_quiet (fail)
    have HB := Lib.hid (drewN_below' w nq)
    clear c3 c7 z3
    generalize w.drewN nq = wz at *
    go_wp2_with fail
    go_ret
    rw [HX.out]
    exact ⟨rfl, H.out.quiet HB.out, fr_quiet HB.out⟩
  · have hlt : rd < inp.size := by omega
    have d : ((rd : Int) == ((inp.size : Nat) : Int)) = false := by simp; omega
    have HX := Lib.hid (show readE inp s = ((inp[rd].toNat : Int), { s with read := rd + 1 }) by
      have e := hrd
      subst e
      unfold readE byteE
      rw [dif_pos hlt, if_pos hlt])
    obtain ⟨bx, hbx⟩ : ∃ x, inp[rd].toNat = x := ⟨_, rfl⟩
    have b8 : bx < 256 := by rw [← hbx]; exact UInt8.toNat_lt _
    have b0 : (0 : Int) ≤ (bx : Int) := by omega
    have b1 : (bx : Int) ≤ 255 := by omega
    rw [hbx] at HX
    clear b8
    have i0 : (0 : Int) ≤ (rd : Int) := by omega
    have r9 : (rd : Int) ≤ 9223372036854775806 := by omega
    have i1 : (rd : Int) < ((inp.size : Nat) : Int) := by omega
    clear h hi hr hrd hsz he
    go_enter Try.func116, Try.ntmps116
    go_wp2_with fail
    go_quiet (fail)
    have HB := Lib.hid (drewN_below' w nq)
    have HQ := Lib.hid (H.out.quiet HB.out)
    have c3' := c3
    have c7' := c7
    rw [rcell H.out 3, ← rcell HQ.out 3] at c3'
    rw [rcell H.out 7, ← rcell HQ.out 7] at c7'
    have z3' := rfrozen HQ.out 3
    clear c3 c7 z3
    generalize w.drewN nq = wz at *
    go_wp2_with fail
    go_quiet (fail)
    have HB2 := Lib.hid (drewN_below' wz nq)
    have HQ2 := Lib.hid (HQ.out.quiet HB2.out)
    have c3 := c3'
    rw [rcell HQ.out 3, ← rcell HQ2.out 3] at c3
    have z3 := rfrozen HQ2.out 3
    clear c3' c7' z3'
    generalize wz.drewN nq = wy at *
    clear hbx
    go_wp2_with fail
    go_ret
    rw [HX.out]
    obtain ⟨a, b⟩ := HQ2.out.setR (s' := { s with read := rd + 1 }) (grown_set 3 (.int .i64 ((rd : Int) + 1))) (by
      have := heap_setCell_same wy R 3 _ _ (.int .i64 ((rd : Int) + 1)) HQ2.out.hR
      rw [this]; rfl) rfl rfl rfl (Nat.le_refl _)
    exact ⟨rfl, a, (fr_quiet HB.out).trans ((fr_quiet HB2.out).trans b)⟩
end Go.Proofs.Ytkalgiaapkjplaa
