/- What the texts of package resolve stand on, of the packages ir and pick (part 2). -/
import Derived.Test.YtoglmdadpchhoaaHY0
namespace Go.Proofs.Ytoglmdadpchhoaa
open Go.RowKit
theorem InBox.drew {W : World} {B : Nat} {i : In} {v : Value} (h : InBox W B i v) : InBox W.drew B i v := h
theorem Ints.drew {W : World} {v : Value} {l : List Int} (h : Ints W v l) : Ints W.drew v l := h
theorem below_re {n : Nat} {w X Y : World} (h : Below n w X) (h1 : Y.os = X.os) (h2 : Y.tape = X.tape) (h3 : Y.output = X.output) (h4 : Y.heap = X.heap) : Below n w Y := by
  refine ⟨h1.trans h.os, h2.trans h.tape, h3.trans h.output, by rw [h4]; exact h.size, fun b hb => by rw [h4]; exact h.block b hb⟩
end Go.Proofs.Ytoglmdadpchhoaa
namespace Go.Proofs.Ytoglmdadpchhoaa
open Go.RowKit Go.Shelf
attribute [local go_sem] Oper.semAt_some
/-- lengths that a machine can hold -/
def InOk (i : In) : Prop := i.s.size < 9223372036854775808 ∧ i.l.length ≤ 9223372036854775807
def BkOk (b : Bk) : Prop := b.i.length ≤ 9223372036854775807 ∧ b.e.l.length ≤ 9223372036854775807 ∧ b.e.m.length ≤ 9223372036854775807 ∧ ∀ i ∈ b.i, InOk i
def FnOk (f : Fn) : Prop := f.s.size < 9223372036854775808 ∧ f.l.length ≤ 9223372036854775807 ∧ ∀ b ∈ f.l, BkOk b
def GlOk (g : Gl) : Prop := g.s.size < 9223372036854775808
/-- an instruction in a block of its own -/
def BoxedI (W : World) (B : Nat) (x : It) : Prop := W.heap[B]? = some (.cells #[.int .i64 x.i.o, .int .i64 x.i.a, .int .i64 x.i.b, .int .u64 x.i.k, .string x.i.s, x.v] 62 (0, 0))
theorem BoxedI.new (W : World) (x : It) : BoxedI (W.alloc (.cells #[.int .i64 x.i.o, .int .i64 x.i.a, .int .i64 x.i.b, .int .u64 x.i.k, .string x.i.s, x.v] 62)) W.heap.size x := heap_alloc_new W _
theorem BoxedI.lt {W : World} {B : Nat} {x : It} (h : BoxedI W B x) : B < W.heap.size := (Array.getElem?_eq_some_iff.1 h).1
theorem BoxedI.cells {W : World} {B : Nat} {x : It} (h : BoxedI W B x) : W.cell? ⟨B, 0, none⟩ = some (.int .i64 x.i.o) ∧ W.cell? ⟨B, 1, none⟩ = some (.int .i64 x.i.a) ∧ W.cell? ⟨B, 2, none⟩ = some (.int .i64 x.i.b) ∧ W.cell? ⟨B, 3, none⟩ = some (.int .u64 x.i.k) ∧ W.cell? ⟨B, 4, none⟩ = some (.string x.i.s) ∧ W.cell? ⟨B, 5, none⟩ = some x.v := by
  refine ⟨?_, ?_, ?_, ?_, ?_, ?_⟩ <;> (unfold World.cell?; rw [show W.heap[B]? = _ from h]; rfl)
theorem boxedI_own {B₀ : Nat} (B : Nat) (x : It) : OwnFrom B₀ (fun (_ : Unit) W => BoxedI W B x) := by
  intro _ W W' row h hg hr
  refine (hg.block B h.lt (fun e => ?_)).trans h
  obtain ⟨_, o, ho, hc⟩ := hr B e.symm
  rw [show W.heap[B]? = _ from h] at ho; cases ho; cases hc
theorem BoxedI.below {W W' : World} {B : Nat} {x : It} (h : BoxedI W B x) (hb : Below W.heap.size W W') : BoxedI W' B x := (hb.block B h.lt).trans h
end Go.Proofs.Ytoglmdadpchhoaa
namespace Go.Proofs.Ytoglmdadpchhoaa
open Go.RowKit
theorem funcB_eq (s : ByteArray) (b p : Int) (l : List Bk) : funcB ⟨s, b, p, l⟩ = (nameB s && (decide (1 ≤ b) && decide (b ≤ 3)) && (decide (0 ≤ p) && decide (p ≤ 6)) && decide (l.length ≤ 16) &&
    (match l with | [] => !(b == 1) | c :: _ => c.p == p && l.all (blockB l))) := rfl
end Go.Proofs.Ytoglmdadpchhoaa
namespace Go.Proofs.Ytoglmdadpchhoaa
open Go.RowKit
/-- a module in memory -/
def MdAt (W : World) (vf vg : Value) (m : Md) : Prop := Funcs W vf m.f ∧ Globs W vg m.g
def MdOk (m : Md) : Prop := (∀ f ∈ m.f, FnOk f) ∧ (∀ g ∈ m.g, GlOk g) ∧ m.f.length ≤ 9223372036854775807 ∧ m.g.length ≤ 9223372036854775807
theorem MdAt.next {W W' : World} {vf vg : Value} {m : Md} (h : MdAt W vf vg m) (hb : Below W.heap.size W W') : MdAt W' vf vg m := ⟨h.1.next hb, h.2.next hb⟩
end Go.Proofs.Ytoglmdadpchhoaa
namespace Go.Proofs.Ytoglmdadpchhoaa
open Go.RowKit
def slit (s : ByteArray) : Lit := .string s.data.toList
theorem slit_inj {s t : ByteArray} (h : slit s = slit t) : s = t := by
  obtain ⟨s⟩ := s
  obtain ⟨t⟩ := t
  congr 1
  exact Array.toList_inj.1 (Lit.string.inj h)
theorem slit_key (s : ByteArray) : WideAt.IsKeyLit (slit s) := trivial
theorem skeyed : Maps.Keyed Try.prog 9 := Maps.string_keyed Try.underlying9
theorem skey_of {s : ByteArray} (h : s.size < 9223372036854775808) : keyOf Try.prog 9 (.string s) = some (slit s) := WideMaps.keyOf_string_mk Try.underlying9 (by unfold maxLen; omega)
theorem below_turned {n b : Nat} {A B W : World} (h : Below n A B) (hg : B.grownBy W (some b)) (hb : n ≤ b) (hn : n ≤ B.heap.size) : Below n A W :=
  h.trans ⟨hg.os, hg.tape, hg.output, hg.size, fun k hk => hg.block k (Nat.lt_of_lt_of_le hk hn) (fun e => by cases e; omega)⟩
end Go.Proofs.Ytoglmdadpchhoaa
namespace Go.Proofs.Ytoglmdadpchhoaa
open Go.RowKit Go.Shelf Go.Maps
attribute [local go_sem] Oper.semAt_some
/-- the marks of the loops that ended -/
def Marks (B : Nat) (W : World) : List Deferred → Prop
  | [] => True
  | d :: ds => (∃ D, d = { target := .collected D, args := #[] } ∧ B ≤ D ∧ W.heap[D]? = some (.deferred (some [])) ∧ ∀ d' ∈ ds, d'.target ≠ .collected D) ∧ Marks B W ds
theorem Marks.kept {B : Nat} {W W' : World} : ∀ {ds : List Deferred}, Marks B W ds → (∀ D, (∃ d ∈ ds, d.target = .collected D) → W.heap[D]? = some (.deferred (some [])) → W'.heap[D]? = some (.deferred (some []))) → Marks B W' ds
  | [], _, _ => trivial
  | d :: ds, ⟨⟨D, h1, h2, h3, h4⟩, h⟩, hk => ⟨⟨D, h1, h2, hk D ⟨d, by simp, by rw [h1]⟩ h3, h4⟩, h.kept fun D' ⟨d', hd', e⟩ => hk D' ⟨d', by simp [hd'], e⟩⟩
theorem Marks.lt {B : Nat} {W : World} : ∀ {ds : List Deferred}, Marks B W ds → ∀ d ∈ ds, ∃ D, d.target = .collected D ∧ D < W.heap.size
  | [], _, d, hd => by simp at hd
  | d0 :: ds, ⟨⟨D, h1, h2, h3, h4⟩, h⟩, d, hd => by
    rcases List.mem_cons.1 hd with rfl | hd
    · exact ⟨D, by rw [h1], (Array.getElem?_eq_some_iff.1 h3).1⟩
    · exact h.lt d hd
end Go.Proofs.Ytoglmdadpchhoaa
namespace Go.Proofs.Ytoglmdadpchhoaa
open Go.RowKit
/-- a call that is open -/
structure Cl where
  bs : List Bk
  k : Nat
  nx : Nat
  vs : List Int
/-- what a run has come to -/
structure Rs where
  en : Bool
  co : Int
  read : Nat
  steps : Nat
  deep : Nat
  out : List Int
  gl : ByteArray → Int
  cs : List Cl
/-- a call as it lies in memory -/
structure Gc where
  c : Cl
  bv : Value
  g : Nat
  cap : Nat
def u64s (l : List Int) : List Value := l.map (Value.int .u64)
def gcV (x : Gc) : List Value := [x.bv, .int .i64 x.c.k, .int .i64 x.c.nx, .slice (some ⟨x.g, 0, none⟩) x.c.vs.length x.cap]
def gcsV (l : List Gc) : List Value := l.flatMap gcV
/-- slices as they are, in a map -/
def slR : Value → Option (DataW Value × List MemPlace)
  | .slice a n c => some (.held (.slice a n c), [])
  | _ => none
/-- numbers in a map -/
def nuR : Value → Option (DataW Value × List MemPlace)
  | .int .u64 x => some (.lit (.int .u64 x), [])
  | _ => none
/-- where a run lies -/
structure Lay where
  ov : Value
  fm : Nat
  gm : Nat
  fn : Nat
  gn : Nat
  FD : DataW Value
  GD : DataW Value
  opv : Value
  gs : List Gc
  lab : Nat → Nat
def rcells (inp : ByteArray) (L : Lay) (s : Rs) : Array Value :=
  #[.bool s.en, .int .u64 s.co, .string ⟨#[]⟩, .int .i64 s.read, .int .i64 s.steps, .int .i64 s.deep, L.ov, .string inp, .map (some L.fm), .map (some L.gm), L.opv]
/-- a run that lies in memory: block R, beside what it owns; each block has a label, others have 0 -/
structure RunOk (W0 : World) (m : Md) (inp : ByteArray) (R : Nat) (L : Lay) (s : Rs) (W : World) : Prop where
  bel : Below W0.heap.size W0 W
  low : ∀ k, k < W0.heap.size → L.lab k = 0
  high : ∀ k, W.heap.size ≤ k → L.lab k = 0
  tR : L.lab R = 1
  hR : W.heap[R]? = some (.cells (rcells inp L s) 73 (0, 0))
  hout : W.ownsRow 0 5 1 L.ov s.out.length (s.out.map (Value.int .u8))
  tout : ∀ g, L.ov.ownBlock = some g → L.lab g = 5
  hf : W.ownsMap Try.prog 9 slR L.fm L.fn L.FD
  tf : L.lab L.fm = 2
  hg : W.ownsMap Try.prog 9 nuR L.gm L.gn L.GD
  tg : L.lab L.gm = 3
  gn : L.gn ≤ 1000 + s.steps
  hop : W.ownsRow 0 104 4 L.opv L.gs.length (gcsV L.gs)
  top : ∀ g, L.opv.ownBlock = some g → L.lab g = 4
  hv : ∀ i (h : i < L.gs.length), W.ownsRow 0 29 1 (.slice (some ⟨L.gs[i].g, 0, none⟩) L.gs[i].c.vs.length L.gs[i].cap) L.gs[i].c.vs.length (u64s L.gs[i].c.vs) ∧ L.lab L.gs[i].g = i + 6
  hb : ∀ x ∈ L.gs, Blocks W0 x.bv x.c.bs ∧ ∃ b, x.c.bs[x.c.k]? = some b ∧ (x.cap : Int) = b.p + b.i.length
  hcs : s.cs = (L.gs.map (·.c)).reverse
  fF : ∀ f ∈ m.f, ∃ A cap, (∀ z, L.FD.atKey (slit f.s) z = .held (.slice A f.l.length cap)) ∧ Blocks W0 (.slice A f.l.length cap) f.l
  gF : ∀ n, L.GD.atKey (slit n) (.lit (.int .u64 0)) = .lit (.int .u64 (s.gl n))
/-- what is no part of a run stays -/
def Fr (L : Lay) (W W' : World) (L' : Lay) : Prop := W.heap.size ≤ W'.heap.size ∧ ∀ k, k < W.heap.size → L.lab k = 0 → W'.heap[k]? = W.heap[k]? ∧ L'.lab k = 0
theorem Fr.refl (L : Lay) (W : World) : Fr L W W L := ⟨Nat.le_refl _, fun _ _ h => ⟨rfl, h⟩⟩
theorem Fr.trans {L L1 L2 : Lay} {W W1 W2 : World} (h : Fr L W W1 L1) (k : Fr L1 W1 W2 L2) : Fr L W W2 L2 :=
  ⟨Nat.le_trans h.1 k.1, fun j hj h0 => by
    obtain ⟨a, b⟩ := h.2 j hj h0
    obtain ⟨c, d⟩ := k.2 j (Nat.lt_of_lt_of_le hj h.1) b
    exact ⟨c.trans a, d⟩⟩
theorem map_same {H : Type} {P : Program} {k : TypeId} {r : Value → Option (DataW H × List MemPlace)} {W W' : World} {b n : Nat} {D : DataW H} (h : W.ownsMap P k r b n D) (hs : b < W.heap.size → W'.heap[b]? = W.heap[b]?) : W'.ownsMap P k r b n D := by
  have hlt := h.lt
  obtain ⟨es, clock, hb, F, hz, hD⟩ := h
  exact ⟨es, clock, (hs hlt).trans hb, F, hz, hD⟩
section
variable {W0 : World} {m : Md} {inp : ByteArray} {R : Nat} {L : Lay} {s : Rs} {W : World}
theorem RunOk.base (h : RunOk W0 m inp R L s W) {k : Nat} (hk : L.lab k ≠ 0) : W0.heap.size ≤ k := by
  rcases Nat.lt_or_ge k W0.heap.size with h1 | h1
  · exact absurd (h.low k h1) hk
  · exact h1
theorem RunOk.lt (h : RunOk W0 m inp R L s W) {k : Nat} (hk : L.lab k ≠ 0) : k < W.heap.size := by
  rcases Nat.lt_or_ge k W.heap.size with h1 | h1
  · exact h1
  · exact absurd (h.high k h1) hk
end
end Go.Proofs.Ytoglmdadpchhoaa
namespace Go.Proofs.Ytoglmdadpchhoaa
open Go.RowKit
/-- the next byte, and how many were taken then -/
def byteE (inp : ByteArray) (i : Nat) : Int := if h : i < inp.size then (inp[i].toNat : Int) else 256
def readE (inp : ByteArray) (s : Rs) : Int × Rs := (byteE inp s.read, if s.read < inp.size then { s with read := s.read + 1 } else s)
end Go.Proofs.Ytoglmdadpchhoaa
namespace Go.Proofs.Ytoglmdadpchhoaa
open Go.RowKit
/-- some of the values -/
def pickE (vs : List Int) (l : List Int) : List Int := l.map (fun v => vs.getD v.toNat 0)
theorem pick_length (vs l : List Int) : (pickE vs l).length = l.length := by simp [pickE]
end Go.Proofs.Ytoglmdadpchhoaa
namespace Go.Proofs.Ytoglmdadpchhoaa
open Go.RowKit
section
variable {W0 : World} {m : Md} {inp : ByteArray} {R : Nat} {L : Lay} {s : Rs}
/-- behind the append of a call that has no values yet -/
structure Push1 (inp : ByteArray) (R : Nat) (L : Lay) (s : Rs) (u0 : World) (og ocap : Nat) (bv : Value) (u2 : World) : Prop where
  same : ∀ k, k < u0.heap.size → L.lab k ≠ 1 → L.lab k ≠ 4 → u2.heap[k]? = u0.heap[k]?
  size : u0.heap.size ≤ u2.heap.size
  os : u2.os = u0.os
  tape : u2.tape = u0.tape
  output : u2.output = u0.output
  at_ : L.lab og = 4 ∨ u0.heap.size ≤ og
  lt : og < u2.heap.size
  hop : u2.ownsRow 0 104 4 (.slice (some ⟨og, 0, none⟩) (L.gs.length + 1) ocap) (L.gs.length + 1) (gcsV L.gs ++ [bv, .int .i64 0, .int .i64 0, .slice none 0 0])
  hR : u2.heap[R]? = some (.cells (rcells inp { L with opv := .slice (some ⟨og, 0, none⟩) (L.gs.length + 1) ocap } s) 73 (0, 0))
theorem Push1.drew {u0 u2 : World} {og ocap : Nat} {bv : Value} (h : Push1 inp R L s u0 og ocap bv u2) : Push1 inp R L s u0 og ocap bv u2.drew :=
  { same := h.same, size := h.size, os := h.os, tape := h.tape, output := h.output, at_ := h.at_, lt := h.lt, hop := h.hop, hR := h.hR }
theorem Push1.map {u0 u2 : World} {og ocap : Nat} {bv : Value} (h : RunOk W0 m inp R L s u0) (hp : Push1 inp R L s u0 og ocap bv u2) : u2.cell? ⟨R, 8, none⟩ = some (.map (some L.fm)) ∧ u2.ownsMap Try.prog 9 slR L.fm L.fn L.FD :=
  ⟨Lib.cell_of_heap hp.hR 8, map_same h.hf (fun hk => hp.same _ hk (by rw [h.tf]; decide) (by rw [h.tf]; decide))⟩
end
end Go.Proofs.Ytoglmdadpchhoaa
namespace Go.Proofs.Ytoglmdadpchhoaa
open Go.RowKit
section
variable {W0 : World} {m : Md} {inp : ByteArray} {R : Nat} {L : Lay} {s : Rs} {W : World}
end
/-- one value more -/
def vsG (y : Gc) (v : Int) : Gc := { y with c := { y.c with vs := y.c.vs ++ [v] } }
end Go.Proofs.Ytoglmdadpchhoaa
namespace Go.Proofs.Ytoglmdadpchhoaa
open Go.RowKit
/-- what an instruction gives, and what it does -/
def valueE (inp : ByteArray) (s : Rs) (i : In) (vs : List Int) : Int × Rs :=
  if i.o = 1 then (i.k, s)
  else if i.o = 12 then (s.gl i.s, s)
  else if i.o = 13 then (0, { s with gl := fun x => if x = i.s then vs.getD i.a.toNat 0 else s.gl x })
  else if i.o = 15 then readE inp s
  else if i.o = 16 then (0, { s with out := s.out ++ [vs.getD i.a.toNat 0 % 256] })
  else (reckE i.o (vs.getD i.a.toNat 0) (vs.getD i.b.toNat 0), s)
end Go.Proofs.Ytoglmdadpchhoaa
namespace Go.Proofs.Ytoglmdadpchhoaa
open Go.RowKit Go.Shelf
attribute [local go_sem] Oper.semAt_some
def strRow (l : List ByteArray) : List Value := l.map Value.string
theorem strRow_length (l : List ByteArray) : (strRow l).length = l.length := by simp [strRow]
/-- a row of strings that a call owns -/
def OwnsN (W : World) (base : Nat) (v : Value) (l : List ByteArray) : Prop := W.ownsRow base 9 1 v l.length (strRow l)
def Strs : World → Value → List ByteArray → Prop := RowOf 1 (fun W b off x => W.cell? ⟨b, off, none⟩ = some (.string x))
theorem Strs.next {W W' : World} {v : Value} {l : List ByteArray} (h : Strs W v l) (hb : Below W.heap.size W W') : Strs W' v l := RowOf.next (P := fun W b off x => W.cell? ⟨b, off, none⟩ = some (.string x)) (fun _ _ _ _ _ hbl hb hx => (cellNext hbl hb _).trans hx) h hb
theorem OwnsN.strs {W : World} {base : Nat} {v : Value} {l : List ByteArray} (h : OwnsN W base v l) : Strs W v l := by
  have h' : W.ownsRow base 9 1 v l.length (strRow l) := h
  by_cases hl : 0 < l.length
  · obtain ⟨g, cap, e, hg, hlt⟩ := h'.form hl
    subst e
    refine .inr ⟨hl, g, 0, cap, rfl, hlt, fun i hi => ?_⟩
    have := h'.cellAt i (by rw [Nat.mul_one]; exact hi)
    rw [Nat.zero_add, Nat.mul_one]
    show W.cell? ⟨g, i, none⟩ = _
    rw [this]
    simp [strRow, hi]
  · have hl0 : l = [] := by cases l <;> simp_all
    subst hl0
    rcases h'.2 with ⟨rfl, _⟩ | ⟨g, cap, cur, rfl, _⟩
    · exact .inl ⟨rfl, .inl rfl⟩
    · exact .inl ⟨rfl, .inr ⟨_, _, rfl⟩⟩
theorem str_info : (Try.prog.info? 9).map (fun i => (i.zero, i.size, i.bytes)) = some (some (.string ⟨#[]⟩), 1, 16) := by kernel_rfl
theorem ownsN_kept {W W' : World} {base : Nat} {v : Value} {l : List ByteArray} {row : Option Nat} (h : OwnsN W base v l) (hg : W.grownBy W' row) (hne : v.ownBlock = none ∨ v.ownBlock ≠ row) : OwnsN W' base v l :=
  World.ownsRow.kept (show W.ownsRow base 9 1 v l.length (strRow l) from h) hg hne
theorem ownN_own {β : Type} {B₀ base LB : Nat} {t : TypeId} (f : β → List ByteArray) : OwnFrom B₀ (fun s W => ∃ v, Boxed W LB t v ∧ OwnsN W base v (f s)) := by
  intro s X Y row ⟨v, hb, ho⟩ hg hr
  have ho' : X.ownsRow base 9 1 v (f s).length (strRow (f s)) := ho
  refine ⟨v, Own.from (boxed_own (β := Unit) LB t (fun _ => v)) B₀ () X Y row hb hg hr, ownsN_kept ho hg ?_⟩
  rcases ho'.2 with ⟨rfl, _⟩ | ⟨g, cap, cur, rfl, _, hgb, _⟩
  · exact .inl rfl
  · refine .inr fun e' => ?_
    obtain ⟨_, o, ho, hc⟩ := hr g (by simpa [Value.ownBlock] using e'.symm)
    rw [hgb] at ho; cases ho; cases hc
theorem OwnsN.form {W : World} {base : Nat} {v : Value} {l : List ByteArray} (h : OwnsN W base v l) : ∃ A cap, v = .slice A l.length cap := by
  have h' : W.ownsRow base 9 1 v l.length (strRow l) := h
  rcases h'.2 with ⟨rfl, h0⟩ | ⟨g, cap, cur, rfl, _⟩
  · have : l = [] := by
      cases l with
      | nil => rfl
      | cons x l => simp at h0
    subst this
    exact ⟨_, _, rfl⟩
  · exact ⟨_, _, rfl⟩
theorem OwnsN.block {W : World} {base : Nat} {v : Value} {l : List ByteArray} (h : OwnsN W base v l) : ∀ r, v.ownBlock = some r → base ≤ r ∧ ∃ cs, W.heap[r]? = some (.cells cs 9 (0, 0)) := by
  have h' : W.ownsRow base 9 1 v l.length (strRow l) := h
  intro r e
  rcases h'.2 with ⟨rfl, _⟩ | ⟨g, cap, cur, rfl, hb, hg, _⟩
  · cases e
  · obtain rfl : g = r := by simpa [Value.ownBlock] using e
    exact ⟨hb, _, hg⟩
theorem keeps_grown {B : Nat} {W W' : World} {row : Option Nat} (hg : W.grownBy W' row) (hr : ∀ r, row = some r → ∃ cs t f, W.heap[r]? = some (Obj.cells cs t f)) : KeepsFrom B W W' :=
  ⟨hg.size, fun k o _ hk ho => (hg.block k (Array.getElem?_eq_some_iff.1 hk).1 (fun e => by
    obtain ⟨cs, t, f, h⟩ := hr k e.symm
    rw [h] at hk
    cases hk
    cases ho)).trans hk⟩
/-- the names of some -/
def itNames (l : List It) : List ByteArray := (l.filter (fun x => hasB x.i.o)).map (fun x => x.i.s)
theorem itNames_snoc (l : List It) (x : It) : itNames (l ++ [x]) = if hasB x.i.o = true then itNames l ++ [x.i.s] else itNames l := by
  unfold itNames
  rw [List.filter_append, List.map_append]
  cases h : hasB x.i.o <;> simp [h]
theorem names_len (l : List It) : (itNames l).length ≤ l.length := by
  unfold itNames
  rw [List.length_map]
  exact List.length_filter_le _ _
theorem refs_its {f : Fn} {W : World} {v : Value} {ts : List (List It)} (h : BlkIts W v f.l ts) : itNames ts.flatten = refsL f := by
  have e := h.ins
  unfold itNames refsL insNames
  have e1 : (ts.flatten.filter (fun x => hasB x.i.o)).map (fun x => x.i.s) = ((ts.flatten.map (·.i)).filter (fun i => hasB i.o)).map (·.s) := by
    rw [List.filter_map, List.map_map]
    rfl
  rw [e1, e, List.filter_flatten, List.map_flatten, List.map_map, List.map_map]
  rfl
end Go.Proofs.Ytoglmdadpchhoaa
namespace Go.Proofs.Ytoglmdadpchhoaa
open Go.RowKit
theorem goes_parts {all : List Bk} {n dest : Int} {l : List Int} (h : goesB all n dest l = true) : ∃ i : Nat, dest = i ∧ ∃ hi : i < all.length, (l.length : Int) = all[i].p ∧ amongB n l = true := by
  unfold goesB at h
  simp only [Bool.and_eq_true, decide_eq_true_eq] at h
  obtain ⟨⟨⟨h0, h1⟩, h2⟩, h3⟩ := h
  obtain ⟨i, rfl⟩ := Int.eq_ofNat_of_zero_le h0
  have hi : i < all.length := by omega
  rw [Int.toNat_natCast, List.getElem?_eq_getElem hi] at h2
  exact ⟨i, rfl, hi, by simpa using h2, h3⟩
theorem func_parts {f : Fn} (h : funcB f = true) : f.l.length ≤ 16 ∧ (∀ b ∈ f.l, blockB f.l b = true) ∧ (∀ (h : 0 < f.l.length), f.l[0].p = f.p) := by
  obtain ⟨s, b, p, l⟩ := f
  rw [funcB_eq] at h
  simp only [Bool.and_eq_true, decide_eq_true_eq] at h
  obtain ⟨⟨-, h16⟩, hl⟩ := h
  refine ⟨h16, ?_, ?_⟩
  · cases l with
    | nil => simp
    | cons c l =>
      simp only [Bool.and_eq_true] at hl
      exact List.all_eq_true.1 hl.2
  · cases l with
    | nil => simp
    | cons c l =>
      simp only [Bool.and_eq_true] at hl
      intro _
      simpa using hl.1
theorem block_parts {all : List Bk} {b : Bk} (h : blockB all b = true) : 0 ≤ b.p ∧ b.p ≤ 6 ∧ b.i.length ≤ 32 ∧ endB all (b.p + b.i.length) b.e = true ∧ instsB b.p b.i = true := by
  unfold blockB at h
  simp only [Bool.and_eq_true, decide_eq_true_eq] at h
  exact ⟨h.1.1.1.1, h.1.1.1.2, h.1.1.2, h.1.2, h.2⟩
theorem end_cases {all : List Bk} {n : Int} {t : Tm} (h : endB all n t = true) : (t.k = 1 ∧ goesB all n t.t t.l = true) ∨ (t.k = 2 ∧ amongB n [t.a] = true ∧ goesB all n t.t t.l = true ∧ goesB all n t.e t.m = true) ∨ (t.k = 3 ∧ amongB n [t.a] = true) := by
  unfold endB at h
  by_cases h1 : t.k = 1
  · rw [if_pos h1] at h
    simp only [Bool.and_eq_true] at h
    exact .inl ⟨h1, h.1.1.1⟩
  · rw [if_neg h1] at h
    by_cases h2 : t.k = 2
    · rw [if_pos h2] at h
      simp only [Bool.and_eq_true] at h
      exact .inr (.inl ⟨h2, h.1.1, h.1.2, h.2⟩)
    · rw [if_neg h2] at h
      by_cases h3 : t.k = 3
      · rw [if_pos h3] at h
        simp only [Bool.and_eq_true] at h
        exact .inr (.inr ⟨h3, h.1.1.1.1⟩)
      · rw [if_neg h3] at h
        cases h
theorem below_drewN {n : Nat} {w W : World} (h : Below n w W) (k : Nat) : Below n w (W.drewN k) := below_re h rfl rfl rfl rfl
end Go.Proofs.Ytoglmdadpchhoaa
namespace Go.Proofs.Ytoglmdadpchhoaa
open Go.RowKit
theorem instsB_at : ∀ (l : List In) (p : Int), instsB p l = true → ∀ (j : Nat) (h : j < l.length), instB (p + j) l[j] = true
  | [], _, _, j, h => by simp at h
  | i :: l, p, hb, 0, _ => by
    rw [instsB, Bool.and_eq_true] at hb
    simpa using hb.1
  | i :: l, p, hb, j + 1, h => by
    rw [instsB, Bool.and_eq_true] at hb
    have := instsB_at l (p + 1) hb.2 j (by simpa using h)
    rw [List.getElem_cons_succ, show p + ((j + 1 : Nat) : Int) = p + 1 + j by omega]
    exact this
end Go.Proofs.Ytoglmdadpchhoaa
namespace Go.Proofs.Ytoglmdadpchhoaa
open Go.ChangeShapes Go.WideShapes Go.ChangeAt Go.RowKit Go.Deep Go.Joins
theorem cellsInt : Try.prog.cellsOf 3 = 1 := by kernel_rfl
theorem cellsInst : Try.prog.cellsOf 62 = 6 := by kernel_rfl
theorem cellsTerm : Try.prog.cellsOf 65 = 6 := by kernel_rfl
theorem cellsBlock : Try.prog.cellsOf 67 = 8 := by kernel_rfl
theorem cellsFunc : Try.prog.cellsOf 50 = 4 := by kernel_rfl
theorem cellsGlob : Try.prog.cellsOf 54 = 4 := by kernel_rfl
theorem cellsModule : Try.prog.cellsOf 25 = 2 := by kernel_rfl
theorem cellsInsts : Try.prog.cellsOf 63 = 1 := by kernel_rfl
theorem maxLen_is : maxLen = 9223372036854775807 := rfl
section
variable {H : Type} {enc : TypeId × Value → H} {W : World} {base : Nat} {spare : Nat → Bool} {held : Bool}
theorem open_ints {c : Value} {fuel : Nat} {y : DataW H × List MemPlace} (h : DataW.trod enc Try.prog W base spare held fuel 60 [c] = some y) :
    ∃ (A : Option Addr) (cap : Nat) (l : List Int), c = .slice A l.length cap ∧ Ints W c l ∧ l.length ≤ 9223372036854775807 := by
  obtain ⟨A, cap, l, rfl, hr, -, h1, h2⟩ := open_row (α := Int) (sz := 1) (fun W b off x => W.cell? ⟨b, off, none⟩ = some (.int .i64 x)) (fun _ => True) Try.underlying60 cellsInt (by omega) (fun n b off cs y hc hl ht => by
    match cs, hl with
    | [c], _ =>
      obtain ⟨x, e, -, -⟩ := DataW.trod_int Try.underlying3 ht
      simp only [List.cons.injEq, and_true] at e
      subst e
      exact ⟨x, trivial, by simpa using hc 0 (by omega)⟩) h
  refine ⟨A, cap, l, rfl, ?_, by rw [maxLen_is] at h2; omega⟩
  rcases hr with hr | ⟨h0, b, off, c, e, hb, hat⟩
  · exact .inl hr
  · exact .inr ⟨h0, b, off, c, e, hb, fun i hi => by simpa using hat i hi⟩
end
end Go.Proofs.Ytoglmdadpchhoaa
namespace Go.Proofs.Ytoglmdadpchhoaa
open Go.RowKit
def fIdx (l : List ByteArray) (s : ByteArray) : Option Nat := l.findIdx? (fun x => x == s)
def idxE : Option Nat → Int
  | some i => i
  | none => -1
theorem fIdx_some {l : List ByteArray} {s : ByteArray} {i : Nat} (hi : i < l.length) (h : (l[i] == s) = true) (hb : ∀ j (hj : j < i), (l[j]'(by omega) == s) = false) : fIdx l s = some i :=
  List.findIdx?_eq_some_iff_getElem.2 ⟨hi, h, fun j hj => by simp [hb j hj]⟩
theorem fIdx_none {l : List ByteArray} {s : ByteArray} (h : ∀ j (hj : j < l.length), (l[j] == s) = false) : fIdx l s = none :=
  List.findIdx?_eq_none_iff.2 fun x hx => by
    obtain ⟨j, hj, rfl⟩ := List.getElem_of_mem hx
    exact h j hj
set_option maxRecDepth 100000 in
set_option maxHeartbeats 2000000 in
theorem findFunc_any (m : Md) (F G : Option Addr) (nf cf ng cg : Nat) (s : ByteArray) (w : World) (hok : MdOk m) (hnf : m.f.length = nf) (hS : MdAt w (.slice F nf cf) (.slice G ng cg) m) :
    Calls Try.prog 23 #[.agg #[.slice F nf cf, .slice G ng cg], .string s] w fun e w' => e = .returned (.int .i64 (idxE (fIdx (m.f.map (·.s)) s))) ∧ Below w.heap.size w w' := by
  have HS := Lib.hid hS
  have HNF := Lib.hid (show m.f.length ≤ nf ∧ nf ≤ m.f.length by omega)
  have f9 : (nf : Int) ≤ 9223372036854775807 := by have := hok.2.2.1; omega
  clear hS hok hnf
  go_enter Try.func23, Try.ntmps23
  go_wp2_with fail
  have HIN := Lib.hid (heap_alloc_new w (.cells #[.slice F nf cf, .slice G ng cg] 25))
  have HBW := Lib.hid (balloc (Below.refl _ w) (.cells #[.slice F nf cf, .slice G ng cg] 25))
  generalize w.alloc (.cells #[.slice F nf cf, .slice G ng cg] 25) = W0 at *
  have c0 := Lib.cell_of_heap HIN.out 0
  simp only [List.getElem?_toArray, List.getElem?_cons_zero] at c0
  go_loopw [5] (fun iv wr => ∃ i : Nat, i ≤ nf ∧ iv = .int .i64 i ∧ (∀ j (hj : j < m.f.length), j < i → (m.f[j].s == s) = false) ∧ W0 = wr) (fun iv _ => nf - (intOf iv).toNat)
  case atStart => exact ⟨0, Nat.zero_le _, rfl, fun j _ h => by omega, rfl⟩
  case round =>
    obtain ⟨i, hi, rfl, hs, rfl⟩ := hrel
    have HT := Lib.hid hs
    clear hs
    by_cases hlt : i < nf
    · have hm : i < m.f.length := by have := HNF.out; omega
      obtain ⟨b, off, hA, hbl, e0⟩ := RowOf.at_ HS.out.1 hm
      subst hA
      obtain ⟨c4, -⟩ := FnAt.next _ _ _ _ _ hbl HBW.out e0
      have HMI := Lib.hid (show (m.f[i].s == s) = true → fIdx (m.f.map (·.s)) s = some i from fun h => fIdx_some (by simpa using hm) (by simpa using h) (fun j hj => by simpa using HT.out j (by omega) hj))
      have HNX := Lib.hid (show (m.f[i].s == s) = false → ∀ j (hj : j < m.f.length), j < i + 1 → (m.f[j].s == s) = false from fun h j hj hji => by
        by_cases e : j = i
        · subst e; exact h
        · exact HT.out j hj (by omega))
      obtain ⟨x, hx⟩ : ∃ x, m.f[i].s = x := ⟨_, rfl⟩
      rw [hx] at c4 HMI HNX
      have hk0 : (0 : Int) ≤ (i : Int) := Int.natCast_nonneg _
      have hk1 : (i : Int) < (nf : Int) := by omega
      have HLT := Lib.hid hlt
      clear hx hm hlt e0
      cases hq : x == s with
      | true =>
        have h1 : (x.toList == s.toList) = true := by rw [← beq_toListBytes]; exact hq
        have HV := Lib.hid (HMI.out hq)
        clear hq
        go_wp2_with fail
        go_ret
        exact ⟨by rw [HV.out]; rfl, HBW.out⟩
      | false =>
        have h1 : (x.toList == s.toList) = false := by rw [← beq_toListBytes]; exact hq
        have HV := Lib.hid (HNX.out hq)
        clear hq
        go_wp2_with fail
        go_roundw
        case rel => exact ⟨i + 1, HLT.out, by go_num, HV.out, trivial⟩
        case measure => have := HLT.out; simp [intOf]; omega
    · have hd : decide ((i : Int) < (nf : Int)) = false := by simp; omega
      have HV := Lib.hid (show fIdx (m.f.map (·.s)) s = none from fIdx_none fun j hj => by
        have hj' : j < m.f.length := by simpa using hj
        simpa using HT.out j hj' (by have := HNF.out; omega))
      go_wp2_with fail
      go_ret
      exact ⟨by rw [HV.out]; rfl, HBW.out⟩
set_option maxRecDepth 100000 in
set_option maxHeartbeats 2000000 in
theorem findGlob_any (m : Md) (F G : Option Addr) (nf cf ng cg : Nat) (s : ByteArray) (w : World) (hok : MdOk m) (hng : m.g.length = ng) (hS : MdAt w (.slice F nf cf) (.slice G ng cg) m) :
    Calls Try.prog 25 #[.agg #[.slice F nf cf, .slice G ng cg], .string s] w fun e w' => e = .returned (.int .i64 (idxE (fIdx (m.g.map (·.s)) s))) ∧ Below w.heap.size w w' := by
  have HS := Lib.hid hS
  have HNF := Lib.hid (show m.g.length ≤ ng ∧ ng ≤ m.g.length by omega)
  have f9 : (ng : Int) ≤ 9223372036854775807 := by have := hok.2.2.2; omega
  clear hS hok hng
  go_enter Try.func25, Try.ntmps25
  go_wp2_with fail
  have HIN := Lib.hid (heap_alloc_new w (.cells #[.slice F nf cf, .slice G ng cg] 25))
  have HBW := Lib.hid (balloc (Below.refl _ w) (.cells #[.slice F nf cf, .slice G ng cg] 25))
  generalize w.alloc (.cells #[.slice F nf cf, .slice G ng cg] 25) = W0 at *
  have c0 := Lib.cell_of_heap HIN.out 1
  simp only [List.getElem?_toArray, List.getElem?_cons_zero, List.getElem?_cons_succ] at c0
  go_loopw [5] (fun iv wr => ∃ i : Nat, i ≤ ng ∧ iv = .int .i64 i ∧ (∀ j (hj : j < m.g.length), j < i → (m.g[j].s == s) = false) ∧ W0 = wr) (fun iv _ => ng - (intOf iv).toNat)
  case atStart => exact ⟨0, Nat.zero_le _, rfl, fun j _ h => by omega, rfl⟩
  case round =>
    obtain ⟨i, hi, rfl, hs, rfl⟩ := hrel
    have HT := Lib.hid hs
    clear hs
    by_cases hlt : i < ng
    · have hm : i < m.g.length := by have := HNF.out; omega
      obtain ⟨b, off, hA, hbl, e0⟩ := RowOf.at_ HS.out.2 hm
      subst hA
      obtain ⟨c4, -⟩ := GlAt.next _ _ _ _ _ hbl HBW.out e0
      have HMI := Lib.hid (show (m.g[i].s == s) = true → fIdx (m.g.map (·.s)) s = some i from fun h => fIdx_some (by simpa using hm) (by simpa using h) (fun j hj => by simpa using HT.out j (by omega) hj))
      have HNX := Lib.hid (show (m.g[i].s == s) = false → ∀ j (hj : j < m.g.length), j < i + 1 → (m.g[j].s == s) = false from fun h j hj hji => by
        by_cases e : j = i
        · subst e; exact h
        · exact HT.out j hj (by omega))
      obtain ⟨x, hx⟩ : ∃ x, m.g[i].s = x := ⟨_, rfl⟩
      rw [hx] at c4 HMI HNX
      have hk0 : (0 : Int) ≤ (i : Int) := Int.natCast_nonneg _
      have hk1 : (i : Int) < (ng : Int) := by omega
      have HLT := Lib.hid hlt
      clear hx hm hlt e0
      cases hq : x == s with
      | true =>
        have h1 : (x.toList == s.toList) = true := by rw [← beq_toListBytes]; exact hq
        have HV := Lib.hid (HMI.out hq)
        clear hq
        go_wp2_with fail
        go_ret
        exact ⟨by rw [HV.out]; rfl, HBW.out⟩
      | false =>
        have h1 : (x.toList == s.toList) = false := by rw [← beq_toListBytes]; exact hq
        have HV := Lib.hid (HNX.out hq)
        clear hq
        go_wp2_with fail
        go_roundw
        case rel => exact ⟨i + 1, HLT.out, by go_num, HV.out, trivial⟩
        case measure => have := HLT.out; simp [intOf]; omega
    · have hd : decide ((i : Int) < (ng : Int)) = false := by simp; omega
      have HV := Lib.hid (show fIdx (m.g.map (·.s)) s = none from fIdx_none fun j hj => by
        have hj' : j < m.g.length := by simpa using hj
        simpa using HT.out j hj' (by have := HNF.out; omega))
      go_wp2_with fail
      go_ret
      exact ⟨by rw [HV.out]; rfl, HBW.out⟩
theorem check_parts {m : Md} (h : checkE m = 0) : m.f.length ≤ 16 ∧ m.g.length ≤ 16 ∧ aloneB m = true ∧ (namesM m).Nodup ∧ (insM m).any (noneI m) = false ∧ (insM m).any (oddI m) = false := by
  unfold checkE at h
  by_cases h1 : 16 < m.f.length ∨ 16 < m.g.length
  · rw [if_pos h1] at h; cases h
  rw [if_neg h1] at h
  cases h2 : aloneB m with
  | false => rw [if_pos h2] at h; cases h
  | true =>
    rw [if_neg (by simp [h2])] at h
    by_cases h3 : (namesM m).Nodup
    · rw [if_neg (fun n => n h3)] at h
      unfold foundE at h
      cases h4 : (insM m).any (noneI m) with
      | true => rw [if_pos h4] at h; cases h
      | false =>
        rw [if_neg (by simp [h4])] at h
        cases h5 : (insM m).any (oddI m) with
        | true => rw [if_pos h5] at h; cases h
        | false => exact ⟨by omega, by omega, rfl, h3, rfl, rfl⟩
    · rw [if_pos h3] at h; cases h
theorem check_of {m : Md} (h1 : m.f.length ≤ 16) (h2 : m.g.length ≤ 16) (h3 : aloneB m = true) (h4 : (namesM m).Nodup) (h5 : (insM m).any (noneI m) = false) (h6 : (insM m).any (oddI m) = false) : checkE m = 0 := by
  unfold checkE foundE
  rw [if_neg (by omega), if_neg (by simp [h3]), if_neg (fun n => n h4), if_neg (by simp [h5]), if_neg (by simp [h6])]
end Go.Proofs.Ytoglmdadpchhoaa
namespace Go.Proofs.Ytoglmdadpchhoaa
open Go.RowKit
theorem fn_info : (Try.prog.info? 50).map (fun i => (i.zero, i.size, i.bytes)) = some (some (.agg #[.string ⟨#[]⟩, .int .i64 0, .int .i64 0, .slice none 0 0]), 4, 56) := by kernel_rfl
/-- the cells of a row of functions -/
def RowCells (w : World) (k : List Fn) (ys : List Value) : Prop :=
  ys.length = k.length * 4 ∧ ∀ (i : Nat) (h : i < k.length), ∃ A cap, ys[i * 4]? = some (.string k[i].s) ∧ ys[i * 4 + 1]? = some (.int .i64 k[i].b) ∧ ys[i * 4 + 2]? = some (.int .i64 k[i].p) ∧ ys[i * 4 + 3]? = some (.slice A k[i].l.length cap) ∧ Blocks w (.slice A k[i].l.length cap) k[i].l
theorem RowCells.next {w w' : World} {k : List Fn} {ys : List Value} (h : RowCells w k ys) (hb : Below w.heap.size w w') : RowCells w' k ys :=
  ⟨h.1, fun i hi => by obtain ⟨A, c, h0, h1, h2, h3, h4⟩ := h.2 i hi; exact ⟨A, c, h0, h1, h2, h3, h4.next hb⟩⟩
theorem RowCells.append {w : World} {k1 k2 : List Fn} {y1 y2 : List Value} (h1 : RowCells w k1 y1) (h2 : RowCells w k2 y2) : RowCells w (k1 ++ k2) (y1 ++ y2) := by
  refine ⟨by rw [List.length_append, List.length_append, h1.1, h2.1]; omega, fun i hi => ?_⟩
  rw [List.length_append] at hi
  by_cases h : i < k1.length
  · obtain ⟨A, c, g0, g1, g2, g3, g4⟩ := h1.2 i h
    have e := h1.1
    rw [List.getElem_append_left h, List.getElem?_append_left (by omega), List.getElem?_append_left (by omega), List.getElem?_append_left (by omega), List.getElem?_append_left (by omega)]
    exact ⟨A, c, g0, g1, g2, g3, g4⟩
  · obtain ⟨A, c, g0, g1, g2, g3, g4⟩ := h2.2 (i - k1.length) (by omega)
    have e := h1.1
    rw [List.getElem_append_right (by omega), List.getElem?_append_right (by omega), List.getElem?_append_right (by omega), List.getElem?_append_right (by omega), List.getElem?_append_right (by omega)]
    have q : ∀ j, i * 4 + j - y1.length = (i - k1.length) * 4 + j := fun j => by omega
    have q0 : i * 4 - y1.length = (i - k1.length) * 4 := by omega
    rw [q0, q, q, q]
    exact ⟨A, c, g0, g1, g2, g3, g4⟩
end Go.Proofs.Ytoglmdadpchhoaa
namespace Go.Proofs.Ytoglmdadpchhoaa
open Go.RowKit
def U64 (x : Int) : Prop := 0 ≤ x ∧ x ≤ 18446744073709551615
def fnOf (m : Md) (n : ByteArray) : Option Fn := m.f.find? (fun f => f.s == n)
def blksOf (m : Md) (n : ByteArray) : List Bk := match fnOf m n with | some f => f.l | none => []
/-- how a block ends: s: the run, the step counted -/
def endE (s : Rs) (c : Cl) (r : List Cl) (t : Tm) : Rs :=
  if t.k = 3 then match r with
    | [] => { s with en := true, co := c.vs.getD t.a.toNat 0, cs := [] }
    | d :: r' => { s with cs := { d with vs := d.vs ++ [c.vs.getD t.a.toNat 0] } :: r' }
  else if t.k = 2 ∧ c.vs.getD t.a.toNat 0 = 0 then { s with cs := ⟨c.bs, t.e.toNat, 0, pickE c.vs t.m⟩ :: r }
  else { s with cs := ⟨c.bs, t.t.toNat, 0, pickE c.vs t.l⟩ :: r }
/-- a step of the last call, c; r: those below it -/
def tick (m : Md) (inp : ByteArray) (dp : Nat) (s : Rs) (c : Cl) (r : List Cl) : Rs × Bool :=
  match c.bs[c.k]? with
  | none => (s, false)
  | some b =>
    match b.i[c.nx]? with
    | some i =>
      if i.o = 14 then
        if r.length + 1 = dp then ({ s with steps := s.steps + 1, cs := { c with nx := c.nx + 1 } :: r }, false)
        else ({ s with steps := s.steps + 1, deep := max s.deep (r.length + 1 + 1), cs := ⟨blksOf m i.s, 0, 0, pickE c.vs i.l⟩ :: { c with nx := c.nx + 1 } :: r }, true)
      else ({ (valueE inp { s with steps := s.steps + 1 } i c.vs).2 with cs := { c with nx := c.nx + 1, vs := c.vs ++ [(valueE inp { s with steps := s.steps + 1 } i c.vs).1] } :: r }, true)
    | none => (endE { s with steps := s.steps + 1 } c r b.e, true)
/-- so many steps more, at most -/
def runE (m : Md) (inp : ByteArray) (dp : Nat) : Nat → Rs → Rs × Int
  | 0, s => match s.cs with
    | [] => (s, 0)
    | _ :: _ => (s, 12)
  | n + 1, s => match s.cs with
    | [] => (s, 0)
    | c :: r => match tick m inp dp s c r with
      | (s', true) => runE m inp dp n s'
      | (s', false) => (s', 13)
/-- a module that may be run -/
structure RightM (m : Md) : Prop where
  ok : MdOk m
  fb : ∀ f ∈ m.f, funcB f = true
  call : ∀ f ∈ m.f, ∀ i ∈ insF f, i.o = 14 → ∃ g, fnOf m i.s = some g ∧ g.l ≠ [] ∧ g.p = i.l.length
  kr : ∀ f ∈ m.f, ∀ i ∈ insF f, U64 i.k
/-- a call is right; top: it goes on -/
structure GoodC (m : Md) (top : Bool) (c : Cl) : Prop where
  fn : ∃ f ∈ m.f, c.bs = f.l
  blk : ∃ b, c.bs[c.k]? = some b ∧ c.nx ≤ b.i.length ∧ (c.vs.length : Int) + (if top then 0 else 1) = b.p + c.nx
  rng : ∀ x ∈ c.vs, U64 x
/-- a run is right -/
structure Good (m : Md) (s : Rs) : Prop where
  cs : match s.cs with | [] => True | c :: r => GoodC m true c ∧ ∀ d ∈ r, GoodC m false d
  gl : ∀ n, U64 (s.gl n)
theorem fnOf_mem {m : Md} {n : ByteArray} {g : Fn} (h : fnOf m n = some g) : g ∈ m.f ∧ g.s = n := by
  unfold fnOf at h
  refine ⟨List.mem_of_find?_eq_some h, ?_⟩
  have := List.find?_some h
  exact (jba_beq _ _).1 this
theorem insB_mem {f : Fn} {b : Bk} {i : In} (hb : b ∈ f.l) (hi : i ∈ b.i) : i ∈ insF f := List.mem_flatten.2 ⟨b.i, List.mem_map_of_mem hb, hi⟩
theorem zeroU : U64 0 := ⟨by decide, by decide⟩
theorem wrapU (x : Int) : U64 (IntKind.u64.wrap x) := by
  rw [IntKind.wrap_u64]
  exact ⟨by omega, by omega⟩
theorem bitsU (op : BinOp) (a b : Int) : U64 (bits op .u64 a b) := by
  unfold bits
  exact wrapU _
theorem reckU (o a b : Int) (ha : U64 a) : U64 (reckE o a b) := by
  unfold reckE
  split; · exact wrapU _
  split; · exact wrapU _
  split; · exact wrapU _
  split; · exact bitsU _ _ _
  split; · exact bitsU _ _ _
  split; · exact bitsU _ _ _
  split; · exact wrapU _
  split
  · unfold shrE
    obtain ⟨h0, h1⟩ := ha
    have hp : (0 : Int) < 2 ^ (b % 64).toNat := Int.pow_pos (by decide)
    exact ⟨Int.ediv_nonneg h0 (by omega), Int.le_trans (Int.ediv_le_self _ h0) h1⟩
  split
  · unfold lessE
    split <;> exact ⟨by decide, by decide⟩
  split
  · unfold eqE
    split <;> exact ⟨by decide, by decide⟩
  exact ⟨by decide, by decide⟩
theorem getU {l : List Int} (h : ∀ x ∈ l, U64 x) (n : Nat) : U64 (l.getD n 0) := by
  rw [List.getD_eq_getElem?_getD]
  by_cases hn : n < l.length
  · rw [List.getElem?_eq_getElem hn]
    exact h _ (List.getElem_mem hn)
  · rw [List.getElem?_eq_none (by omega)]
    exact ⟨by decide, by decide⟩
theorem pickU {vs l : List Int} (h : ∀ x ∈ vs, U64 x) : ∀ x ∈ pickE vs l, U64 x := by
  intro x hx
  obtain ⟨v, _, rfl⟩ := List.mem_map.1 hx
  exact getU h _
theorem valueU {inp : ByteArray} {s : Rs} {i : In} {vs : List Int} (hv : ∀ x ∈ vs, U64 x) (hg : ∀ n, U64 (s.gl n)) (hk : U64 i.k) : U64 (valueE inp s i vs).1 ∧ (∀ n, U64 ((valueE inp s i vs).2.gl n)) ∧ (valueE inp s i vs).2.cs = s.cs := by
  unfold valueE
  split; · exact ⟨hk, hg, rfl⟩
  split; · exact ⟨hg _, hg, rfl⟩
  split
  · refine ⟨zeroU, fun n => ?_, rfl⟩
    simp only
    split
    · exact getU hv _
    · exact hg n
  split
  · unfold readE byteE
    refine ⟨?_, ?_, ?_⟩
    · simp only
      split
      · rename_i h
        have := UInt8.toNat_lt inp[s.read]
        exact ⟨by omega, by omega⟩
      · exact ⟨by decide, by decide⟩
    · simp only
      split <;> exact hg
    · simp only
      split <;> rfl
  split
  · exact ⟨zeroU, hg, rfl⟩
  exact ⟨reckU _ _ _ (getU hv _), hg, rfl⟩
/-- what is known of the call that goes on -/
theorem good_top {m : Md} {c : Cl} (hm : RightM m) {tp : Bool} (h : GoodC m tp c) : ∃ f b, f ∈ m.f ∧ c.bs = f.l ∧ c.bs[c.k]? = some b ∧ b ∈ f.l ∧ c.nx ≤ b.i.length ∧ (c.vs.length : Int) + (if tp then 0 else 1) = b.p + c.nx ∧ 0 ≤ b.p ∧ b.p ≤ 6 ∧ b.i.length ≤ 32 ∧
    endB c.bs (b.p + b.i.length) b.e = true ∧ ∀ (j : Nat) (hj : j < b.i.length), instB (b.p + j) b.i[j] = true := by
  obtain ⟨f, hf, hbs⟩ := h.fn
  obtain ⟨b, hb, hn, hl⟩ := h.blk
  have hbm : b ∈ f.l := by rw [← hbs]; exact List.mem_of_getElem? hb
  obtain ⟨p0, p6, i32, he, hi⟩ := block_parts ((func_parts (hm.fb f hf)).2.1 b hbm)
  rw [← hbs] at he
  exact ⟨f, b, hf, hbs, hb, hbm, hn, hl, p0, p6, i32, he, fun j hj => instsB_at _ _ hi j hj⟩
theorem good_new {m : Md} {c : Cl} {to_ : Int} {l : List Int} {tp : Bool} (h : GoodC m tp c) {n : Int} (hg : goesB c.bs n to_ l = true) : GoodC m true ⟨c.bs, to_.toNat, 0, pickE c.vs l⟩ := by
  obtain ⟨i, rfl, hi, hl, ha⟩ := goes_parts hg
  refine ⟨h.fn, ⟨c.bs[i], by simp [List.getElem?_eq_getElem hi], Nat.zero_le _, ?_⟩, pickU h.rng⟩
  simp only [if_true, pick_length]
  omega
theorem good_down {m : Md} {d : Cl} {v : Int} (h : GoodC m false d) (hv : U64 v) : GoodC m true { d with vs := d.vs ++ [v] } := by
  obtain ⟨b, hb, hn, hl⟩ := h.blk
  refine ⟨h.fn, ⟨b, hb, hn, ?_⟩, fun x hx => ?_⟩
  · simp only [List.length_append, List.length_singleton, if_true]
    simp only [Bool.false_eq_true, if_false] at hl
    omega
  · rcases List.mem_append.1 hx with hx | hx
    · exact h.rng x hx
    · rw [List.mem_singleton.1 hx]; exact hv
theorem good_end {m : Md} {s : Rs} {c : Cl} {r : List Cl} {t : Tm} {n : Int} (hc : GoodC m true c) (hr : ∀ d ∈ r, GoodC m false d) (hg : ∀ n, U64 (s.gl n)) (he : endB c.bs n t = true) : Good m (endE s c r t) := by
  unfold endE
  rcases end_cases he with ⟨h1, h2⟩ | ⟨h1, h2, h3, h4⟩ | ⟨h1, h2⟩
  · rw [if_neg (by omega), if_neg (by omega)]
    exact ⟨⟨good_new hc h2, hr⟩, hg⟩
  · rw [if_neg (by omega)]
    split
    · exact ⟨⟨good_new hc h4, hr⟩, hg⟩
    · exact ⟨⟨good_new hc h3, hr⟩, hg⟩
  · rw [if_pos h1]
    cases r with
    | nil => exact ⟨trivial, hg⟩
    | cons d r' => exact ⟨⟨good_down (hr d (by simp)) (getU hc.rng _), fun x hx => hr x (by simp [hx])⟩, hg⟩
theorem good_call {m : Md} {i : In} (hm : RightM m) {f : Fn} (hf : f ∈ m.f) (hi : i ∈ insF f) (ho : i.o = 14) {vs : List Int} (hv : ∀ x ∈ vs, U64 x) : GoodC m true ⟨blksOf m i.s, 0, 0, pickE vs i.l⟩ := by
  obtain ⟨g, hg, hne, hp⟩ := hm.call f hf i hi ho
  have e : blksOf m i.s = g.l := by unfold blksOf; rw [hg]
  have hl : 0 < g.l.length := List.length_pos_iff.2 hne
  rw [e]
  refine ⟨⟨g, (fnOf_mem hg).1, rfl⟩, ⟨g.l[0], List.getElem?_eq_getElem hl, Nat.zero_le _, ?_⟩, pickU hv⟩
  have := (func_parts (hm.fb g (fnOf_mem hg).1)).2.2 hl
  simp only [if_true, pick_length]
  omega
theorem good_wait {m : Md} {c : Cl} (h : GoodC m true c) {b : Bk} (hb : c.bs[c.k]? = some b) (hn : c.nx < b.i.length) : GoodC m false { c with nx := c.nx + 1 } := by
  obtain ⟨b', hb', hn', hl⟩ := h.blk
  rw [hb] at hb'
  cases hb'
  refine ⟨h.fn, ⟨b, hb, hn, ?_⟩, h.rng⟩
  simp only [Bool.false_eq_true, if_false]
  simp only [if_true] at hl
  omega
theorem good_more {m : Md} {c : Cl} (h : GoodC m true c) {b : Bk} (hb : c.bs[c.k]? = some b) (hn : c.nx < b.i.length) {v : Int} (hv : U64 v) : GoodC m true { c with nx := c.nx + 1, vs := c.vs ++ [v] } := good_down (good_wait h hb hn) hv
/-- a step leaves a right run right -/
theorem tick_good {m : Md} {inp : ByteArray} {dp : Nat} {s : Rs} {c : Cl} {r : List Cl} (hm : RightM m) (hs : s.cs = c :: r) (h : Good m s) (hok : (tick m inp dp s c r).2 = true) : Good m (tick m inp dp s c r).1 := by
  have hcs := h.cs
  rw [hs] at hcs
  obtain ⟨hc, hr⟩ := hcs
  obtain ⟨f, b, hf, hbs, hb, hbm, hn, hl, p0, p6, i32, he, hi⟩ := good_top hm hc
  unfold tick at hok ⊢
  rw [hb] at hok ⊢
  simp only at hok ⊢
  by_cases hx : c.nx < b.i.length
  · rw [List.getElem?_eq_getElem hx] at hok ⊢
    simp only at hok ⊢
    have him := insB_mem hbm (List.getElem_mem hx)
    by_cases ho : b.i[c.nx].o = 14
    · rw [if_pos ho] at hok ⊢
      by_cases hd : r.length + 1 = dp
      · rw [if_pos hd] at hok
        cases hok
      · rw [if_neg hd]
        exact ⟨⟨good_call hm hf him ho hc.rng, fun d hd' => by
          rcases List.mem_cons.1 hd' with rfl | hd'
          · exact good_wait hc hb hx
          · exact hr d hd'⟩, h.gl⟩
    · rw [if_neg ho]
      obtain ⟨v1, v2, -⟩ := valueU (inp := inp) (s := { s with steps := s.steps + 1 }) (i := b.i[c.nx]) hc.rng h.gl (hm.kr f hf _ him)
      exact ⟨⟨good_more hc hb hx v1, hr⟩, v2⟩
  · rw [List.getElem?_eq_none (by omega)]
    exact good_end hc hr h.gl he
end Go.Proofs.Ytoglmdadpchhoaa
namespace Go.Proofs.Ytoglmdadpchhoaa
open Go.RowKit
/-- within bounds -/
structure Bnd (inp : ByteArray) (dp fuel : Nat) (s : Rs) : Prop where
  rd : s.read ≤ inp.size
  ou : s.out.length ≤ s.steps
  de : s.deep ≤ 64
  cl : s.cs.length ≤ dp
  st : s.steps ≤ fuel
theorem value_bnd {inp : ByteArray} {s : Rs} {i : In} {vs : List Int} (hr : s.read ≤ inp.size) : (valueE inp s i vs).2.read ≤ inp.size ∧ (valueE inp s i vs).2.out.length ≤ s.out.length + 1 ∧ (valueE inp s i vs).2.deep = s.deep ∧ (valueE inp s i vs).2.steps = s.steps := by
  unfold valueE
  split; · exact ⟨hr, by simp, rfl, rfl⟩
  split; · exact ⟨hr, by simp, rfl, rfl⟩
  split; · exact ⟨hr, by simp, rfl, rfl⟩
  split
  · unfold readE
    simp only
    split
    · exact ⟨by simp only; omega, by simp, rfl, rfl⟩
    · exact ⟨hr, by simp, rfl, rfl⟩
  split; · exact ⟨hr, by simp, rfl, rfl⟩
  exact ⟨hr, by simp, rfl, rfl⟩
theorem end_bnd (s : Rs) (c : Cl) (r : List Cl) (t : Tm) : (endE s c r t).read = s.read ∧ (endE s c r t).out = s.out ∧ (endE s c r t).deep = s.deep ∧ (endE s c r t).steps = s.steps ∧ (endE s c r t).cs.length ≤ r.length + 1 := by
  unfold endE
  split
  · cases r <;> simp
  · split <;> simp
theorem tick_bnd {m : Md} {inp : ByteArray} {dp fuel : Nat} {s : Rs} {c : Cl} {r : List Cl} (hs : s.cs = c :: r) (h : Bnd inp dp fuel s) (hd : dp ≤ 64) (hf : s.steps < fuel) (hok : (tick m inp dp s c r).2 = true) :
    Bnd inp dp fuel (tick m inp dp s c r).1 ∧ (tick m inp dp s c r).1.steps = s.steps + 1 := by
  have hcl := h.cl
  rw [hs, List.length_cons] at hcl
  obtain ⟨h1, h2, h3, -, h5⟩ := h
  unfold tick at hok ⊢
  split at hok
  · cases hok
  · rename_i b _
    simp only
    split at hok
    · rename_i i _
      by_cases ho : i.o = 14
      · rw [if_pos ho] at hok ⊢
        by_cases hd' : r.length + 1 = dp
        · rw [if_pos hd'] at hok; cases hok
        · rw [if_neg hd']
          exact ⟨⟨h1, by simp only; omega, by simp only; omega, by simp only [List.length_cons]; omega, by simp only; omega⟩, rfl⟩
      · rw [if_neg ho]
        obtain ⟨a, b', c', d⟩ := value_bnd (inp := inp) (s := { s with steps := s.steps + 1 }) (i := i) (vs := c.vs) h1
        simp only at b' c' d
        exact ⟨⟨a, by simp only; omega, by simp only; omega, by simp only [List.length_cons]; omega, by simp only; omega⟩, d⟩
    · simp only
      obtain ⟨a, b', c', d, e⟩ := end_bnd { s with steps := s.steps + 1 } c r b.e
      simp only at a b' c' d
      exact ⟨⟨by omega, by rw [b', d]; omega, by omega, by omega, by omega⟩, d⟩
end Go.Proofs.Ytoglmdadpchhoaa
namespace Go.Proofs.Ytoglmdadpchhoaa
open Go.RowKit
/-- a run between two steps -/
structure Runs (W0 : World) (m : Md) (inp : ByteArray) (R B3 B4 dp fuel : Nat) (RES : Rs × Int) (L0 : Lay) (w : World) (L : Lay) (s : Rs) (W : World) : Prop where
  ok : RunOk W0 m inp R L s W
  good : Good m s
  bnd : Bnd inp dp fuel s
  l3 : L.lab B3 = 0
  l4 : L.lab B4 = 0
  c3 : W.cell? ⟨B3, 0, none⟩ = some (.pointer (some ⟨R, 0, none⟩))
  c4 : W.cell? ⟨B4, 0, none⟩ = some (.int .i64 fuel)
  fr : Fr L0 w W L
  res : runE m inp dp (fuel - s.steps) s = RES
section
variable {W0 : World} {m : Md} {inp : ByteArray} {R B3 B4 dp fuel : Nat} {RES : Rs × Int} {L0 : Lay} {w : World} {L L' : Lay} {s : Rs} {W W' : World}
theorem fr_cell {a : Addr} {v : Value} (hf : Fr L W W' L') (hl : L.lab a.block = 0) (hc : W.cell? a = some v) : W'.cell? a = some v :=
  (World.cell?_of_block (hf.2 a.block (World.block_lt_of_cell? W _ hc) hl).1).trans hc
/-- a step on -/
theorem Runs.next {c : Cl} {r : List Cl} (h : Runs W0 m inp R B3 B4 dp fuel RES L0 w L s W) (hm : RightM m) (hd : dp ≤ 64) (hs : s.cs = c :: r) (hf : s.steps < fuel) (ht : (tick m inp dp s c r).2 = true) (hok : RunOk W0 m inp R L' (tick m inp dp s c r).1 W') (hfr : Fr L W W' L') :
    Runs W0 m inp R B3 B4 dp fuel RES L0 w L' (tick m inp dp s c r).1 W' ∧ (tick m inp dp s c r).1.steps = s.steps + 1 := by
  obtain ⟨hb, hst⟩ := tick_bnd hs h.bnd hd hf ht
  refine ⟨{ ok := hok, good := tick_good hm hs h.good ht, bnd := hb, l3 := (hfr.2 B3 (World.block_lt_of_cell? W _ h.c3) h.l3).2, l4 := (hfr.2 B4 (World.block_lt_of_cell? W _ h.c4) h.l4).2, c3 := fr_cell (a := ⟨B3, 0, none⟩) hfr h.l3 h.c3, c4 := fr_cell (a := ⟨B4, 0, none⟩) hfr h.l4 h.c4, fr := h.fr.trans hfr, res := ?_ }, hst⟩
  rw [hst, ← h.res]
  obtain ⟨n, hn⟩ : ∃ n, fuel - s.steps = n + 1 := ⟨fuel - s.steps - 1, by omega⟩
  rw [hn, show fuel - (s.steps + 1) = n by omega]
  conv => rhs; unfold runE
  rw [hs]
  simp only
  obtain ⟨q, hq⟩ : ∃ q, tick m inp dp s c r = q := ⟨_, rfl⟩
  rw [hq] at ht ⊢
  obtain ⟨q1, q2⟩ := q
  simp only at ht
  subst ht
  rfl
/-- calls too deep -/
theorem Runs.deep {c : Cl} {r : List Cl} (h : Runs W0 m inp R B3 B4 dp fuel RES L0 w L s W) (hs : s.cs = c :: r) (hf : s.steps < fuel) (ht : (tick m inp dp s c r).2 = false) : RES = ((tick m inp dp s c r).1, 13) := by
  rw [← h.res]
  obtain ⟨n, hn⟩ : ∃ n, fuel - s.steps = n + 1 := ⟨fuel - s.steps - 1, by omega⟩
  rw [hn]
  unfold runE
  rw [hs]
  simp only
  obtain ⟨q, hq⟩ : ∃ q, tick m inp dp s c r = q := ⟨_, rfl⟩
  rw [hq] at ht ⊢
  obtain ⟨q1, q2⟩ := q
  simp only at ht
  subst ht
  rfl
end
end Go.Proofs.Ytoglmdadpchhoaa
namespace Go.Proofs.Ytoglmdadpchhoaa
open Go.RowKit
/-- behind value: w'; one more value of the last call, y9 -/
structure ValPath (W0 : World) (m : Md) (inp : ByteArray) (R : Nat) (L9 : Lay) (pre : List Gc) (y9 : Gc) (og ocap : Nat) (v : Int) (sx : Rs) (u w' : World) : Prop where
  c3 : w'.cell? ⟨og, pre.length * 4 + 3, none⟩ = some (.slice (some ⟨y9.g, 0, none⟩) y9.c.vs.length y9.cap)
  c3a : (w'.alloc (.cells #[.int .u64 v] 29)).cell? ⟨og, pre.length * 4 + 3, none⟩ = some (.slice (some ⟨y9.g, 0, none⟩) y9.c.vs.length y9.cap)
  own : (w'.alloc (.cells #[.int .u64 v] 29)).ownsRow 0 29 1 (.slice (some ⟨y9.g, 0, none⟩) y9.c.vs.length y9.cap) y9.c.vs.length (u64s y9.c.vs)
  same : ∀ k, k < u.heap.size → L9.lab k = 0 → w'.heap[k]? = u.heap[k]? ∧ (w'.alloc (.cells #[.int .u64 v] 29)).heap[k]? = u.heap[k]?
  last : ∀ w1 : World, w1.ownsRow 0 29 1 (.slice (some ⟨y9.g, 0, none⟩) (y9.c.vs.length + 1) y9.cap) (y9.c.vs.length + 1) (u64s y9.c.vs ++ [.int .u64 v]) → (w'.alloc (.cells #[.int .u64 v] 29)).grownBy w1 (some y9.g) →
    w1.frozen? ⟨og, pre.length * 4 + 3, none⟩ = false ∧ (∃ z, w1.cell? ⟨og, pre.length * 4 + 3, none⟩ = some z) ∧ (∀ k, k < u.heap.size → L9.lab k = 0 → w1.heap[k]? = u.heap[k]?) ∧
    ∃ L'', RunOk W0 m inp R L'' { sx with cs := (vsG y9 v).c :: (pre.map (·.c)).reverse } (w1.setCell ⟨og, pre.length * 4 + 3, none⟩ (.slice (some ⟨y9.g, 0, none⟩) (y9.c.vs.length + 1) y9.cap)) ∧
      Fr L9 u (w1.setCell ⟨og, pre.length * 4 + 3, none⟩ (.slice (some ⟨y9.g, 0, none⟩) (y9.c.vs.length + 1) y9.cap)) L'' ∧ L''.gs = pre ++ [vsG y9 v] ∧ L''.opv = .slice (some ⟨og, 0, none⟩) (pre.length + 1) ocap
end Go.Proofs.Ytoglmdadpchhoaa
namespace Go.Proofs.Ytoglmdadpchhoaa
open Go.RowKit
def mainN : ByteArray := ⟨#[109, 97, 105, 110]⟩
theorem mainN_list : mainN.toList = [109, 97, 105, 110] := by decide +kernel
end Go.Proofs.Ytoglmdadpchhoaa
namespace Go.Proofs.Ytoglmdadpchhoaa
open Go.RowKit
noncomputable def setD (l : List ByteArray) : DataW Unit := l.foldl (fun d s => d.put (slit s) (.agg [])) (.map [])
theorem setD_snoc (l : List ByteArray) (s : ByteArray) : setD (l ++ [s]) = (setD l).put (slit s) (.agg []) := by simp [setD]
theorem setD_rev : ∀ (r : List ByteArray), Maps.IsMap (setD r.reverse) ∧ ∀ s, Maps.has (setD r.reverse) (slit s) = true ↔ s ∈ r
  | [] => ⟨Maps.isMap_empty, fun s => by simp [setD, Maps.has_eq]⟩
  | x :: r => by
    obtain ⟨h1, h2⟩ := setD_rev r
    rw [List.reverse_cons, setD_snoc]
    refine ⟨h1.put _ _, fun s => ?_⟩
    by_cases hs : s = x
    · subst hs
      rw [Maps.has_put_same h1 (slit_key _)]
      simp
    · rw [Maps.has_put_other (fun e => hs (slit_inj e)), h2]
      simp [hs]
theorem setD_has (l : List ByteArray) (s : ByteArray) : Maps.has (setD l) (slit s) = true ↔ s ∈ l := by
  have h := (setD_rev l.reverse).2 s
  rw [List.reverse_reverse] at h
  rw [h]
  simp
end Go.Proofs.Ytoglmdadpchhoaa
namespace Go.Proofs.Ytoglmdadpchhoaa
open Go.RowKit
/-- a thing lies as well where the same cells lie -/
def Moves {α : Type} (sz : Nat) (P : World → Nat → Nat → α → Prop) : Prop := ∀ (W W' : World) (b off b' off' : Nat) (x : α), Below W.heap.size W W' → (∀ j, j < sz → W'.cell? ⟨b', off' + j, none⟩ = W.cell? ⟨b, off + j, none⟩) → P W b off x → P W' b' off' x
def OneCells {α : Type} (sz : Nat) (P : World → Nat → Nat → α → Prop) : Prop := ∀ (W : World) (b off : Nat) (x : α) (j : Nat), P W b off x → j < sz → ∃ u, W.cell? ⟨b, off + j, none⟩ = some u ∧ u.oneCell' = true
theorem cells_of {α : Type} {sz : Nat} {P : World → Nat → Nat → α → Prop} (h1 : OneCells sz P) (hsz : 0 < sz) {w : World} {b off : Nat} {l : List α} (h : ∀ (i : Nat) (hi : i < l.length), P w b (off + i * sz) l[i]) :
    ∃ ys : List Value, ys.length = l.length * sz ∧ (∀ j, j < l.length * sz → ys[j]? = w.cell? ⟨b, off + j, none⟩) ∧ (∀ u ∈ ys, u.oneCell' = true) := by
  have key : ∀ j, j < l.length * sz → ∃ u, w.cell? ⟨b, off + j, none⟩ = some u ∧ u.oneCell' = true := fun j hj => by
    have hi : j / sz < l.length := (Nat.div_lt_iff_lt_mul hsz).2 hj
    have e : off + j / sz * sz + j % sz = off + j := by
      have := Nat.div_add_mod' j sz
      omega
    have := h1 w b (off + j / sz * sz) l[j / sz] (j % sz) (h _ hi) (Nat.mod_lt _ hsz)
    rwa [e] at this
  refine ⟨(List.range (l.length * sz)).map (fun j => (w.cell? ⟨b, off + j, none⟩).getD (.bool false)), by simp, fun j hj => ?_, fun u hu => ?_⟩
  · obtain ⟨u, hu, -⟩ := key j hj
    rw [List.getElem?_map, List.getElem?_range hj, Option.map_some, hu]
    rfl
  · obtain ⟨j, hj, rfl⟩ := List.mem_map.1 hu
    obtain ⟨u, hu, h⟩ := key j (List.mem_range.1 hj)
    rw [hu]
    exact h
/-- a new row of the call's own with the same things -/
def NewRow {α : Type} (T : TypeId) (sz : Nat) (P : World → Nat → Nat → α → Prop) (l : List α) (v : Value) (w : World) (e : Ending) (w' : World) : Prop :=
  ∃ v' ys, e = .returned v' ∧ w'.ownsRow w.heap.size T sz v' l.length ys ∧ RowOf sz P w' v' l ∧ Below w.heap.size w w' ∧
    (0 < l.length → ∃ b off cap, v = .slice (some ⟨b, off, none⟩) l.length cap ∧ b < w.heap.size ∧ (∀ (i : Nat) (hi : i < l.length), P w b (off + i * sz) l[i]) ∧ ∀ j, j < l.length * sz → ys[j]? = w.cell? ⟨b, off + j, none⟩)
theorem row_new {α : Type} {sz : Nat} {P : World → Nat → Nat → α → Prop} (hM : Moves sz P) {w0 w' : World} {b off : Nat} {l : List α} (hbl : Below w0.heap.size w0 w') (hp : ∀ (i : Nat) (hi : i < l.length), P w0 b (off + i * sz) l[i])
    {base : Nat} {v : Value} {ys : List Value} {T : TypeId} (ho : w'.ownsRow base T sz v l.length ys) (hc : ∀ j, j < l.length * sz → ys[j]? = w0.cell? ⟨b, off + j, none⟩) (h0 : 0 < l.length) : RowOf sz P w' v l := by
  obtain ⟨g, cap, e, -, hlt⟩ := ho.form h0
  subst e
  refine .inr ⟨h0, g, 0, cap, rfl, hlt, fun i hi => hM w0 w' b (off + i * sz) g (0 + i * sz) l[i] hbl (fun j hj => ?_) (hp i hi)⟩
  have hlt2 : i * sz + j < l.length * sz := by
    have : (i + 1) * sz ≤ l.length * sz := Nat.mul_le_mul_right _ hi
    rw [Nat.add_mul, Nat.one_mul] at this
    omega
  rw [Nat.zero_add, ho.cellAt (i * sz + j) hlt2, hc _ hlt2, Nat.add_assoc]
theorem in_moves : Moves 6 InAt := by
  rintro W W' b off b' off' x hb hc ⟨h0, h1, h2, h3, h4, A, cap, h5, h6⟩
  have c0 := hc 0 (by omega)
  rw [Nat.add_zero, Nat.add_zero] at c0
  exact ⟨c0.trans h0, (hc 1 (by omega)).trans h1, (hc 2 (by omega)).trans h2, (hc 3 (by omega)).trans h3, (hc 4 (by omega)).trans h4, A, cap, (hc 5 (by omega)).trans h5, h6.next hb⟩
theorem bk_moves : Moves 8 BkAt := by
  rintro W W' b off b' off' x hb hc ⟨h0, ⟨A, c, h1, g1⟩, h2, h3, h4, ⟨A5, c5, h5, g5⟩, h6, A7, c7, h7, g7⟩
  have c0 := hc 0 (by omega)
  rw [Nat.add_zero, Nat.add_zero] at c0
  exact ⟨c0.trans h0, ⟨A, c, (hc 1 (by omega)).trans h1, g1.next hb⟩, (hc 2 (by omega)).trans h2, (hc 3 (by omega)).trans h3, (hc 4 (by omega)).trans h4, ⟨A5, c5, (hc 5 (by omega)).trans h5, g5.next hb⟩, (hc 6 (by omega)).trans h6, A7, c7, (hc 7 (by omega)).trans h7, g7.next hb⟩
theorem fn_moves : Moves 4 FnAt := by
  rintro W W' b off b' off' x hb hc ⟨h0, h1, h2, A, c, h3, g3⟩
  have c0 := hc 0 (by omega)
  rw [Nat.add_zero, Nat.add_zero] at c0
  exact ⟨c0.trans h0, (hc 1 (by omega)).trans h1, (hc 2 (by omega)).trans h2, A, c, (hc 3 (by omega)).trans h3, g3.next hb⟩
theorem gl_moves : Moves 4 GlAt := by
  rintro W W' b off b' off' x hb hc ⟨h0, h1, h2, h3⟩
  have c0 := hc 0 (by omega)
  rw [Nat.add_zero, Nat.add_zero] at c0
  exact ⟨c0.trans h0, (hc 1 (by omega)).trans h1, (hc 2 (by omega)).trans h2, (hc 3 (by omega)).trans h3⟩
theorem in_cells : OneCells 6 InAt := by
  rintro W b off x j ⟨h0, h1, h2, h3, h4, A, cap, h5, -⟩ hj
  match j, hj with
  | 0, _ => exact ⟨_, h0, rfl⟩
  | 1, _ => exact ⟨_, h1, rfl⟩
  | 2, _ => exact ⟨_, h2, rfl⟩
  | 3, _ => exact ⟨_, h3, rfl⟩
  | 4, _ => exact ⟨_, h4, rfl⟩
  | 5, _ => exact ⟨_, h5, rfl⟩
theorem bk_cells : OneCells 8 BkAt := by
  rintro W b off x j ⟨h0, ⟨A, c, h1, -⟩, h2, h3, h4, ⟨A5, c5, h5, -⟩, h6, A7, c7, h7, -⟩ hj
  match j, hj with
  | 0, _ => exact ⟨_, h0, rfl⟩
  | 1, _ => exact ⟨_, h1, rfl⟩
  | 2, _ => exact ⟨_, h2, rfl⟩
  | 3, _ => exact ⟨_, h3, rfl⟩
  | 4, _ => exact ⟨_, h4, rfl⟩
  | 5, _ => exact ⟨_, h5, rfl⟩
  | 6, _ => exact ⟨_, h6, rfl⟩
  | 7, _ => exact ⟨_, h7, rfl⟩
theorem fn_cells : OneCells 4 FnAt := by
  rintro W b off x j ⟨h0, h1, h2, A, c, h3, -⟩ hj
  match j, hj with
  | 0, _ => exact ⟨_, h0, rfl⟩
  | 1, _ => exact ⟨_, h1, rfl⟩
  | 2, _ => exact ⟨_, h2, rfl⟩
  | 3, _ => exact ⟨_, h3, rfl⟩
theorem gl_cells : OneCells 4 GlAt := by
  rintro W b off x j ⟨h0, h1, h2, h3⟩ hj
  match j, hj with
  | 0, _ => exact ⟨_, h0, rfl⟩
  | 1, _ => exact ⟨_, h1, rfl⟩
  | 2, _ => exact ⟨_, h2, rfl⟩
  | 3, _ => exact ⟨_, h3, rfl⟩
theorem in_inf : (Try.prog.info? 62).map (fun i => (i.zero, i.size, i.bytes)) = some (some (.agg #[.int .i64 0, .int .i64 0, .int .i64 0, .int .u64 0, .string ⟨#[]⟩, .slice none 0 0]), 6, 72) := by kernel_rfl
theorem bk_inf : (Try.prog.info? 67).map (fun i => (i.zero, i.size, i.bytes)) = some (some (.agg #[.int .i64 0, .slice none 0 0, .int .i64 0, .int .i64 0, .int .i64 0, .slice none 0 0, .int .i64 0, .slice none 0 0]), 8, 112) := by kernel_rfl
theorem gl_inf : (Try.prog.info? 54).map (fun i => (i.zero, i.size, i.bytes)) = some (some (.agg #[.string ⟨#[]⟩, .int .i64 0, .bool false, .int .u64 0]), 4, 40) := by kernel_rfl
set_option maxRecDepth 100000 in
set_option maxHeartbeats 2000000 in
/-- slices.Clone: a new row with the same, or nil -/
theorem cloneIns_any {l : List In} {v : Value} {w : World} (hP : Insts w v l) (hn : l.length * 72 ≤ 140737488355328) :
    Calls Try.prog 114 #[v] w (NewRow 62 6 InAt l v w) := by
  have HN := Lib.hid hn
  clear hn
  have q22 : ∀ (W : World) (a : Option Addr) (n c n' c' : Nat), (binOp .eql 63 (.slice a n c) (.slice none n' c')).run Try.prog W = .ok (.bool a.isNone) W := fun W a n c n' c' => Lib.run_eql_slice_nil W _ _ a n c n' c' Try.underlying63
  have O0 := fun W : World => Lib.hid (show (W.alloc (.cells #[] 62)).ownsRow W.heap.size 62 6 (.slice (some ⟨W.heap.size, 0, none⟩) 0 0) 0 [] from ⟨rfl, .inr ⟨W.heap.size, 0, #[], rfl, Nat.le_refl _, heap_alloc_new _ _, Nat.le_refl _, by unfold maxLen; omega, rfl, rfl⟩⟩)
  rcases hP with ⟨rfl, rfl | ⟨a, cap, rfl⟩⟩ | ⟨h0, b, off, cap, rfl, hb, hp⟩
  · go_enter Try.func114, Try.ntmps114
    go_wp2_with fail
    go_ret
    exact ⟨_, [], rfl, ⟨rfl, .inl ⟨rfl, rfl⟩⟩, .inl ⟨rfl, .inl rfl⟩, Below.refl _ _, fun h => absurd h (by simp)⟩
  · obtain ⟨i0, hi, hz0, hz1, hz2⟩ := info_parts in_inf
    have HII := Lib.hid (And.intro hi (And.intro hz0 (And.intro hz1 hz2)))
    have H0 := O0 w
    clear hi hz0 hz1 hz2 O0
    go_enter Try.func114, Try.ntmps114
    go_wp2_with fail
    go_ret
    exact ⟨_, [], rfl, H0.out, .inl ⟨rfl, .inr ⟨_, _, rfl⟩⟩, balloc (Below.refl _ _) _, fun h => absurd h (by simp)⟩
  · obtain ⟨i0, hi, hz0, hz1, hz2⟩ := info_parts in_inf
    have HII := Lib.hid (And.intro hi (And.intro hz0 (And.intro hz1 hz2)))
    obtain ⟨ys, hyl, hyc, hy1⟩ := cells_of in_cells (by decide) hp
    have HYL := Lib.hid hyl
    have HYC := Lib.hid hyc
    have HY1 := Lib.hid hy1
    have HP := Lib.hid hp
    have HL0 := Lib.hid h0
    have HBL := Lib.hid hb
    have HNE := Lib.hid (show ∀ j u, ys[j]? = some u → (w.alloc (.cells #[] 62)).cell? ((⟨b, off, none⟩ : Addr).add j) = some u from fun j u hj => by
      rw [int_add]
      have hj2 : j < l.length * 6 := by have := (List.getElem?_eq_some_iff.1 hj).1; omega
      rw [cellNext hb (balloc (Below.refl _ _) _), ← hyc j hj2]
      exact hj)
    obtain ⟨n, hn⟩ : ∃ n, l.length = n := ⟨_, rfl⟩
    rw [hn] at HYL
    rw [hn]
    have HNN := Lib.hid hn
    have H0 := O0 w
    have HM63 := Lib.hid (show 0 + n ≤ maxLen by unfold maxLen; have := HN.out; omega)
    have HM := Lib.hid (show (0 + n) * 72 ≤ 140737488355328 by have := HN.out; omega)
    clear hn hp h0 hb hi hz0 hz1 hz2 O0 hyl hyc hy1
    go_enter Try.func114, Try.ntmps114
    go_wp2_with (at_builtin; go_loud (refine wpList_append_own _ rfl _ _ 63 rfl w.heap.size 62 i0 _ 6 72 Try.underlying63 HII.out.1 HII.out.2.1 HII.out.2.2.1 HII.out.2.2.2 rfl (by decide) (.slice (some ⟨w.heap.size, 0, none⟩) 0 0) 0 [] rfl H0.out ⟨b, off, none⟩ n cap ys rfl HYL.out HNE.out HY1.out HM63.out HM.out (by simp) ?_; intro v' w1 hown hgrow hnil))
    have HO := Lib.hid hown
    have HB := Lib.hid ((balloc (Below.refl _ w) _).grown hgrow (by simp) (fun k hk => by cases hk; exact Nat.le_refl _))
    clear hown hgrow hnil
    go_wp2_with fail
    go_ret
    have ho : w1.ownsRow w.heap.size 62 6 v' l.length ys := by
      have := HO.out
      rw [Nat.zero_add, List.nil_append] at this
      rw [HNN.out]
      exact this
    exact ⟨_, ys, rfl, ho, row_new in_moves HB.out HP.out ho HYC.out HL0.out, HB.out, fun _ => ⟨b, off, cap, by rw [HNN.out], HBL.out, HP.out, HYC.out⟩⟩
set_option maxRecDepth 100000 in
set_option maxHeartbeats 2000000 in
/-- slices.Clone: a new row with the same, or nil -/
theorem cloneBks_any {l : List Bk} {v : Value} {w : World} (hP : Blocks w v l) (hn : l.length * 112 ≤ 140737488355328) :
    Calls Try.prog 106 #[v] w (NewRow 67 8 BkAt l v w) := by
  have HN := Lib.hid hn
  clear hn
  have q22 : ∀ (W : World) (a : Option Addr) (n c n' c' : Nat), (binOp .eql 48 (.slice a n c) (.slice none n' c')).run Try.prog W = .ok (.bool a.isNone) W := fun W a n c n' c' => Lib.run_eql_slice_nil W _ _ a n c n' c' Try.underlying48
  have O0 := fun W : World => Lib.hid (show (W.alloc (.cells #[] 67)).ownsRow W.heap.size 67 8 (.slice (some ⟨W.heap.size, 0, none⟩) 0 0) 0 [] from ⟨rfl, .inr ⟨W.heap.size, 0, #[], rfl, Nat.le_refl _, heap_alloc_new _ _, Nat.le_refl _, by unfold maxLen; omega, rfl, rfl⟩⟩)
  rcases hP with ⟨rfl, rfl | ⟨a, cap, rfl⟩⟩ | ⟨h0, b, off, cap, rfl, hb, hp⟩
  · go_enter Try.func106, Try.ntmps106
    go_wp2_with fail
    go_ret
    exact ⟨_, [], rfl, ⟨rfl, .inl ⟨rfl, rfl⟩⟩, .inl ⟨rfl, .inl rfl⟩, Below.refl _ _, fun h => absurd h (by simp)⟩
  · obtain ⟨i0, hi, hz0, hz1, hz2⟩ := info_parts bk_inf
    have HII := Lib.hid (And.intro hi (And.intro hz0 (And.intro hz1 hz2)))
    have H0 := O0 w
    clear hi hz0 hz1 hz2 O0
    go_enter Try.func106, Try.ntmps106
    go_wp2_with fail
    go_ret
    exact ⟨_, [], rfl, H0.out, .inl ⟨rfl, .inr ⟨_, _, rfl⟩⟩, balloc (Below.refl _ _) _, fun h => absurd h (by simp)⟩
  · obtain ⟨i0, hi, hz0, hz1, hz2⟩ := info_parts bk_inf
    have HII := Lib.hid (And.intro hi (And.intro hz0 (And.intro hz1 hz2)))
    obtain ⟨ys, hyl, hyc, hy1⟩ := cells_of bk_cells (by decide) hp
    have HYL := Lib.hid hyl
    have HYC := Lib.hid hyc
    have HY1 := Lib.hid hy1
    have HP := Lib.hid hp
    have HL0 := Lib.hid h0
    have HBL := Lib.hid hb
    have HNE := Lib.hid (show ∀ j u, ys[j]? = some u → (w.alloc (.cells #[] 67)).cell? ((⟨b, off, none⟩ : Addr).add j) = some u from fun j u hj => by
      rw [int_add]
      have hj2 : j < l.length * 8 := by have := (List.getElem?_eq_some_iff.1 hj).1; omega
      rw [cellNext hb (balloc (Below.refl _ _) _), ← hyc j hj2]
      exact hj)
    obtain ⟨n, hn⟩ : ∃ n, l.length = n := ⟨_, rfl⟩
    rw [hn] at HYL
    rw [hn]
    have HNN := Lib.hid hn
    have H0 := O0 w
    have HM63 := Lib.hid (show 0 + n ≤ maxLen by unfold maxLen; have := HN.out; omega)
    have HM := Lib.hid (show (0 + n) * 112 ≤ 140737488355328 by have := HN.out; omega)
    clear hn hp h0 hb hi hz0 hz1 hz2 O0 hyl hyc hy1
    go_enter Try.func106, Try.ntmps106
    go_wp2_with (at_builtin; go_loud (refine wpList_append_own _ rfl _ _ 48 rfl w.heap.size 67 i0 _ 8 112 Try.underlying48 HII.out.1 HII.out.2.1 HII.out.2.2.1 HII.out.2.2.2 rfl (by decide) (.slice (some ⟨w.heap.size, 0, none⟩) 0 0) 0 [] rfl H0.out ⟨b, off, none⟩ n cap ys rfl HYL.out HNE.out HY1.out HM63.out HM.out (by simp) ?_; intro v' w1 hown hgrow hnil))
    have HO := Lib.hid hown
    have HB := Lib.hid ((balloc (Below.refl _ w) _).grown hgrow (by simp) (fun k hk => by cases hk; exact Nat.le_refl _))
    clear hown hgrow hnil
    go_wp2_with fail
    go_ret
    have ho : w1.ownsRow w.heap.size 67 8 v' l.length ys := by
      have := HO.out
      rw [Nat.zero_add, List.nil_append] at this
      rw [HNN.out]
      exact this
    exact ⟨_, ys, rfl, ho, row_new bk_moves HB.out HP.out ho HYC.out HL0.out, HB.out, fun _ => ⟨b, off, cap, by rw [HNN.out], HBL.out, HP.out, HYC.out⟩⟩
set_option maxRecDepth 100000 in
set_option maxHeartbeats 2000000 in
/-- slices.Clone: a new row with the same, or nil -/
theorem cloneFns_any {l : List Fn} {v : Value} {w : World} (hP : Funcs w v l) (hn : l.length * 56 ≤ 140737488355328) :
    Calls Try.prog 92 #[v] w (NewRow 50 4 FnAt l v w) := by
  have HN := Lib.hid hn
  clear hn
  have q22 : ∀ (W : World) (a : Option Addr) (n c n' c' : Nat), (binOp .eql 22 (.slice a n c) (.slice none n' c')).run Try.prog W = .ok (.bool a.isNone) W := fun W a n c n' c' => Lib.run_eql_slice_nil W _ _ a n c n' c' Try.underlying22
  have O0 := fun W : World => Lib.hid (show (W.alloc (.cells #[] 50)).ownsRow W.heap.size 50 4 (.slice (some ⟨W.heap.size, 0, none⟩) 0 0) 0 [] from ⟨rfl, .inr ⟨W.heap.size, 0, #[], rfl, Nat.le_refl _, heap_alloc_new _ _, Nat.le_refl _, by unfold maxLen; omega, rfl, rfl⟩⟩)
  rcases hP with ⟨rfl, rfl | ⟨a, cap, rfl⟩⟩ | ⟨h0, b, off, cap, rfl, hb, hp⟩
  · go_enter Try.func92, Try.ntmps92
    go_wp2_with fail
    go_ret
    exact ⟨_, [], rfl, ⟨rfl, .inl ⟨rfl, rfl⟩⟩, .inl ⟨rfl, .inl rfl⟩, Below.refl _ _, fun h => absurd h (by simp)⟩
  · obtain ⟨i0, hi, hz0, hz1, hz2⟩ := info_parts fn_info
    have HII := Lib.hid (And.intro hi (And.intro hz0 (And.intro hz1 hz2)))
    have H0 := O0 w
    clear hi hz0 hz1 hz2 O0
    go_enter Try.func92, Try.ntmps92
    go_wp2_with fail
    go_ret
    exact ⟨_, [], rfl, H0.out, .inl ⟨rfl, .inr ⟨_, _, rfl⟩⟩, balloc (Below.refl _ _) _, fun h => absurd h (by simp)⟩
  · obtain ⟨i0, hi, hz0, hz1, hz2⟩ := info_parts fn_info
    have HII := Lib.hid (And.intro hi (And.intro hz0 (And.intro hz1 hz2)))
    obtain ⟨ys, hyl, hyc, hy1⟩ := cells_of fn_cells (by decide) hp
    have HYL := Lib.hid hyl
    have HYC := Lib.hid hyc
    have HY1 := Lib.hid hy1
    have HP := Lib.hid hp
    have HL0 := Lib.hid h0
    have HBL := Lib.hid hb
    have HNE := Lib.hid (show ∀ j u, ys[j]? = some u → (w.alloc (.cells #[] 50)).cell? ((⟨b, off, none⟩ : Addr).add j) = some u from fun j u hj => by
      rw [int_add]
      have hj2 : j < l.length * 4 := by have := (List.getElem?_eq_some_iff.1 hj).1; omega
      rw [cellNext hb (balloc (Below.refl _ _) _), ← hyc j hj2]
      exact hj)
    obtain ⟨n, hn⟩ : ∃ n, l.length = n := ⟨_, rfl⟩
    rw [hn] at HYL
    rw [hn]
    have HNN := Lib.hid hn
    have H0 := O0 w
    have HM63 := Lib.hid (show 0 + n ≤ maxLen by unfold maxLen; have := HN.out; omega)
    have HM := Lib.hid (show (0 + n) * 56 ≤ 140737488355328 by have := HN.out; omega)
    clear hn hp h0 hb hi hz0 hz1 hz2 O0 hyl hyc hy1
    go_enter Try.func92, Try.ntmps92
    go_wp2_with (at_builtin; go_loud (refine wpList_append_own _ rfl _ _ 22 rfl w.heap.size 50 i0 _ 4 56 Try.underlying22 HII.out.1 HII.out.2.1 HII.out.2.2.1 HII.out.2.2.2 rfl (by decide) (.slice (some ⟨w.heap.size, 0, none⟩) 0 0) 0 [] rfl H0.out ⟨b, off, none⟩ n cap ys rfl HYL.out HNE.out HY1.out HM63.out HM.out (by simp) ?_; intro v' w1 hown hgrow hnil))
    have HO := Lib.hid hown
    have HB := Lib.hid ((balloc (Below.refl _ w) _).grown hgrow (by simp) (fun k hk => by cases hk; exact Nat.le_refl _))
    clear hown hgrow hnil
    go_wp2_with fail
    go_ret
    have ho : w1.ownsRow w.heap.size 50 4 v' l.length ys := by
      have := HO.out
      rw [Nat.zero_add, List.nil_append] at this
      rw [HNN.out]
      exact this
    exact ⟨_, ys, rfl, ho, row_new fn_moves HB.out HP.out ho HYC.out HL0.out, HB.out, fun _ => ⟨b, off, cap, by rw [HNN.out], HBL.out, HP.out, HYC.out⟩⟩
set_option maxRecDepth 100000 in
set_option maxHeartbeats 2000000 in
/-- slices.Clone: a new row with the same, or nil -/
theorem cloneGls_any {l : List Gl} {v : Value} {w : World} (hP : Globs w v l) (hn : l.length * 40 ≤ 140737488355328) :
    Calls Try.prog 75 #[v] w (NewRow 54 4 GlAt l v w) := by
  have HN := Lib.hid hn
  clear hn
  have q22 : ∀ (W : World) (a : Option Addr) (n c n' c' : Nat), (binOp .eql 23 (.slice a n c) (.slice none n' c')).run Try.prog W = .ok (.bool a.isNone) W := fun W a n c n' c' => Lib.run_eql_slice_nil W _ _ a n c n' c' Try.underlying23
  have O0 := fun W : World => Lib.hid (show (W.alloc (.cells #[] 54)).ownsRow W.heap.size 54 4 (.slice (some ⟨W.heap.size, 0, none⟩) 0 0) 0 [] from ⟨rfl, .inr ⟨W.heap.size, 0, #[], rfl, Nat.le_refl _, heap_alloc_new _ _, Nat.le_refl _, by unfold maxLen; omega, rfl, rfl⟩⟩)
  rcases hP with ⟨rfl, rfl | ⟨a, cap, rfl⟩⟩ | ⟨h0, b, off, cap, rfl, hb, hp⟩
  · go_enter Try.func75, Try.ntmps75
    go_wp2_with fail
    go_ret
    exact ⟨_, [], rfl, ⟨rfl, .inl ⟨rfl, rfl⟩⟩, .inl ⟨rfl, .inl rfl⟩, Below.refl _ _, fun h => absurd h (by simp)⟩
  · obtain ⟨i0, hi, hz0, hz1, hz2⟩ := info_parts gl_inf
    have HII := Lib.hid (And.intro hi (And.intro hz0 (And.intro hz1 hz2)))
    have H0 := O0 w
    clear hi hz0 hz1 hz2 O0
    go_enter Try.func75, Try.ntmps75
    go_wp2_with fail
    go_ret
    exact ⟨_, [], rfl, H0.out, .inl ⟨rfl, .inr ⟨_, _, rfl⟩⟩, balloc (Below.refl _ _) _, fun h => absurd h (by simp)⟩
  · obtain ⟨i0, hi, hz0, hz1, hz2⟩ := info_parts gl_inf
    have HII := Lib.hid (And.intro hi (And.intro hz0 (And.intro hz1 hz2)))
    obtain ⟨ys, hyl, hyc, hy1⟩ := cells_of gl_cells (by decide) hp
    have HYL := Lib.hid hyl
    have HYC := Lib.hid hyc
    have HY1 := Lib.hid hy1
    have HP := Lib.hid hp
    have HL0 := Lib.hid h0
    have HBL := Lib.hid hb
    have HNE := Lib.hid (show ∀ j u, ys[j]? = some u → (w.alloc (.cells #[] 54)).cell? ((⟨b, off, none⟩ : Addr).add j) = some u from fun j u hj => by
      rw [int_add]
      have hj2 : j < l.length * 4 := by have := (List.getElem?_eq_some_iff.1 hj).1; omega
      rw [cellNext hb (balloc (Below.refl _ _) _), ← hyc j hj2]
      exact hj)
    obtain ⟨n, hn⟩ : ∃ n, l.length = n := ⟨_, rfl⟩
    rw [hn] at HYL
    rw [hn]
    have HNN := Lib.hid hn
    have H0 := O0 w
    have HM63 := Lib.hid (show 0 + n ≤ maxLen by unfold maxLen; have := HN.out; omega)
    have HM := Lib.hid (show (0 + n) * 40 ≤ 140737488355328 by have := HN.out; omega)
    clear hn hp h0 hb hi hz0 hz1 hz2 O0 hyl hyc hy1
    go_enter Try.func75, Try.ntmps75
    go_wp2_with (at_builtin; go_loud (refine wpList_append_own _ rfl _ _ 23 rfl w.heap.size 54 i0 _ 4 40 Try.underlying23 HII.out.1 HII.out.2.1 HII.out.2.2.1 HII.out.2.2.2 rfl (by decide) (.slice (some ⟨w.heap.size, 0, none⟩) 0 0) 0 [] rfl H0.out ⟨b, off, none⟩ n cap ys rfl HYL.out HNE.out HY1.out HM63.out HM.out (by simp) ?_; intro v' w1 hown hgrow hnil))
    have HO := Lib.hid hown
    have HB := Lib.hid ((balloc (Below.refl _ w) _).grown hgrow (by simp) (fun k hk => by cases hk; exact Nat.le_refl _))
    clear hown hgrow hnil
    go_wp2_with fail
    go_ret
    have ho : w1.ownsRow w.heap.size 54 4 v' l.length ys := by
      have := HO.out
      rw [Nat.zero_add, List.nil_append] at this
      rw [HNN.out]
      exact this
    exact ⟨_, ys, rfl, ho, row_new gl_moves HB.out HP.out ho HYC.out HL0.out, HB.out, fun _ => ⟨b, off, cap, by rw [HNN.out], HBL.out, HP.out, HYC.out⟩⟩
end Go.Proofs.Ytoglmdadpchhoaa
