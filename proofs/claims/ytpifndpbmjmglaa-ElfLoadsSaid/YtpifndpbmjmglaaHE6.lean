/- What the texts of package resolve stand on, of the packages ir and pick (part 7). -/
import Derived.Test.YtpifndpbmjmglaaHE5
import Derived.Shelf.Strings.BuilderK
import Derived.Shelf.Strings.Repeat
namespace Go.Proofs.Ytpifndpbmjmglaa.E
open Go.RowKit
theorem ret_int {k : IntKind} {a b : Int} (h : a = b) : Ending.returned (.int k a) = .returned (.int k b) := by rw [h]
theorem ret_bool {a b : Bool} (h : a = b) : Ending.returned (.bool a) = .returned (.bool b) := by rw [h]
end Go.Proofs.Ytpifndpbmjmglaa.E
namespace Go.Proofs.Ytpifndpbmjmglaa.E
open Go.RowKit
/-- the two tables, kinds and forms, as they were laid -/
structure Tabs (w : World) : Prop where
  size : 1 < w.heap.size
  kf : ∀ k, k < 32 → w.cell? ⟨0, k * 4, none⟩ = some (.int .i64 (M.fm k))
  ko : ∀ k, k < 32 → w.cell? ⟨0, k * 4 + 1, none⟩ = some (.int .u32 (M.op k))
  k3 : ∀ k, k < 32 → w.cell? ⟨0, k * 4 + 2, none⟩ = some (.int .u32 (M.f3 k))
  k7 : ∀ k, k < 32 → w.cell? ⟨0, k * 4 + 3, none⟩ = some (.int .u32 (M.f7 k))
  fd : ∀ f, f < 8 → w.cell? ⟨1, f * 6, none⟩ = some (.bool (M.hasRd f))
  fa : ∀ f, f < 8 → w.cell? ⟨1, f * 6 + 1, none⟩ = some (.bool (M.hasA f))
  fb : ∀ f, f < 8 → w.cell? ⟨1, f * 6 + 2, none⟩ = some (.bool (M.hasB f))
  fl : ∀ f, f < 8 → w.cell? ⟨1, f * 6 + 3, none⟩ = some (.int .i64 (M.lo f))
  fh : ∀ f, f < 8 → w.cell? ⟨1, f * 6 + 4, none⟩ = some (.int .i64 (M.hi f))
  fu : ∀ f, f < 8 → w.cell? ⟨1, f * 6 + 5, none⟩ = some (.int .i64 (M.mu f))
theorem Tabs.keep {w w' : World} (h : Tabs w) (hz : w.heap.size ≤ w'.heap.size) (hc : ∀ p : Addr, p.block < 2 → w'.cell? p = w.cell? p) : Tabs w' := by
  constructor
  · exact Nat.lt_of_lt_of_le h.size hz
  all_goals intro k hk
  · exact (hc _ (show (0 : Nat) < 2 by decide)).trans (h.kf k hk)
  · exact (hc _ (show (0 : Nat) < 2 by decide)).trans (h.ko k hk)
  · exact (hc _ (show (0 : Nat) < 2 by decide)).trans (h.k3 k hk)
  · exact (hc _ (show (0 : Nat) < 2 by decide)).trans (h.k7 k hk)
  · exact (hc _ (show (1 : Nat) < 2 by decide)).trans (h.fd k hk)
  · exact (hc _ (show (1 : Nat) < 2 by decide)).trans (h.fa k hk)
  · exact (hc _ (show (1 : Nat) < 2 by decide)).trans (h.fb k hk)
  · exact (hc _ (show (1 : Nat) < 2 by decide)).trans (h.fl k hk)
  · exact (hc _ (show (1 : Nat) < 2 by decide)).trans (h.fh k hk)
  · exact (hc _ (show (1 : Nat) < 2 by decide)).trans (h.fu k hk)
theorem Tabs.below {w w' : World} {B : Nat} (h : Tabs w) (hb : Below B w w') (hB : 2 ≤ B) : Tabs w' := h.keep hb.size fun _ hp => hb.cell (by omega)
theorem Tabs.alloc {w : World} (h : Tabs w) (o : Obj) : Tabs (w.alloc o) := h.below ((Below.refl _ _).alloc (Nat.le_refl _) o) (by have := h.size; omega)
theorem bcell {W w1 : World} (hb : Below W.heap.size W w1) : (∀ b o, b < W.heap.size → w1.cell? ⟨b, o, none⟩ = W.cell? ⟨b, o, none⟩) ∧ (∀ b o, b < W.heap.size → w1.frozen? ⟨b, o, none⟩ = W.frozen? ⟨b, o, none⟩) :=
  ⟨fun b o h => hb.cell (p := ⟨b, o, none⟩) h, fun b o h => hb.frozen (p := ⟨b, o, none⟩) h⟩
end Go.Proofs.Ytpifndpbmjmglaa.E
namespace Go.Proofs.Ytpifndpbmjmglaa.E
open Go.ChangeShapes Go.WideShapes Go.ChangeAt Go.RowKit Go.Deep
section
variable {H : Type} {enc : TypeId × Value → H} {P : Program} {w : World} {base : Nat} {spare : Nat → Bool} {held : Bool}
/-- a struct of one-cell fields, read: each field's cell with its own reading -/
theorem row_of {t : TypeId} {fs : Array Field} {fuel : Nat} {cs : List Value} {x : DataW H × List MemPlace} (ht : P.underlying t = some (.struct fs)) (hone : oneCellFields P fs = true) (hC : P.cellsOf t = fs.size)
    (h : DataW.trod enc P w base spare held fuel t cs = some x) :
    ∃ (ys : List (DataW H × List MemPlace)) (n : Nat), x.1 = .agg (ys.map (·.1)) ∧ ys.length = fs.size ∧ cs.length = fs.size ∧
      ∀ (j : Nat) (f : Field), fs[j]? = some f → ∃ c y, cs[j]? = some c ∧ ys[j]? = some y ∧ DataW.trod enc P w base spare held n f.type [c] = some y := by
  obtain ⟨ys, n, _, hx, hlen, hyl, hf⟩ := DataW.trod_struct ht h
  refine ⟨ys, n, by rw [hx], hyl, hlen.trans hC, fun j f hj => ?_⟩
  obtain ⟨ho, hk⟩ := hone_of hone j f hj
  have hjl : j < fs.size := (Array.getElem?_eq_some_iff.1 hj).1
  have h1 := hf j f hj
  rw [ho, hk] at h1
  have hcl : j < cs.length := by omega
  have hone' : (cs.drop j).take 1 = [cs[j]] := by
    rw [List.drop_eq_getElem_cons hcl]
    rfl
  rw [hone'] at h1
  exact ⟨_, _, List.getElem?_eq_getElem hcl, List.getElem?_eq_getElem (by omega), h1.trans (List.getElem?_eq_getElem (by omega))⟩
end
def fd {H : Type} (f : Nat) : DataW H := .agg [.lit (.bool (M.hasRd f)), .lit (.bool (M.hasA f)), .lit (.bool (M.hasB f)), .lit (.int .i64 (M.lo f)), .lit (.int .i64 (M.hi f)), .lit (.int .i64 (M.mu f))]
section
variable {H : Type} {enc : TypeId × Value → H} {w : World} {base : Nat} {spare : Nat → Bool} {held : Bool}
end
end Go.Proofs.Ytpifndpbmjmglaa.E
namespace Go.Proofs.Ytpifndpbmjmglaa.E
open Go.RowKit
end Go.Proofs.Ytpifndpbmjmglaa.E
namespace Go.Proofs.Ytpifndpbmjmglaa.E
open Go.RowKit
def NoneTo (v : Int) (n : Nat) : Prop := ∀ k : Nat, 1 ≤ k → k < n → M.okAt v k = false
theorem NoneTo.more {v : Int} {n : Nat} (h : NoneTo v n) (h' : M.okAt v n = false) : NoneTo v (n + 1) := fun k h1 h2 => by
  by_cases e : k = n
  · subst e; exact h'
  · exact h k h1 (by omega)
end Go.Proofs.Ytpifndpbmjmglaa.E
namespace Go.Proofs.Ytpifndpbmjmglaa.E
open Go.RowKit
theorem Tabs.next {W w' : World} (T : Tabs W) (hb : Below W.heap.size W w') : Tabs w' := T.below hb T.size
theorem bthen {w W w' : World} (h : Below w.heap.size w W) (hb : Below W.heap.size W w') : Below w.heap.size w w' := h.trans (hb.mono h.size)
theorem balloc {w W : World} (h : Below w.heap.size w W) (o : Obj) : Below w.heap.size w (W.alloc o) := h.alloc h.size o
end Go.Proofs.Ytpifndpbmjmglaa.E
namespace Go.Proofs.Ytpifndpbmjmglaa.E
open Go.ChangeShapes Go.WideShapes Go.ChangeAt Go.RowKit Go.Deep Go.Joins
theorem own : ownKnob Try.prog.godebug = none := by kernel_rfl
theorem laidOut : laidOutB Try.prog = true := by kernel_rfl
def setCells (cs : Array Value) : Obj → Obj
  | .cells _ t frozen => .cells cs t frozen
  | o => o
section
variable {H : Type} {enc : TypeId × Value → H}
/-- the arguments read behind the call as they read before -/
theorem trodAll_below {W W' : World} (bel : Below W.heap.size W W') : ∀ (ts : List TypeId) (vs : List Value) (ds : List (DataW H)) (p : List MemPlace),
    (∀ t ∈ ts, Try.prog.readableRec t = true ∧ t < Try.prog.types.size) → DataW.TrodAll enc Try.prog W 0 (fun _ => true) true ts vs ds p → (∀ x ∈ p, x.block < W.heap.size) →
    DataW.TrodAll enc Try.prog W' 0 (fun b => decide (b < W.heap.size)) true ts vs ds p := by
  intro ts
  induction ts with
  | nil =>
    intro vs ds p _ h _
    obtain ⟨rfl, rfl, rfl⟩ := trodAll_nil h
    exact trodAll_mk0
  | cons t ts ih =>
    intro vs ds p ht h hp
    obtain ⟨v, vs', d, ds', p1, p2, rfl, rfl, rfl, h1, h2⟩ := trodAll_cons h
    have ht1 := ht t (by simp)
    exact trodAll_cons_mk (Below.trod laidOut ht1.1 ht1.2 h1 bel (fun x hx => hp x (by simp [hx]))) (ih vs' ds' p2 (fun t ht' => ht t (by simp [ht'])) h2 (fun x hx => hp x (by simp [hx])))
/-- the row's last step, of every law -/
theorem law_post {f : Func} {s : ChangeSpec} {W W' : World} {args : Array Value} {ds gs : List (DataW H)} {before : List MemPlace} (hv : s.vars = []) (hr : f.resultTypes = #[4])
    (ht : ∀ t ∈ f.params.toList, Try.prog.readableRec t = true ∧ t < Try.prog.types.size)
    (hW : DataW.Whole enc Try.prog f.params.toList s.vars false W args.toList ds gs before) (bel : Below W.heap.size W W')
    (h1 : (s.fn H (ds ++ gs)).results = [.lit (.bool true)]) (h2 : (s.fn H (ds ++ gs)).args = ds) (h3 : (s.fn H (ds ++ gs)).vars = []) :
    s.post enc Try.prog f false true false false W args (.bool true) W' := by
  have hlt : ∀ p ∈ before, p.block < W.heap.size := fun p hp => hW.lt p hp
  have hW' := hW
  obtain ⟨p, q, hA, hV, rfl, _, _⟩ := hW
  refine ⟨ds, gs, p ++ q, [], p, [], hW', ?_, ?_, ?_, bel.frame _, fun h => by cases h⟩
  · rw [h1, hr]
    exact trodAll_mk1 (shut_bool Try.underlying4 _)
  · rw [h2]
    exact trodAll_below bel _ _ _ _ ht hA (fun x hx => hlt x (by simp [hx]))
  · rw [h3, hv]
    rfl
end
end Go.Proofs.Ytpifndpbmjmglaa.E
namespace Go.Proofs.Ytpifndpbmjmglaa.E
open Go.RowKit
end Go.Proofs.Ytpifndpbmjmglaa.E
namespace Go.Proofs.Ytpifndpbmjmglaa.E
open Go.RowKit
end Go.Proofs.Ytpifndpbmjmglaa.E
namespace Go.Proofs.Ytpifndpbmjmglaa.E
open Go.RowKit
end Go.Proofs.Ytpifndpbmjmglaa.E
namespace Go.Proofs.Ytpifndpbmjmglaa.E
open Go.RowKit
end Go.Proofs.Ytpifndpbmjmglaa.E
namespace Go.Proofs.Ytpifndpbmjmglaa.E
open Go.RowKit
theorem drewN_below (w : World) (n : Nat) : Below w.heap.size w (w.drewN n) := ⟨rfl, rfl, rfl, Nat.le_refl _, fun _ _ => rfl⟩
end Go.Proofs.Ytpifndpbmjmglaa.E
namespace Go.Proofs.Ytpifndpbmjmglaa.E
open Go.RowKit
end Go.Proofs.Ytpifndpbmjmglaa.E
namespace Go.Proofs.Ytpifndpbmjmglaa.E
open Go.RowKit
end Go.Proofs.Ytpifndpbmjmglaa.E
namespace Go.Proofs.Ytpifndpbmjmglaa.E
open Go.RowKit
end Go.Proofs.Ytpifndpbmjmglaa.E
namespace Go.Proofs.Ytpifndpbmjmglaa.E
open Go.RowKit
/-- five numbers that lie in a block of their own -/
def Five (W : World) (B : Nat) (c0 c1 c2 c3 c4 : Int) : Prop :=
  W.cell? ⟨B, 0, none⟩ = some (.int .i64 c0) ∧ W.cell? ⟨B, 1, none⟩ = some (.int .i64 c1) ∧ W.cell? ⟨B, 2, none⟩ = some (.int .i64 c2) ∧ W.cell? ⟨B, 3, none⟩ = some (.int .i64 c3) ∧ W.cell? ⟨B, 4, none⟩ = some (.int .i64 c4) ∧
    (∀ j, W.frozen? ⟨B, j, none⟩ = false) ∧ B < W.heap.size
theorem Five.next {W W' : World} {B : Nat} {c0 c1 c2 c3 c4 : Int} (h : Five W B c0 c1 c2 c3 c4) (hb : Below W.heap.size W W') : Five W' B c0 c1 c2 c3 c4 := by
  obtain ⟨h0, h1, h2, h3, h4, hf, hl⟩ := h
  exact ⟨(hb.cell (p := ⟨B, 0, none⟩) hl).trans h0, (hb.cell (p := ⟨B, 1, none⟩) hl).trans h1, (hb.cell (p := ⟨B, 2, none⟩) hl).trans h2, (hb.cell (p := ⟨B, 3, none⟩) hl).trans h3, (hb.cell (p := ⟨B, 4, none⟩) hl).trans h4, fun j => (hb.frozen (p := ⟨B, j, none⟩) hl).trans (hf j), Nat.lt_of_lt_of_le hl hb.size⟩
end Go.Proofs.Ytpifndpbmjmglaa.E
namespace Go.Proofs.Ytpifndpbmjmglaa
open Go.RowKit
def RetIs (v : Value) (w : World) (e : Ending) (w' : World) : Prop := e = .returned v ∧ Below w.heap.size w w'
end Go.Proofs.Ytpifndpbmjmglaa
namespace Go.Proofs.Ytpifndpbmjmglaa
open Go.RowKit
theorem Pages.keep {W W' : World} {v : Value} {m : List M.Pg} {r : Nat} {k : Mc} (h : Pages W v m) (hg : W.grownBy W' (some r)) (hr : Mach W r k) (hne : ∀ b off n c, v = .slice (some ⟨b, off, none⟩) n c → b ≠ r) : Pages W' v m := by
  rcases h with h | ⟨h1, b, off, cap, rfl, h2⟩
  · exact .inl h
  · refine .inr ⟨h1, b, off, cap, rfl, Nat.lt_of_lt_of_le h2.1 hg.size, fun i hi => ?_⟩
    have hb : W'.heap[b]? = W.heap[b]? := hg.block b h2.1 (fun e => hne b off _ cap rfl (Option.some.inj e))
    have hc : ∀ j, W'.cell? ⟨b, j, none⟩ = W.cell? ⟨b, j, none⟩ := fun j => by unfold World.cell?; simp only [hb]
    obtain ⟨e0, e1, e2⟩ := h2.2 i hi
    exact ⟨(hc _).trans e0, (hc _).trans e1, (hc _).trans e2⟩
/-- all blocks below B but N are as they were -/
def KeepN (B N : Nat) (W W' : World) : Prop := W.heap.size ≤ W'.heap.size ∧ ∀ b, b < B → b ≠ N → W'.heap[b]? = W.heap[b]?
theorem KeepN.grown {B N : Nat} {W W' W2 : World} (h : KeepN B N W W') (hg : W'.grownBy W2 (some N)) (hB : B ≤ W'.heap.size) : KeepN B N W W2 :=
  ⟨Nat.le_trans h.1 hg.size, fun b hb hn => (hg.block b (by omega) (fun e => hn (Option.some.inj e))).trans (h.2 b hb hn)⟩
theorem KeepN.below {B N : Nat} {W W' W2 : World} (h : KeepN B N W W') (hB : B ≤ W'.heap.size) (hb : Below W'.heap.size W' W2) : KeepN B N W W2 :=
  ⟨Nat.le_trans h.1 hb.size, fun b hb' hn => (hb.block b (by omega)).trans (h.2 b hb' hn)⟩
theorem KeepN.pages {B N : Nat} {W W' : World} {v : Value} {m : List M.Pg} (h : KeepN B N W W') (hP : Pages W v m) (hB : W.heap.size = B) (hne : ∀ b off n c, v = .slice (some ⟨b, off, none⟩) n c → b ≠ N) : Pages W' v m := by
  rcases hP with hP | ⟨h1, b, off, cap, rfl, h2⟩
  · exact .inl hP
  · refine .inr ⟨h1, b, off, cap, rfl, Nat.lt_of_lt_of_le h2.1 h.1, fun i hi => ?_⟩
    have hb : W'.heap[b]? = W.heap[b]? := h.2 b (hB ▸ h2.1) (hne b off _ cap rfl)
    have hc : ∀ j, W'.cell? ⟨b, j, none⟩ = W.cell? ⟨b, j, none⟩ := fun j => by unfold World.cell?; simp only [hb]
    obtain ⟨e0, e1, e2⟩ := h2.2 i hi
    exact ⟨(hc _).trans e0, (hc _).trans e1, (hc _).trans e2⟩
end Go.Proofs.Ytpifndpbmjmglaa
namespace Go.Proofs.Ytpifndpbmjmglaa
open Go.RowKit
/-- the block that a row of pages lies in is one of pages -/
def PgTy (W : World) (A : Option Addr) : Prop := ∀ b off, A = some ⟨b, off, none⟩ → ∃ cs fz, W.heap[b]? = some (.cells cs 70 fz)
theorem PgTy.next {W W' : World} {A : Option Addr} (h : PgTy W A) (hb : Below W.heap.size W W') : PgTy W' A := fun b off e => by
  obtain ⟨cs, fz, h1⟩ := h b off e
  exact ⟨cs, fz, (hb.block b (Array.getElem?_eq_some_iff.1 h1).1).trans h1⟩
end Go.Proofs.Ytpifndpbmjmglaa
namespace Go.Proofs.Ytpifndpbmjmglaa
open Go.ChangeShapes Go.WideShapes Go.ChangeAt Go.RowKit Go.Deep Go.Joins
section
variable {H : Type} {enc : TypeId × Value → H}
/-- bounds of a machine -/
structure MB (k : Mc) (m : List M.Pg) : Prop where
  x : ∀ j, j < 32 → 0 ≤ k.x j ∧ k.x j ≤ 18446744073709551615
  pc : 0 ≤ k.pc ∧ k.pc ≤ 18446744073709551615
  cd : 0 ≤ k.cd ∧ k.cd ≤ 18446744073709551615
  n : 0 ≤ k.n ∧ k.n ≤ 18446744073709551615
  st : -9223372036854775808 ≤ k.st ∧ k.st ≤ 9223372036854775807
  wf : Wf m
  ml : k.ml = m.length
end
end Go.Proofs.Ytpifndpbmjmglaa
namespace Go.Proofs.Ytpifndpbmjmglaa
open Go.RowKit
def eqPg (x y : M.Pg) : Bool := x.a == y.a && (x.p == y.p && x.d == y.d)
theorem ba_beq (x y : ByteArray) : (x == y) = true ↔ x = y := by
  rw [beq_toListBytes, beq_iff_eq, ByteArray.toList_eq, ByteArray.toList_eq]
  constructor
  · intro h
    obtain ⟨x⟩ := x
    obtain ⟨y⟩ := y
    congr 1
    exact Array.toList_inj.1 h
  · rintro rfl; rfl
theorem ba_ne {x y : ByteArray} (h : x ≠ y) : (x == y) = false := by
  cases hc : x == y
  · rfl
  · exact absurd ((ba_beq x y).1 hc) h
theorem eqPg_iff (x y : M.Pg) : eqPg x y = true ↔ x = y := by
  obtain ⟨xa, xp, xd⟩ := x
  obtain ⟨ya, yp, yd⟩ := y
  simp [eqPg, ba_beq]
def sameB (m k : List M.Pg) : Bool := decide (m.length = k.length ∧ ∀ i (h : i < m.length) (h' : i < k.length), eqPg m[i] k[i] = true)
theorem sameB_iff (m k : List M.Pg) : sameB m k = true ↔ m = k := by
  unfold sameB
  rw [decide_eq_true_eq]
  constructor
  · rintro ⟨hl, h⟩
    exact List.ext_getElem hl (fun i h1 h2 => (eqPg_iff _ _).1 (h i h1 h2))
  · rintro rfl
    exact ⟨rfl, fun i h _ => (eqPg_iff _ _).2 rfl⟩
theorem same_no {m k : List M.Pg} {i : Nat} (h : i < m.length) (h' : i < k.length) (hf : m[i] ≠ k[i]) : sameB m k = false := by
  cases hc : sameB m k
  · rfl
  · have := (sameB_iff m k).1 hc
    subst this
    exact absurd rfl hf
theorem same_len {m k : List M.Pg} (h : m.length ≠ k.length) : sameB m k = false := by
  cases hc : sameB m k
  · rfl
  · have := (sameB_iff m k).1 hc
    subst this
    exact absurd rfl h
theorem rsame_far (A A' : Option Addr) (n n' cap cap' : Nat) (w : World) (hne : n ≠ n') : Calls Try.prog 15 #[.slice A n cap, .slice A' n' cap'] w fun e w' => e = .returned (.bool false) ∧ Below w.heap.size w w' := by
  have t : ((n : Int) != (n' : Int)) = true := by simp; omega
  go_enter Try.func15, Try.ntmps15
  go_wp2_with fail
  go_ret
  exact ⟨rfl, Below.refl _ _⟩
theorem rsame_none (A A' : Option Addr) (cap cap' : Nat) (w : World) : Calls Try.prog 15 #[.slice A 0 cap, .slice A' 0 cap'] w fun e w' => e = .returned (.bool true) ∧ Below w.heap.size w w' := by
  go_enter Try.func15, Try.ntmps15
  go_wp2_with fail
  go_loopw [5] (fun i wr => i = .int .i64 0 ∧ Below w.heap.size w wr) (fun _ _ => 0)
  case atStart => exact ⟨rfl, Below.refl _ _⟩
  case round =>
    obtain ⟨rfl, hb⟩ := hrel
    have HB := Lib.hid hb
    clear hb
    go_wp2_with fail
    go_ret
    exact ⟨rfl, HB.out⟩
set_option maxRecDepth 100000 in
set_option maxHeartbeats 4000000 in
theorem rsame_two (b off b' off' n cap cap' : Nat) (m k : List M.Pg) (w : World) (hn : m.length = n) (hn' : k.length = n) (n1 : n ≤ 1000000) (hO : PagesIn w b off m) (hO' : PagesIn w b' off' k) :
    Calls Try.prog 15 #[.slice (some ⟨b, off, none⟩) n cap, .slice (some ⟨b', off', none⟩) n cap'] w fun e w' => e = .returned (.bool (sameB m k)) ∧ Below w.heap.size w w' := by
  have HO := Lib.hid hO
  have HO' := Lib.hid hO'
  have HN := Lib.hid hn
  have HN' := Lib.hid hn'
  clear hO hO' hn hn'
  go_enter Try.func15, Try.ntmps15
  go_wp2_with fail
  go_loopw [5] (fun i wr => ∃ i' : Nat, i' ≤ n ∧ i = .int .i64 i' ∧ (∀ j (h : j < m.length) (h' : j < k.length), j < i' → m[j] = k[j]) ∧ Below w.heap.size w wr) (fun i _ => n - (intOf i).toNat)
  case atStart => exact ⟨0, Nat.zero_le _, rfl, fun j _ _ h => absurd h (Nat.not_lt_zero _), Below.refl _ _⟩
  case round =>
    obtain ⟨i, hk, rfl, hs, hb⟩ := hrel
    have HB := Lib.hid hb
    have HS := Lib.hid hs
    have OR := Lib.hid (HO.out.next hb)
    have OR' := Lib.hid (HO'.out.next hb)
    clear hb hs
    by_cases hlt : i < n
    · have hm : i < m.length := by rw [HN.out]; exact hlt
      have hm' : i < k.length := by rw [HN'.out]; exact hlt
      obtain ⟨e0, e1, e2⟩ := OR.out.2 i hm
      obtain ⟨g0, g1, g2⟩ := OR'.out.2 i hm'
      obtain ⟨⟨xa, xp, xd⟩, hx⟩ : ∃ x, m[i] = x := ⟨_, rfl⟩
      obtain ⟨⟨ya, yp, yd⟩, hy⟩ : ∃ x, k[i] = x := ⟨_, rfl⟩
      rw [hx] at e0 e1 e2
      rw [hy] at g0 g1 g2
      simp only at e0 e1 e2 g0 g1 g2
      have HX := Lib.hid hx
      have HY := Lib.hid hy
      clear hx hy
      have hk0 : (0 : Int) ≤ (i : Int) := Int.natCast_nonneg _
      have hk1 : (i : Int) < (n : Int) := by omega
      by_cases ha : xa = ya
      · by_cases hp : xp = yp
        · by_cases hd : xd = yd
          · subst ha hp hd
            have HSS := Lib.hid (fun (j : Nat) (h : j < m.length) (h' : j < k.length) (hj : j < i + 1) => (show m[j] = k[j] from by
              by_cases e : j = i
              · subst e; rw [HX.out, HY.out]
              · exact HS.out j h h' (by omega)))
            go_wp2_with fail
            go_quiet (fail)
            go_wp2_with fail
            go_roundw
            case rel => exact ⟨i + 1, by omega, by go_num, HSS.out, bthen HB.out ⟨rfl, rfl, rfl, Nat.le_refl _, fun _ _ => rfl⟩⟩
            case measure => simp [intOf]; omega
          · subst ha hp
            have HF := Lib.hid (same_no hm hm' (by rw [HX.out, HY.out]; simpa using hd))
            have t1 : (xd == yd) = false := ba_ne hd
            have t2 : (xd.toList == yd.toList) = false := by rw [← beq_toListBytes]; exact t1
            clear hd
            go_wp2_with fail
            go_quiet (fail)
            go_wp2_with fail
            go_ret
            exact ⟨by rw [HF.out]; rfl, bthen HB.out ⟨rfl, rfl, rfl, Nat.le_refl _, fun _ _ => rfl⟩⟩
        · subst ha
          have HF := Lib.hid (same_no hm hm' (by rw [HX.out, HY.out]; simp [hp]))
          have t1 : (xp == yp) = false := by simpa using hp
          go_wp2_with fail
          go_quiet (fail)
          go_wp2_with fail
          go_ret
          exact ⟨by rw [HF.out]; rfl, bthen HB.out ⟨rfl, rfl, rfl, Nat.le_refl _, fun _ _ => rfl⟩⟩
      · have HF := Lib.hid (same_no hm hm' (by rw [HX.out, HY.out]; simp [ha]))
        have t1 : (xa == ya) = false := by simpa using ha
        go_wp2_with fail
        go_quiet (fail)
        go_wp2_with fail
        go_ret
        exact ⟨by rw [HF.out]; rfl, bthen HB.out ⟨rfl, rfl, rfl, Nat.le_refl _, fun _ _ => rfl⟩⟩
    · have hnlt : decide ((i : Int) < (n : Int)) = false := by simp; omega
      have HT := Lib.hid (show sameB m k = true from (sameB_iff m k).2 (List.ext_getElem (by rw [HN.out, HN'.out]) (fun j h h' => HS.out j h h' (by have := HN.out; omega))))
      go_wp2_with fail
      go_ret
      exact ⟨by rw [HT.out]; rfl, HB.out⟩
theorem rsame_any {v v' : Value} {m k : List M.Pg} {w : World} (hO : Pages w v m) (hO' : Pages w v' k) (n1 : m.length ≤ 1000000) :
    Calls Try.prog 15 #[v, v'] w fun e w' => e = .returned (.bool (sameB m k)) ∧ Below w.heap.size w w' := by
  by_cases hl : m.length = k.length
  · rcases hO with ⟨rfl, h⟩ | ⟨h0, b, off, cap, rfl, h⟩
    · rcases hO' with ⟨rfl, h'⟩ | ⟨h0, _⟩
      · obtain ⟨A, cap, rfl⟩ : ∃ A cap, v = .slice A 0 cap := by rcases h with rfl | ⟨a, cap, rfl⟩ <;> exact ⟨_, _, rfl⟩
        obtain ⟨A', cap', rfl⟩ : ∃ A cap, v' = .slice A 0 cap := by rcases h' with rfl | ⟨a, cap, rfl⟩ <;> exact ⟨_, _, rfl⟩
        rw [show sameB [] [] = true from (sameB_iff _ _).2 rfl]
        exact rsame_none A A' cap cap' w
      · simp at hl; omega
    · rcases hO' with ⟨h1, _⟩ | ⟨_, b', off', cap', rfl, h'⟩
      · rw [h1] at hl; simp at hl; rw [hl] at h0; simp at h0
      · rw [← hl]
        exact rsame_two b off b' off' _ cap cap' m k w rfl hl.symm n1 h h'
  · rw [same_len hl]
    obtain ⟨A, cap, rfl⟩ := hO.slice
    obtain ⟨A', cap', rfl⟩ := hO'.slice
    exact rsame_far _ _ _ _ _ _ w hl
end Go.Proofs.Ytpifndpbmjmglaa
namespace Go.Proofs.Ytpifndpbmjmglaa
open Go.RowKit
/-- are two machines' registers the same? -/
def eqX (x y : Nat → Int) : Bool := (List.range 32).all fun i => x i == y i
theorem info64 : ∃ i, Try.prog.info? 22 = some i := by
  have h : (Try.prog.info? 22).isSome = true := by kernel_rfl
  exact Option.isSome_iff_exists.1 h
theorem cells64' : Try.prog.cellsOf 22 = 1 := by kernel_rfl
theorem infoX (x : Nat → Int) : (Try.prog.info? 27).map (·.size) = some (mregs x).length := by rw [mregs_length]; kernel_rfl
theorem part_reg (x : Nat → Int) (j : Nat) (hj : j < 32) (w : World) : (part 22 (mregs x).toArray j).run Try.prog w = .ok (.int .u64 (x j)) w := by
  have h : (mregs x).toArray[j]? = some (.int .u64 (x j)) := by
    rw [List.getElem?_toArray]
    simp [mregs, hj]
  have ha : (isAgg 22).run Try.prog w = .ok false w := by
    unfold isAgg
    rw [Sem.run_bind, run_underlying Try.underlying22 w]
    rfl
  unfold part
  simp [Sem.run_bind, ha, h]
theorem items_reg (d : Nat) (x y : Nat → Int) : ∀ (l : List Nat) (w : World), (∀ j ∈ l, j < 32) → (Op.eqItems (d + 1) 22 1 (mregs x).toArray (mregs y).toArray l).run Try.prog w = .ok (l.all fun i => x i == y i) w := by
  intro l
  induction l with
  | nil => intro w _; simp [Op.eqItems]
  | cons j l ih =>
    intro w h
    have hj := h j (by simp)
    simp only [Op.eqItems, Sem.run_bind, Nat.mul_one]
    rw [part_reg x j hj]
    simp only [Result.andThen_ok]
    rw [part_reg y j hj]
    simp only [Result.andThen_ok]
    rw [run_equalIn_int w d 22 .u64 .u64 (x j) (y j) Try.underlying22]
    simp only [Result.andThen_ok]
    cases hb : (x j == y j)
    · simp [hb]
    · simp only [Bool.not_true, Bool.false_eq_true, if_false]
      rw [ih w (fun j' hj' => h j' (by simp [hj']))]
      simp [hb]
theorem eql_regs (x y : Nat → Int) (w : World) : (Op.equalIn 10000 27 (.agg (mregs x).toArray) (.agg (mregs y).toArray)).run Try.prog w = .ok (eqX x y) w := by
  obtain ⟨i, hi⟩ := info64
  rw [run_equalIn_array w 9999 _ _ Try.underlying27 hi, cells64']
  exact items_reg 9998 x y _ w fun j hj => by simpa using hj
theorem load_regs {ops : Array Oper} {rest : List Oper} {o : Oper} {a : Act} {w : World} {Q : Exit → Act → World → Prop} (x : Operand) (ho : o.op = .load 27 x)
    (B : Nat) (hx : a.eval x = .pointer (some ⟨B, 0, none⟩)) (r : Nat → Int) (hc : w.rangeAt B 0 (mregs r)) (hw : Region.wanted o (yielded ops a.tmps) = true)
    (h : wpList Try.prog ops Q rest (a.put o.dst (.agg (mregs r).toArray)) w) : wpList Try.prog ops Q (o :: rest) a w :=
  wpList_step fun K hK => by
    rw [if_pos hw]
    exact wp_load_mid _ x ho B 0 hx (mregs r) _ hc Try.underlying27 rfl (infoX r) (hK _ _ h)
theorem regs_range {W : World} {B : Nat} {k : Mc} (h : Mach W B k) : W.rangeAt B 0 (mregs k.x) := by
  intro j v hv
  have hj : j < 32 := by
    have := (List.getElem?_eq_some_iff.1 hv).1
    rwa [mregs_length] at this
  rw [Nat.zero_add, h.cells.1 j hj, ← hv]
  simp [mregs, hj]
def sameMc (a b : Mc) (m k : List M.Pg) : Bool := sameB m k && (eqX a.x b.x && ((a.pc == b.pc) && ((a.inp == b.inp) && ((a.out == b.out) && ((a.st == b.st) && ((a.cd == b.cd) && (a.n == b.n)))))))
theorem same_start (a b : Mc) (w W : World) (hW : W = ((w.alloc (.cells (mcells a) 30)).alloc (.cells (mcells b) 30))) :
    Mach W w.heap.size a ∧ Mach W (w.heap.size + 1) b ∧ Below w.heap.size w W := by
  subst hW
  have h3 := Mach.new (w.alloc (.cells (mcells a) 30)) b
  rw [World.size_alloc] at h3
  exact ⟨(Mach.new w a).alloc _, h3, balloc (balloc (Below.refl _ w) _) _⟩
set_option maxRecDepth 100000 in
set_option maxHeartbeats 1000000 in
theorem rsameM_0 (a b : Mc) (m k : List M.Pg) (w : World) (hP : Pages w (.slice a.ma a.ml a.mc) m) (hQ : Pages w (.slice b.ma b.ml b.mc) k) (hn : m.length ≤ 1000000) (h0 : sameB m k = false) :
    Calls Try.prog 7 #[.agg (mcells a), .agg (mcells b)] w (RetIs (.bool false) w) := by
  have HS := Lib.hid (fun W h => same_start a b w W h)
  have HC := Lib.hid (fun (W : World) (hb : Below w.heap.size w W) => rsame_any (hP.next hb) (hQ.next hb) hn)
  rw [h0] at HC
  have c33 := mcells_33 a
  have d33 := mcells_33 b
  clear hP hQ h0
  go_enter Try.func7, Try.ntmps7
  go_wp2_with fail
  obtain ⟨W, hW⟩ : ∃ W, W = ((w.alloc (.cells (mcells a) 30)).alloc (.cells (mcells b) 30)) := ⟨_, rfl⟩
  obtain ⟨hM, hN, hB⟩ := HS.out W hW
  rw [← hW]
  clear hW HS
  refine (HC.out _ hB).mono ?_
  rintro e w2 ⟨rfl, hb2⟩
  have HM := Lib.hid (hM.next hb2)
  have HN := Lib.hid (hN.next hb2)
  have HB := Lib.hid (bthen hB hb2)
  clear hM hN hB hb2 c33 d33
  obtain ⟨mx, m32, m33, m34, m35, m36, m37, m38, mf⟩ := HM.out.cells
  obtain ⟨nx, n32, n33, n34, n35, n36, n37, n38, nf⟩ := HN.out.cells
  have HRM := Lib.hid (regs_range HM.out)
  have HRN := Lib.hid (regs_range HN.out)
  clear mx nx mf nf
  go_wp2_with (first | (refine load_regs _ rfl _ rfl _ HRM.out (by rfl) ?_) | (refine load_regs _ rfl _ rfl _ HRN.out (by rfl) ?_))
  go_ret
  exact ⟨rfl, HB.out⟩
set_option maxRecDepth 100000 in
set_option maxHeartbeats 1000000 in
theorem rsameM_1 (a b : Mc) (m k : List M.Pg) (w : World) (hP : Pages w (.slice a.ma a.ml a.mc) m) (hQ : Pages w (.slice b.ma b.ml b.mc) k) (hn : m.length ≤ 1000000) (h0 : sameB m k = true) (h1 : eqX a.x b.x = false) :
    Calls Try.prog 7 #[.agg (mcells a), .agg (mcells b)] w (RetIs (.bool false) w) := by
  have HS := Lib.hid (fun W h => same_start a b w W h)
  have HC := Lib.hid (fun (W : World) (hb : Below w.heap.size w W) => rsame_any (hP.next hb) (hQ.next hb) hn)
  rw [h0] at HC
  have HE := Lib.hid (fun W => eql_regs a.x b.x W)
  rw [h1] at HE
  have c33 := mcells_33 a
  have d33 := mcells_33 b
  clear hP hQ h0 h1
  go_enter Try.func7, Try.ntmps7
  go_wp2_with fail
  obtain ⟨W, hW⟩ : ∃ W, W = ((w.alloc (.cells (mcells a) 30)).alloc (.cells (mcells b) 30)) := ⟨_, rfl⟩
  obtain ⟨hM, hN, hB⟩ := HS.out W hW
  rw [← hW]
  clear hW HS
  refine (HC.out _ hB).mono ?_
  rintro e w2 ⟨rfl, hb2⟩
  have HM := Lib.hid (hM.next hb2)
  have HN := Lib.hid (hN.next hb2)
  have HB := Lib.hid (bthen hB hb2)
  clear hM hN hB hb2 c33 d33
  obtain ⟨mx, m32, m33, m34, m35, m36, m37, m38, mf⟩ := HM.out.cells
  obtain ⟨nx, n32, n33, n34, n35, n36, n37, n38, nf⟩ := HN.out.cells
  have HRM := Lib.hid (regs_range HM.out)
  have HRN := Lib.hid (regs_range HN.out)
  clear mx nx mf nf
  have he := HE.out w2
  have hg : Try.prog.eqGuardType Try.prog.depth 27 = false := by kernel_rfl
  go_wp2_with (first | (refine load_regs _ rfl _ rfl _ HRM.out (by rfl) ?_) | (refine load_regs _ rfl _ rfl _ HRN.out (by rfl) ?_))
  go_ret
  exact ⟨rfl, HB.out⟩
set_option maxRecDepth 100000 in
set_option maxHeartbeats 1000000 in
theorem rsameM_2 (a b : Mc) (m k : List M.Pg) (w : World) (hP : Pages w (.slice a.ma a.ml a.mc) m) (hQ : Pages w (.slice b.ma b.ml b.mc) k) (hn : m.length ≤ 1000000) (h0 : sameB m k = true) (h1 : eqX a.x b.x = true) (h2 : (a.pc == b.pc) = false) :
    Calls Try.prog 7 #[.agg (mcells a), .agg (mcells b)] w (RetIs (.bool false) w) := by
  have HS := Lib.hid (fun W h => same_start a b w W h)
  have HC := Lib.hid (fun (W : World) (hb : Below w.heap.size w W) => rsame_any (hP.next hb) (hQ.next hb) hn)
  rw [h0] at HC
  have HE := Lib.hid (fun W => eql_regs a.x b.x W)
  rw [h1] at HE
  have c33 := mcells_33 a
  have d33 := mcells_33 b
  clear hP hQ h0 h1
  go_enter Try.func7, Try.ntmps7
  go_wp2_with fail
  obtain ⟨W, hW⟩ : ∃ W, W = ((w.alloc (.cells (mcells a) 30)).alloc (.cells (mcells b) 30)) := ⟨_, rfl⟩
  obtain ⟨hM, hN, hB⟩ := HS.out W hW
  rw [← hW]
  clear hW HS
  refine (HC.out _ hB).mono ?_
  rintro e w2 ⟨rfl, hb2⟩
  have HM := Lib.hid (hM.next hb2)
  have HN := Lib.hid (hN.next hb2)
  have HB := Lib.hid (bthen hB hb2)
  clear hM hN hB hb2 c33 d33
  obtain ⟨mx, m32, m33, m34, m35, m36, m37, m38, mf⟩ := HM.out.cells
  obtain ⟨nx, n32, n33, n34, n35, n36, n37, n38, nf⟩ := HN.out.cells
  have HRM := Lib.hid (regs_range HM.out)
  have HRN := Lib.hid (regs_range HN.out)
  clear mx nx mf nf
  have he := HE.out w2
  have hg : Try.prog.eqGuardType Try.prog.depth 27 = false := by kernel_rfl
  go_wp2_with (first | (refine load_regs _ rfl _ rfl _ HRM.out (by rfl) ?_) | (refine load_regs _ rfl _ rfl _ HRN.out (by rfl) ?_))
  go_ret
  exact ⟨rfl, HB.out⟩
set_option maxRecDepth 100000 in
set_option maxHeartbeats 1000000 in
theorem rsameM_3 (a b : Mc) (m k : List M.Pg) (w : World) (hP : Pages w (.slice a.ma a.ml a.mc) m) (hQ : Pages w (.slice b.ma b.ml b.mc) k) (hn : m.length ≤ 1000000) (h0 : sameB m k = true) (h1 : eqX a.x b.x = true) (h2 : (a.pc == b.pc) = true) (h3 : (a.inp == b.inp) = false) :
    Calls Try.prog 7 #[.agg (mcells a), .agg (mcells b)] w (RetIs (.bool false) w) := by
  have HS := Lib.hid (fun W h => same_start a b w W h)
  have HC := Lib.hid (fun (W : World) (hb : Below w.heap.size w W) => rsame_any (hP.next hb) (hQ.next hb) hn)
  rw [h0] at HC
  have HE := Lib.hid (fun W => eql_regs a.x b.x W)
  rw [h1] at HE
  have q3 : (a.inp.toList == b.inp.toList) = false := by rw [← beq_toListBytes]; exact h3
  have c33 := mcells_33 a
  have d33 := mcells_33 b
  clear hP hQ h0 h1
  go_enter Try.func7, Try.ntmps7
  go_wp2_with fail
  obtain ⟨W, hW⟩ : ∃ W, W = ((w.alloc (.cells (mcells a) 30)).alloc (.cells (mcells b) 30)) := ⟨_, rfl⟩
  obtain ⟨hM, hN, hB⟩ := HS.out W hW
  rw [← hW]
  clear hW HS
  refine (HC.out _ hB).mono ?_
  rintro e w2 ⟨rfl, hb2⟩
  have HM := Lib.hid (hM.next hb2)
  have HN := Lib.hid (hN.next hb2)
  have HB := Lib.hid (bthen hB hb2)
  clear hM hN hB hb2 c33 d33
  obtain ⟨mx, m32, m33, m34, m35, m36, m37, m38, mf⟩ := HM.out.cells
  obtain ⟨nx, n32, n33, n34, n35, n36, n37, n38, nf⟩ := HN.out.cells
  have HRM := Lib.hid (regs_range HM.out)
  have HRN := Lib.hid (regs_range HN.out)
  clear mx nx mf nf
  have he := HE.out w2
  have hg : Try.prog.eqGuardType Try.prog.depth 27 = false := by kernel_rfl
  go_wp2_with (first | (refine load_regs _ rfl _ rfl _ HRM.out (by rfl) ?_) | (refine load_regs _ rfl _ rfl _ HRN.out (by rfl) ?_))
  go_ret
  exact ⟨rfl, HB.out⟩
set_option maxRecDepth 100000 in
set_option maxHeartbeats 1000000 in
theorem rsameM_4 (a b : Mc) (m k : List M.Pg) (w : World) (hP : Pages w (.slice a.ma a.ml a.mc) m) (hQ : Pages w (.slice b.ma b.ml b.mc) k) (hn : m.length ≤ 1000000) (h0 : sameB m k = true) (h1 : eqX a.x b.x = true) (h2 : (a.pc == b.pc) = true) (h3 : (a.inp == b.inp) = true) (h4 : (a.out == b.out) = false) :
    Calls Try.prog 7 #[.agg (mcells a), .agg (mcells b)] w (RetIs (.bool false) w) := by
  have HS := Lib.hid (fun W h => same_start a b w W h)
  have HC := Lib.hid (fun (W : World) (hb : Below w.heap.size w W) => rsame_any (hP.next hb) (hQ.next hb) hn)
  rw [h0] at HC
  have HE := Lib.hid (fun W => eql_regs a.x b.x W)
  rw [h1] at HE
  have q3 : (a.inp.toList == b.inp.toList) = true := by rw [← beq_toListBytes]; exact h3
  have q4 : (a.out.toList == b.out.toList) = false := by rw [← beq_toListBytes]; exact h4
  have c33 := mcells_33 a
  have d33 := mcells_33 b
  clear hP hQ h0 h1
  go_enter Try.func7, Try.ntmps7
  go_wp2_with fail
  obtain ⟨W, hW⟩ : ∃ W, W = ((w.alloc (.cells (mcells a) 30)).alloc (.cells (mcells b) 30)) := ⟨_, rfl⟩
  obtain ⟨hM, hN, hB⟩ := HS.out W hW
  rw [← hW]
  clear hW HS
  refine (HC.out _ hB).mono ?_
  rintro e w2 ⟨rfl, hb2⟩
  have HM := Lib.hid (hM.next hb2)
  have HN := Lib.hid (hN.next hb2)
  have HB := Lib.hid (bthen hB hb2)
  clear hM hN hB hb2 c33 d33
  obtain ⟨mx, m32, m33, m34, m35, m36, m37, m38, mf⟩ := HM.out.cells
  obtain ⟨nx, n32, n33, n34, n35, n36, n37, n38, nf⟩ := HN.out.cells
  have HRM := Lib.hid (regs_range HM.out)
  have HRN := Lib.hid (regs_range HN.out)
  clear mx nx mf nf
  have he := HE.out w2
  have hg : Try.prog.eqGuardType Try.prog.depth 27 = false := by kernel_rfl
  go_wp2_with (first | (refine load_regs _ rfl _ rfl _ HRM.out (by rfl) ?_) | (refine load_regs _ rfl _ rfl _ HRN.out (by rfl) ?_))
  go_ret
  exact ⟨rfl, HB.out⟩
set_option maxRecDepth 100000 in
set_option maxHeartbeats 1000000 in
theorem rsameM_5 (a b : Mc) (m k : List M.Pg) (w : World) (hP : Pages w (.slice a.ma a.ml a.mc) m) (hQ : Pages w (.slice b.ma b.ml b.mc) k) (hn : m.length ≤ 1000000) (h0 : sameB m k = true) (h1 : eqX a.x b.x = true) (h2 : (a.pc == b.pc) = true) (h3 : (a.inp == b.inp) = true) (h4 : (a.out == b.out) = true) (h5 : (a.st == b.st) = false) :
    Calls Try.prog 7 #[.agg (mcells a), .agg (mcells b)] w (RetIs (.bool false) w) := by
  have HS := Lib.hid (fun W h => same_start a b w W h)
  have HC := Lib.hid (fun (W : World) (hb : Below w.heap.size w W) => rsame_any (hP.next hb) (hQ.next hb) hn)
  rw [h0] at HC
  have HE := Lib.hid (fun W => eql_regs a.x b.x W)
  rw [h1] at HE
  have q3 : (a.inp.toList == b.inp.toList) = true := by rw [← beq_toListBytes]; exact h3
  have q4 : (a.out.toList == b.out.toList) = true := by rw [← beq_toListBytes]; exact h4
  have c33 := mcells_33 a
  have d33 := mcells_33 b
  clear hP hQ h0 h1
  go_enter Try.func7, Try.ntmps7
  go_wp2_with fail
  obtain ⟨W, hW⟩ : ∃ W, W = ((w.alloc (.cells (mcells a) 30)).alloc (.cells (mcells b) 30)) := ⟨_, rfl⟩
  obtain ⟨hM, hN, hB⟩ := HS.out W hW
  rw [← hW]
  clear hW HS
  refine (HC.out _ hB).mono ?_
  rintro e w2 ⟨rfl, hb2⟩
  have HM := Lib.hid (hM.next hb2)
  have HN := Lib.hid (hN.next hb2)
  have HB := Lib.hid (bthen hB hb2)
  clear hM hN hB hb2 c33 d33
  obtain ⟨mx, m32, m33, m34, m35, m36, m37, m38, mf⟩ := HM.out.cells
  obtain ⟨nx, n32, n33, n34, n35, n36, n37, n38, nf⟩ := HN.out.cells
  have HRM := Lib.hid (regs_range HM.out)
  have HRN := Lib.hid (regs_range HN.out)
  clear mx nx mf nf
  have he := HE.out w2
  have hg : Try.prog.eqGuardType Try.prog.depth 27 = false := by kernel_rfl
  go_wp2_with (first | (refine load_regs _ rfl _ rfl _ HRM.out (by rfl) ?_) | (refine load_regs _ rfl _ rfl _ HRN.out (by rfl) ?_))
  go_ret
  exact ⟨rfl, HB.out⟩
set_option maxRecDepth 100000 in
set_option maxHeartbeats 1000000 in
theorem rsameM_6 (a b : Mc) (m k : List M.Pg) (w : World) (hP : Pages w (.slice a.ma a.ml a.mc) m) (hQ : Pages w (.slice b.ma b.ml b.mc) k) (hn : m.length ≤ 1000000) (h0 : sameB m k = true) (h1 : eqX a.x b.x = true) (h2 : (a.pc == b.pc) = true) (h3 : (a.inp == b.inp) = true) (h4 : (a.out == b.out) = true) (h5 : (a.st == b.st) = true) (h6 : (a.cd == b.cd) = false) :
    Calls Try.prog 7 #[.agg (mcells a), .agg (mcells b)] w (RetIs (.bool false) w) := by
  have HS := Lib.hid (fun W h => same_start a b w W h)
  have HC := Lib.hid (fun (W : World) (hb : Below w.heap.size w W) => rsame_any (hP.next hb) (hQ.next hb) hn)
  rw [h0] at HC
  have HE := Lib.hid (fun W => eql_regs a.x b.x W)
  rw [h1] at HE
  have q3 : (a.inp.toList == b.inp.toList) = true := by rw [← beq_toListBytes]; exact h3
  have q4 : (a.out.toList == b.out.toList) = true := by rw [← beq_toListBytes]; exact h4
  have c33 := mcells_33 a
  have d33 := mcells_33 b
  clear hP hQ h0 h1
  go_enter Try.func7, Try.ntmps7
  go_wp2_with fail
  obtain ⟨W, hW⟩ : ∃ W, W = ((w.alloc (.cells (mcells a) 30)).alloc (.cells (mcells b) 30)) := ⟨_, rfl⟩
  obtain ⟨hM, hN, hB⟩ := HS.out W hW
  rw [← hW]
  clear hW HS
  refine (HC.out _ hB).mono ?_
  rintro e w2 ⟨rfl, hb2⟩
  have HM := Lib.hid (hM.next hb2)
  have HN := Lib.hid (hN.next hb2)
  have HB := Lib.hid (bthen hB hb2)
  clear hM hN hB hb2 c33 d33
  obtain ⟨mx, m32, m33, m34, m35, m36, m37, m38, mf⟩ := HM.out.cells
  obtain ⟨nx, n32, n33, n34, n35, n36, n37, n38, nf⟩ := HN.out.cells
  have HRM := Lib.hid (regs_range HM.out)
  have HRN := Lib.hid (regs_range HN.out)
  clear mx nx mf nf
  have he := HE.out w2
  have hg : Try.prog.eqGuardType Try.prog.depth 27 = false := by kernel_rfl
  go_wp2_with (first | (refine load_regs _ rfl _ rfl _ HRM.out (by rfl) ?_) | (refine load_regs _ rfl _ rfl _ HRN.out (by rfl) ?_))
  go_ret
  exact ⟨rfl, HB.out⟩
set_option maxRecDepth 100000 in
set_option maxHeartbeats 1000000 in
theorem rsameM_7 (a b : Mc) (m k : List M.Pg) (w : World) (hP : Pages w (.slice a.ma a.ml a.mc) m) (hQ : Pages w (.slice b.ma b.ml b.mc) k) (hn : m.length ≤ 1000000) (h0 : sameB m k = true) (h1 : eqX a.x b.x = true) (h2 : (a.pc == b.pc) = true) (h3 : (a.inp == b.inp) = true) (h4 : (a.out == b.out) = true) (h5 : (a.st == b.st) = true) (h6 : (a.cd == b.cd) = true) (h7 : (a.n == b.n) = false) :
    Calls Try.prog 7 #[.agg (mcells a), .agg (mcells b)] w (RetIs (.bool false) w) := by
  have HS := Lib.hid (fun W h => same_start a b w W h)
  have HC := Lib.hid (fun (W : World) (hb : Below w.heap.size w W) => rsame_any (hP.next hb) (hQ.next hb) hn)
  rw [h0] at HC
  have HE := Lib.hid (fun W => eql_regs a.x b.x W)
  rw [h1] at HE
  have q3 : (a.inp.toList == b.inp.toList) = true := by rw [← beq_toListBytes]; exact h3
  have q4 : (a.out.toList == b.out.toList) = true := by rw [← beq_toListBytes]; exact h4
  have c33 := mcells_33 a
  have d33 := mcells_33 b
  clear hP hQ h0 h1
  go_enter Try.func7, Try.ntmps7
  go_wp2_with fail
  obtain ⟨W, hW⟩ : ∃ W, W = ((w.alloc (.cells (mcells a) 30)).alloc (.cells (mcells b) 30)) := ⟨_, rfl⟩
  obtain ⟨hM, hN, hB⟩ := HS.out W hW
  rw [← hW]
  clear hW HS
  refine (HC.out _ hB).mono ?_
  rintro e w2 ⟨rfl, hb2⟩
  have HM := Lib.hid (hM.next hb2)
  have HN := Lib.hid (hN.next hb2)
  have HB := Lib.hid (bthen hB hb2)
  clear hM hN hB hb2 c33 d33
  obtain ⟨mx, m32, m33, m34, m35, m36, m37, m38, mf⟩ := HM.out.cells
  obtain ⟨nx, n32, n33, n34, n35, n36, n37, n38, nf⟩ := HN.out.cells
  have HRM := Lib.hid (regs_range HM.out)
  have HRN := Lib.hid (regs_range HN.out)
  clear mx nx mf nf
  have he := HE.out w2
  have hg : Try.prog.eqGuardType Try.prog.depth 27 = false := by kernel_rfl
  go_wp2_with (first | (refine load_regs _ rfl _ rfl _ HRM.out (by rfl) ?_) | (refine load_regs _ rfl _ rfl _ HRN.out (by rfl) ?_))
  go_ret
  exact ⟨rfl, HB.out⟩
set_option maxRecDepth 100000 in
set_option maxHeartbeats 1000000 in
theorem rsameM_8 (a b : Mc) (m k : List M.Pg) (w : World) (hP : Pages w (.slice a.ma a.ml a.mc) m) (hQ : Pages w (.slice b.ma b.ml b.mc) k) (hn : m.length ≤ 1000000) (h0 : sameB m k = true) (h1 : eqX a.x b.x = true) (h2 : (a.pc == b.pc) = true) (h3 : (a.inp == b.inp) = true) (h4 : (a.out == b.out) = true) (h5 : (a.st == b.st) = true) (h6 : (a.cd == b.cd) = true) (h7 : (a.n == b.n) = true) :
    Calls Try.prog 7 #[.agg (mcells a), .agg (mcells b)] w (RetIs (.bool true) w) := by
  have HS := Lib.hid (fun W h => same_start a b w W h)
  have HC := Lib.hid (fun (W : World) (hb : Below w.heap.size w W) => rsame_any (hP.next hb) (hQ.next hb) hn)
  rw [h0] at HC
  have HE := Lib.hid (fun W => eql_regs a.x b.x W)
  rw [h1] at HE
  have q3 : (a.inp.toList == b.inp.toList) = true := by rw [← beq_toListBytes]; exact h3
  have q4 : (a.out.toList == b.out.toList) = true := by rw [← beq_toListBytes]; exact h4
  have c33 := mcells_33 a
  have d33 := mcells_33 b
  clear hP hQ h0 h1
  go_enter Try.func7, Try.ntmps7
  go_wp2_with fail
  obtain ⟨W, hW⟩ : ∃ W, W = ((w.alloc (.cells (mcells a) 30)).alloc (.cells (mcells b) 30)) := ⟨_, rfl⟩
  obtain ⟨hM, hN, hB⟩ := HS.out W hW
  rw [← hW]
  clear hW HS
  refine (HC.out _ hB).mono ?_
  rintro e w2 ⟨rfl, hb2⟩
  have HM := Lib.hid (hM.next hb2)
  have HN := Lib.hid (hN.next hb2)
  have HB := Lib.hid (bthen hB hb2)
  clear hM hN hB hb2 c33 d33
  obtain ⟨mx, m32, m33, m34, m35, m36, m37, m38, mf⟩ := HM.out.cells
  obtain ⟨nx, n32, n33, n34, n35, n36, n37, n38, nf⟩ := HN.out.cells
  have HRM := Lib.hid (regs_range HM.out)
  have HRN := Lib.hid (regs_range HN.out)
  clear mx nx mf nf
  have he := HE.out w2
  have hg : Try.prog.eqGuardType Try.prog.depth 27 = false := by kernel_rfl
  go_wp2_with (first | (refine load_regs _ rfl _ rfl _ HRM.out (by rfl) ?_) | (refine load_regs _ rfl _ rfl _ HRN.out (by rfl) ?_))
  go_ret
  exact ⟨rfl, HB.out⟩
theorem rsameM_any (a b : Mc) (m k : List M.Pg) (w : World) (hP : Pages w (.slice a.ma a.ml a.mc) m) (hQ : Pages w (.slice b.ma b.ml b.mc) k) (hn : m.length ≤ 1000000) :
    Calls Try.prog 7 #[.agg (mcells a), .agg (mcells b)] w (RetIs (.bool (sameMc a b m k)) w) := by
  unfold sameMc
  cases h0 : sameB m k
  · simpa using rsameM_0 a b m k w hP hQ hn h0
  cases h1 : eqX a.x b.x
  · simpa using rsameM_1 a b m k w hP hQ hn h0 h1
  cases h2 : (a.pc == b.pc)
  · simpa using rsameM_2 a b m k w hP hQ hn h0 h1 h2
  cases h3 : (a.inp == b.inp)
  · simpa using rsameM_3 a b m k w hP hQ hn h0 h1 h2 h3
  cases h4 : (a.out == b.out)
  · simpa using rsameM_4 a b m k w hP hQ hn h0 h1 h2 h3 h4
  cases h5 : (a.st == b.st)
  · simpa using rsameM_5 a b m k w hP hQ hn h0 h1 h2 h3 h4 h5
  cases h6 : (a.cd == b.cd)
  · simpa using rsameM_6 a b m k w hP hQ hn h0 h1 h2 h3 h4 h5 h6
  cases h7 : (a.n == b.n)
  · simpa using rsameM_7 a b m k w hP hQ hn h0 h1 h2 h3 h4 h5 h6 h7
  simpa using rsameM_8 a b m k w hP hQ hn h0 h1 h2 h3 h4 h5 h6 h7
end Go.Proofs.Ytpifndpbmjmglaa
namespace Go.Proofs.Ytpifndpbmjmglaa
open Go.RowKit
/-- a file that holds these bytes -/
def Fl (W : World) (B b : Nat) (l : List UInt8) : Prop := Lib.IsBuilder 55 5 B b (Lib.byteCells l) W
/-- .. and has been written to -/
def Fu (W : World) (B b : Nat) (l : List UInt8) : Prop := Lib.BuilderAt 55 5 B b (.pointer (some ⟨b, 0, none⟩)) (Lib.byteCells l) W
theorem Fu.fl {W : World} {B b : Nat} {l : List UInt8} (h : Fu W B b l) : Fl W B b l := .inr h
theorem flInfo : ∃ j, Try.prog.info? 53 = some j ∧ j.size ≠ 0 := by
  have h : (Try.prog.info? 53).any (fun j => j.size != 0) = true := by kernel_rfl
  cases hi : Try.prog.info? 53 with
  | none => rw [hi] at h; cases h
  | some j => rw [hi] at h; exact ⟨j, rfl, by simpa using h⟩
theorem byteInfo : ∃ i0 : TypeInfo, Try.prog.info? 5 = some i0 ∧ i0.zero = some (.int .u8 0) ∧ i0.size = 1 ∧ i0.bytes = 1 := info_parts (by kernel_rfl)
set_option maxRecDepth 100000 in
set_option maxHeartbeats 1000000 in
/-- copyCheck of a file: it holds its own address behind it -/
theorem fcheck_any (B b : Nat) (l : List UInt8) (w : World) (h : Fl w B b l) : Calls Try.prog 32 #[.pointer (some ⟨b, 0, none⟩)] w fun e w' => e = .returned (.tuple #[]) ∧ Fu w' B b l ∧ Below B w w' ∧ Lib.OthersKept 5 (some b) w w' := by
  obtain ⟨j, hj, hjs⟩ := flInfo
  rcases h with h | h
  · have h0 := h.cell0
    have hsh := h.shape
    have hfz := h.frozen0
    have HR := Lib.hid (And.intro (h.used (.pointer (some ⟨b, 0, none⟩))) ((Below.refl B w).setCell (p := ⟨b, 0, none⟩) h.1 (.pointer (some ⟨b, 0, none⟩))))
    clear h
    go_enter Try.func32, Try.ntmps32
    go_wp2
    rw [Lib.run_to_unsafe w ⟨b, 0, none⟩ Try.underlying50 Try.underlying88 hj hjs hsh (Nat.zero_lt_succ 1)]
    simp only [Result.andThen]
    rw [Oper.upon_value]
    go_wp2
    rw [run_callFunc_extern Try.func43 (by kernel_rfl) (by kernel_rfl) (by kernel_rfl) (e := Extern.AbiNoEscape.same) (by kernel_rfl), Lib.run_noEscape]
    simp only [Result.andThen]
    rw [Oper.upon_value]
    go_wp2
    rw [Lib.run_from_unsafe w ⟨b, 0, none⟩ Try.underlying88 Try.underlying50 hj hsh (by kernel_rfl)]
    simp only [Result.andThen]
    rw [Oper.upon_value]
    go_wp2
    go_end0
    exact ⟨rfl, HR.out.1, HR.out.2, (Lib.OthersKept.refl _ _ w).setCell ⟨b, 0, none⟩ rfl _⟩
  · have h0 := h.cell0
    have HR := Lib.hid h
    clear h
    go_enter Try.func32, Try.ntmps32
    go_wp2
    rw [Lib.run_neq_ptr_same w _ Try.underlying50 hj]
    go_wp2
    go_end0
    exact ⟨rfl, HR.out, Below.refl B _, Lib.OthersKept.refl _ _ _⟩
/-- a written file's parts -/
theorem Fu.parts {W : World} {B b : Nat} {l : List UInt8} (h : Fu W B b l) : B ≤ b ∧ ∃ v, W.heap[b]? = some (.cells #[.pointer (some ⟨b, 0, none⟩), v] 55 (0, 0)) ∧ W.ownsRow B 5 1 v (Lib.byteCells l).length (Lib.byteCells l) ∧ v.ownBlock ≠ some b := h
theorem Fu.lt {W : World} {B b : Nat} {l : List UInt8} (h : Fu W B b l) : b < W.heap.size := by
  obtain ⟨-, v, hb, -⟩ := h.parts
  exact (Array.getElem?_eq_some_iff.1 hb).1
theorem Fl.lt {W : World} {B b : Nat} {l : List UInt8} (h : Fl W B b l) : b < W.heap.size := by
  rcases h with ⟨-, v, hb, -⟩ | ⟨-, v, hb, -⟩ <;> exact (Array.getElem?_eq_some_iff.1 hb).1
theorem Fl.new (W : World) : Fl (W.alloc (.cells #[.pointer none, .slice none 0 0] 55)) W.heap.size W.heap.size [] := Lib.fresh_isBuilder _ _ W
set_option maxRecDepth 100000 in
set_option maxHeartbeats 2000000 in
theorem fbyte_any (B b : Nat) (l : List UInt8) (c : UInt8) (w : World) (h : Fl w B b l) (hlen : l.length + 1 ≤ 140737488355328) (hBw : B ≤ w.heap.size) :
    Calls Try.prog 31 #[.pointer (some ⟨b, 0, none⟩), .int .u8 c.toNat] w fun e w' => e = .returned .nilIface ∧ Fu w' B b (l ++ [c]) ∧ Below B w w' ∧ Lib.OthersKept 5 (some b) w w' := by
  obtain ⟨i0, hi, hz0, hz1, hz2⟩ := byteInfo
  have HC := Lib.hid (fcheck_any B b l w h)
  have hl : (Lib.byteCells l).length = l.length := Lib.byteCells_length l
  have HBW := Lib.hid hBw
  clear h hBw
  go_enter Try.func31, Try.ntmps31
  go_wp2_with fail
  refine HC.out.mono ?_
  rintro e w1 ⟨rfl, h1, hb1, hk1⟩
  have HK1 := Lib.hid hk1
  clear hk1
  obtain ⟨hB, v, hbk, hown, hne⟩ := h1.parts
  have HLT := Lib.hid h1.lt
  have HB1 := Lib.hid hb1
  have hsz : B ≤ w1.heap.size := Nat.le_trans HBW.out hb1.size
  have c0 : w1.cell? ⟨b, 0, none⟩ = some (.pointer (some ⟨b, 0, none⟩)) := by rw [Lib.cell_of_heap hbk]; rfl
  have c1 : w1.cell? ⟨b, 1, none⟩ = some v := by rw [Lib.cell_of_heap hbk]; rfl
  have HBK := Lib.hid hbk
  have HNE := Lib.hid hne
  have HH := Lib.hid hown
  rw [hl] at hown
  clear h1 hb1 hbk hne
  go_wp2_with (at_builtin; refine wpList_append_own _ rfl _ _ 51 rfl B 5 i0 (.int .u8 0) 1 1 Try.underlying51 hi hz0 hz1 hz2 rfl (by decide) _ _ _ rfl (hown.alloc _) ⟨w1.heap.size, 0, none⟩ 1 1 [.int .u8 c.toNat] rfl rfl ?c1 ?c2 ?c3 ?c4 ?c5 ?_)
  case c1 =>
    intro j u hj
    cases j with
    | zero => simp at hj; subst hj; simp [Addr.add]
    | succ j => simp at hj
  case c2 => intro u hu; simp at hu; subst hu; rfl
  case c3 => unfold maxLen; omega
  case c4 => omega
  case c5 => simp; omega
  intro v' w2 hown' hgrow _
  have hlt := HLT.out
  have hb2 : w2.heap[b]? = some (.cells #[.pointer (some ⟨b, 0, none⟩), v] 55 (0, 0)) := by
    rw [hgrow.block b (by simp; omega) (fun e => HNE.out e.symm), Lib.alloc_old w1 _ b hlt]
    exact HBK.out
  have d0 : w2.cell? ⟨b, 0, none⟩ = some (.pointer (some ⟨b, 0, none⟩)) := by rw [Lib.cell_of_heap hb2]; rfl
  have d1 : w2.cell? ⟨b, 1, none⟩ = some v := by rw [Lib.cell_of_heap hb2]; rfl
  have f1 : w2.frozen? ⟨b, 1, none⟩ = false := Lib.frozen_of_heap hb2 1
  obtain ⟨g, cap, rfl⟩ : ∃ g cap, v' = .slice (some ⟨g, 0, none⟩) (l.length + 1) cap := by
    rcases hown'.2 with ⟨_, h0⟩ | ⟨g, cap, cur, hv, _⟩
    · omega
    · exact ⟨g, cap, hv⟩
  have HR := Lib.hid (show Fu (w2.setCell ⟨b, 1, none⟩ (.slice (some ⟨g, 0, none⟩) (l.length + 1) cap)) B b (l ++ [c]) from by
    refine Lib.BuilderAt.put (T := 55) (e := 5) hB hb2 (bs' := Lib.byteCells (l ++ [c])) ?_ (by decide)
    rw [Lib.byteCells_append]
    have h := hown'
    rw [show (Lib.byteCells l ++ Lib.byteCells [c]).length = l.length + 1 by simp [Lib.byteCells]]
    exact h)
  have HR2 := Lib.hid (((HB1.out.alloc hsz (.cells #[.int .u8 c.toNat] 5)).grown hgrow (by simp; omega) (fun k hk => (HH.out.lt k hk).1)).setCell (p := ⟨b, 1, none⟩) hB (.slice (some ⟨g, 0, none⟩) (l.length + 1) cap))
  have HK2 := Lib.hid (((HK1.out.alloc (.cells #[.int .u8 c.toNat] 5)).grown hgrow (Lib.ownsRowF_kind (World.ownsRowF_of (HH.out.alloc _)))).setCell ⟨b, 1, none⟩ rfl (.slice (some ⟨g, 0, none⟩) (l.length + 1) cap))
  clear hown hown' hgrow hb2
  go_wp2_with fail
  go_ret
  exact ⟨rfl, HR.out, HR2.out, HK2.out⟩
end Go.Proofs.Ytpifndpbmjmglaa
namespace Go.Proofs.Ytpifndpbmjmglaa
open Go.RowKit
set_option maxRecDepth 100000 in
set_option maxHeartbeats 2000000 in
theorem fstr_any (B b : Nat) (l : List UInt8) (s : ByteArray) (w : World) (h : Fl w B b l) (hlen : l.length + s.size ≤ 140737488355328) (hBw : B ≤ w.heap.size) :
    Calls Try.prog 20 #[.pointer (some ⟨b, 0, none⟩), .string s] w fun e w' => e = .returned (.tuple #[.int .i64 s.size, .nilIface]) ∧ Fu w' B b (l ++ s.data.toList) ∧ Below B w w' ∧ Lib.OthersKept 5 (some b) w w' := by
  obtain ⟨i0, hi, hz0, hz1, hz2⟩ := byteInfo
  have HC := Lib.hid (fcheck_any B b l w h)
  have hl : (Lib.byteCells l).length = l.length := Lib.byteCells_length l
  have HBW := Lib.hid hBw
  clear h hBw
  go_enter Try.func20, Try.ntmps20
  go_wp2_with fail
  refine HC.out.mono ?_
  rintro e w1 ⟨rfl, h1, hb1, hk1⟩
  have HK1 := Lib.hid hk1
  clear hk1
  obtain ⟨hB, v, hbk, hown, hne⟩ := h1.parts
  have HLT := Lib.hid h1.lt
  have HB1 := Lib.hid hb1
  have hsz : B ≤ w1.heap.size := Nat.le_trans HBW.out hb1.size
  have c0 : w1.cell? ⟨b, 0, none⟩ = some (.pointer (some ⟨b, 0, none⟩)) := by rw [Lib.cell_of_heap hbk]; rfl
  have c1 : w1.cell? ⟨b, 1, none⟩ = some v := by rw [Lib.cell_of_heap hbk]; rfl
  have HBK := Lib.hid hbk
  have HNE := Lib.hid hne
  have HH := Lib.hid hown
  rw [hl] at hown
  clear h1 hb1 hbk hne
  go_wp2_with (at_builtin; refine Lib.wpList_append_own_string _ rfl _ _ 51 9 rfl B 5 i0 Try.underlying51 Try.underlying9 hi hz0 hz1 hz2 _ _ _ rfl hown s rfl ?c3 ?c4 ?c5 ?_)
  case c3 => unfold maxLen; omega
  case c4 => omega
  case c5 => omega
  intro v' w2 hown' hgrow _
  have hlt := HLT.out
  have hb2 : w2.heap[b]? = some (.cells #[.pointer (some ⟨b, 0, none⟩), v] 55 (0, 0)) := by
    rw [hgrow.block b hlt (fun e => HNE.out e.symm)]
    exact HBK.out
  have d0 : w2.cell? ⟨b, 0, none⟩ = some (.pointer (some ⟨b, 0, none⟩)) := by rw [Lib.cell_of_heap hb2]; rfl
  have d1 : w2.cell? ⟨b, 1, none⟩ = some v := by rw [Lib.cell_of_heap hb2]; rfl
  have f1 : w2.frozen? ⟨b, 1, none⟩ = false := Lib.frozen_of_heap hb2 1
  obtain ⟨ao, n', cap, rfl⟩ : ∃ ao n' cap, v' = .slice ao n' cap := by
    rcases hown'.2 with ⟨hv, _⟩ | ⟨g, cap, cur, hv, _⟩
    · exact ⟨_, _, _, hv⟩
    · exact ⟨_, _, _, hv⟩
  have HR := Lib.hid (show Fu (w2.setCell ⟨b, 1, none⟩ (.slice ao n' cap)) B b (l ++ s.data.toList) from by
    refine Lib.BuilderAt.put (T := 55) (e := 5) hB hb2 (bs' := Lib.byteCells (l ++ s.data.toList)) ?_ (by decide)
    rw [Lib.byteCells_append]
    have h := hown'
    rw [show (Lib.byteCells l ++ Lib.byteCells s.data.toList).length = l.length + s.size by simp [Lib.byteCells]]
    exact h)
  have HR2 := Lib.hid ((HB1.out.grown hgrow (by omega) (fun k hk => (HH.out.lt k hk).1)).setCell (p := ⟨b, 1, none⟩) hB (.slice ao n' cap))
  have HK2 := Lib.hid ((HK1.out.grown hgrow (Lib.ownsRowF_kind (World.ownsRowF_of HH.out))).setCell ⟨b, 1, none⟩ rfl (.slice ao n' cap))
  clear hown hown' hgrow hb2
  go_wp2_with fail
  go_ret2
  exact ⟨rfl, HR.out, HR2.out, HK2.out⟩
theorem Fl.cell1 {W : World} {B b : Nat} {l : List UInt8} (h : Fl W B b l) : ∃ A cap, W.cell? ⟨b, 1, none⟩ = some (.slice A l.length cap) := by
  have hl : (Lib.byteCells l).length = l.length := Lib.byteCells_length l
  rcases h with ⟨-, v, hb, hown, -⟩ | ⟨-, v, hb, hown, -⟩
  all_goals
    rw [hl] at hown
    rcases hown.2 with ⟨hv, h0⟩ | ⟨g, cap, cur, hv, _⟩
    · exact ⟨none, 0, by rw [Lib.cell_of_heap hb, hv, h0]; rfl⟩
    · exact ⟨_, cap, by rw [Lib.cell_of_heap hb, hv]; rfl⟩
theorem flen_any (B b : Nat) (l : List UInt8) (w : World) (h : Fl w B b l) : Calls Try.prog 30 #[.pointer (some ⟨b, 0, none⟩)] w fun e w' => e = .returned (.int .i64 l.length) ∧ w = w' := by
  obtain ⟨A, cap, c1⟩ := h.cell1
  clear h
  go_enter Try.func30, Try.ntmps30
  go_wp2_with fail
  go_ret
  exact ⟨rfl, rfl⟩
set_option maxRecDepth 100000 in
set_option maxHeartbeats 2000000 in
theorem fstring_any (B b : Nat) (l : List UInt8) (w : World) (h : Fu w B b l) (h0 : l ≠ []) :
    Calls Try.prog 21 #[.pointer (some ⟨b, 0, none⟩)] w fun e w' => e = .returned (.string ⟨l.toArray⟩) ∧ Below B w w' := by
  obtain ⟨hB, v, hbk, hown, hne⟩ := h.parts
  have hl0 : l.length ≠ 0 := by simpa using h0
  rw [Lib.byteCells_length] at hown
  obtain ⟨g, cap, cur, rfl, hbg, hg, hnc, hcm, hcs, htake⟩ : ∃ g cap cur, v = .slice (some ⟨g, 0, none⟩) l.length cap ∧ B ≤ g ∧ w.heap[g]? = some (.cells cur 5 (0, 0)) ∧ l.length ≤ cap ∧ cap ≤ maxLen ∧ cur.size = cap * 1 ∧ cur.toList.take (l.length * 1) = Lib.byteCells l := by
    rcases hown.2 with ⟨_, hz⟩ | ⟨g, cap, cur, hv, r⟩
    · exact absurd hz hl0
    · exact ⟨g, cap, cur, hv, r⟩
  have c1 : w.drew.cell? ⟨b, 1, none⟩ = some (.slice (some ⟨g, 0, none⟩) l.length cap) := by
    have : w.drew.heap[b]? = some (.cells #[.pointer (some ⟨b, 0, none⟩), .slice (some ⟨g, 0, none⟩) l.length cap] 55 (0, 0)) := hbk
    rw [Lib.cell_of_heap this]; rfl
  have hSD : (Builtin.unsafeSliceData_ #[51] 76 #[.slice (some ⟨g, 0, none⟩) l.length cap]).run Try.prog w.drew = .ok (.pointer (some ⟨g, 0, none⟩)) w.drew :=
    Lib.run_unsafeSliceData_row _ _ _ _ _ _ (by omega)
  have hUS : (Builtin.unsafeString_ #[76, 3] 9 #[.pointer (some ⟨g, 0, none⟩), .int .i64 l.length]).run Try.prog w.drew = .ok (.string ⟨l.toArray⟩) (w.drew.freeze ⟨g, 0, none⟩ l.length) := by
    refine Lib.run_unsafeString_row w.drew 76 3 9 5 Try.underlying76 (by kernel_rfl) g cur.size (by have hg' : w.drew.heap[g]? = some (.cells cur 5 (0, 0)) := hg; simp [World.shape?, hg']) l h0 (by omega) (by unfold maxLen at hcm; omega) ?_
    intro j x hx
    exact hown.cells (g := g) rfl j (.int .u8 x.toNat) (by simp [Lib.byteCells, hx])
  have HR := Lib.hid (Lib.below_freeze (Below.drew (Below.refl B w)) (p := ⟨g, 0, none⟩) hbg l.length)
  clear h hbk hown hne htake hg hcs hcm hnc
  have mixed : Try.prog.follows .mixedOrders = true := by kernel_rfl
  go_enter Try.func21, Try.ntmps21
  go_wp2
  go_region_o
  all_goals (go_wp2; go_ret; exact ⟨rfl, HR.out⟩)
end Go.Proofs.Ytpifndpbmjmglaa
