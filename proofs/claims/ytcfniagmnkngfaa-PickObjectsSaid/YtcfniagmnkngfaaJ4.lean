/- Package ir: what stands in an instruction that its operation asks for. -/
import Derived.Test.YtcfniagmnkngfaaBJ
import Derived.Test.YtcfniagmnkngfaaBA
import Derived.Laws.ResultCell
import Derived.Laws.Rows
import Derived.Deep.Cut
import Derived.RegionTactic
namespace Go.Proofs.Ytcfniagmnkngfaa
open Go.RowKit

def icells (i : In) (v : Value) : Array Value := #[.int .i64 i.o, .int .i64 i.a, .int .i64 i.b, .int .u64 i.k, .string i.s, v]
/-- an instruction in a block of its own -/
def InBox (W : World) (B : Nat) (i : In) (v : Value) : Prop := Whole W B 85 (icells i v)
def zeroIn : In := ⟨0, 0, 0, 0, ⟨#[]⟩, []⟩
theorem InBox.new (W : World) (i : In) (v : Value) : InBox (W.alloc (.cells (icells i v) 85)) W.heap.size i v := heap_alloc_new W _
theorem InBox.next {W W' : World} {B : Nat} {i : In} {v : Value} (h : InBox W B i v) (hb : Below W.heap.size W W') : InBox W' B i v := (hb.block B h.lt).trans h
theorem InBox.cells {W : World} {B : Nat} {i : In} {v : Value} (h : InBox W B i v) : W.cell? ⟨B, 0, none⟩ = some (.int .i64 i.o) ∧ W.cell? ⟨B, 1, none⟩ = some (.int .i64 i.a) ∧ W.cell? ⟨B, 2, none⟩ = some (.int .i64 i.b) ∧ W.cell? ⟨B, 3, none⟩ = some (.int .u64 i.k) ∧ W.cell? ⟨B, 4, none⟩ = some (.string i.s) ∧ W.cell? ⟨B, 5, none⟩ = some v :=
  ⟨Whole.cell h 0, Whole.cell h 1, Whole.cell h 2, Whole.cell h 3, Whole.cell h 4, Whole.cell h 5⟩
theorem InBox.free {W : World} {B : Nat} {i : In} {v : Value} (h : InBox W B i v) (j : Nat) : W.frozen? ⟨B, j, none⟩ = false := Whole.free h j
theorem in_info (i : In) (v : Value) : (Try.prog.info? 85).map (·.size) = some (icells i v).size := by
  show _ = some 6
  kernel_rfl
theorem InBox.other {W : World} {B : Nat} {i : In} {v : Value} (h : InBox W B i v) (p : Addr) (u : Value) (hp : B ≠ p.block) : InBox (W.setCell p u) B i v := (Below.heap_setCell W p u B hp).trans h
theorem InBox.putA {W : World} {B : Nat} {i : In} {v : Value} (h : InBox W B i v) (x : Int) : InBox (W.setCell ⟨B, 1, none⟩ (.int .i64 x)) B { i with a := x } v := Whole.put h 1 _
theorem InBox.putB {W : World} {B : Nat} {i : In} {v : Value} (h : InBox W B i v) (x : Int) : InBox (W.setCell ⟨B, 2, none⟩ (.int .i64 x)) B { i with b := x } v := Whole.put h 2 _
theorem InBox.putK {W : World} {B : Nat} {i : In} {v : Value} (h : InBox W B i v) (x : Int) : InBox (W.setCell ⟨B, 3, none⟩ (.int .u64 x)) B { i with k := x } v := Whole.put h 3 _
theorem InBox.putS {W : World} {B : Nat} {i : In} {v : Value} (h : InBox W B i v) (x : ByteArray) : InBox (W.setCell ⟨B, 4, none⟩ (.string x)) B { i with s := x } v := Whole.put h 4 _
theorem InBox.putL {W : World} {B : Nat} {i : In} {v : Value} (h : InBox W B i v) (u : Value) (l : List Int) : InBox (W.setCell ⟨B, 5, none⟩ u) B { i with l := l } u := Whole.put h 5 _
theorem below_cell {w W : World} {p : Addr} (hb : Below w.heap.size w W) (v : Value) (h : w.heap.size ≤ p.block) : Below w.heap.size w (W.setCell p v) := hb.setCell h v
theorem below_rowI {w W : World} {B : Nat} (hb : Below w.heap.size w W) (cs : Array Value) (h : w.heap.size ≤ B) : Below w.heap.size w (W.setRow B cs) := by
  refine ⟨hb.os, hb.tape, hb.output, ?_, fun b hbb => ?_⟩
  · simpa [World.setRow] using hb.size
  · rw [← hb.block b hbb]
    simp [World.setRow, Array.getElem?_modify, show ¬ B = b by omega]
theorem icells_one {i : In} {v : Value} (h : v.oneCell' = true) : (icells i v).all (·.oneCell') = true := by
  simpa [icells, Value.oneCell'] using h
theorem store_in {ops : Array Oper} {rest : List Oper} {o : Oper} {a : Act} {w : World} {Q : Exit → Act → World → Prop} (hgd : o.guard = none) (x y : Operand) (ho : o.op = .store 85 x y)
    (B : Nat) (k' : In) (v' : Value) (hx : a.eval x = .pointer (some ⟨B, 0, none⟩)) (hy : a.eval y = .agg (icells k' v')) (hv : v'.oneCell' = true) (k : In) (v : Value) (hM : InBox w B k v) (h : wpList Try.prog ops Q rest (a.put o.dst undef) (w.setRow B (icells k' v'))) : wpList Try.prog ops Q (o :: rest) a w :=
  wpList_plain hgd fun K hK => wp_store_row _ x y ho B (icells k' v') hx hy _ _ hM (in_info k' v') (by rfl) (icells_one hv) (hK _ _ h)
theorem InBox.row {W : World} {B : Nat} {k : In} {v : Value} (h : InBox W B k v) (k' : In) (v' : Value) : InBox (W.setRow B (icells k' v')) B k' v' := by
  unfold InBox Whole at h ⊢
  simp [World.setRow, Array.getElem?_modify, h]
theorem results_in {fn : Func} {p : Tmp} (h : fn.results = #[.cell p 85]) (tmps : Array Value) (w : World) (B : Nat) (k : In) (v : Value) (hp : tmps.getD p undef = .pointer (some ⟨B, 0, none⟩)) (hM : InBox w B k v) :
    (results fn tmps).run Try.prog w = .ok (.agg (icells k v)) w :=
  results_cell_row h tmps w B _ _ _ _ hp hM Try.underlying85 rfl (in_info k v)
/-- the three blocks of a call -/
theorem three_new (w : World) (x y z : In) (u v t : Value) (W : World) (hW : W = (((w.alloc (.cells (icells x u) 85)).alloc (.cells (icells y v) 85)).alloc (.cells (icells z t) 85))) :
    W.heap.size = w.heap.size + 3 ∧ Below w.heap.size w W ∧ InBox W w.heap.size x u ∧ InBox W (w.heap.size + 1) y v ∧ InBox W (w.heap.size + 1 + 1) z t := by
  subst hW
  have e1 := InBox.new w x u
  have e2 := InBox.new (w.alloc (.cells (icells x u) 85)) y v
  have e3 := InBox.new ((w.alloc (.cells (icells x u) 85)).alloc (.cells (icells y v) 85)) z t
  rw [World.size_alloc] at e2
  rw [World.size_alloc, World.size_alloc] at e3
  exact ⟨by simp, balloc (balloc (balloc (Below.refl _ w) _) _) _, (e1.next (balloc (Below.refl _ _) _)).next (balloc (Below.refl _ _) _), e2.next (balloc (Below.refl _ _) _), e3⟩
theorem OwnsI.put {W : World} {base b i : Nat} {v u : Value} {l : List Int} (h : OwnsI W base v l) (hb : b < base) : OwnsI (W.setCell ⟨b, i, none⟩ u) base v l := by
  refine World.ownsRow.kept (row := some b) (show W.ownsRow base 3 1 v l.length (intRow l) from h) ⟨rfl, rfl, rfl, by simp [World.setCell], fun k _ hk => Below.heap_setCell _ _ _ _ (fun e => hk (by simp [e]))⟩ ?_
  rcases h.2 with ⟨rfl, _⟩ | ⟨g, cap, cur, rfl, hg, _⟩
  · exact .inl rfl
  · refine .inr (fun e => ?_)
    have : g = b := Option.some.inj e
    omega
theorem OwnsI.row {W : World} {base b : Nat} {v : Value} {l : List Int} {cs : Array Value} (h : OwnsI W base v l) (hb : b < base) : OwnsI (W.setRow b cs) base v l := by
  refine World.ownsRow.kept (row := some b) (show W.ownsRow base 3 1 v l.length (intRow l) from h) ⟨rfl, rfl, rfl, by simp [World.setRow], fun k _ hk => by simp [World.setRow, Array.getElem?_modify, show ¬ b = k from fun e => hk (by rw [e])]⟩ ?_
  rcases h.2 with ⟨rfl, _⟩ | ⟨g, cap, cur, rfl, hg, _⟩
  · exact .inl rfl
  · refine .inr (fun e => ?_)
    have : g = b := Option.some.inj e
    omega
theorem OwnsI.above {W : World} {base n c ub uo : Nat} {l : List Int} (h : OwnsI W base (.slice (some ⟨ub, uo, none⟩) n c) l) (hl : 0 < l.length) : base ≤ ub := by
  have h' : W.ownsRow base 3 1 _ l.length (intRow l) := h
  obtain ⟨g, cap, e, hg, _⟩ := h'.form hl
  cases e
  exact hg
/-- what asked answers -/
def AskPost (i : In) (w : World) (e : Ending) (w' : World) : Prop := ∃ v, e = .returned (.agg (icells (askedI i) v)) ∧ Ints w' v (askedI i).l ∧ Below w.heap.size w w'
theorem noInts (W : World) : Ints W (.slice none 0 0) [] := .inl ⟨rfl, .inl rfl⟩
set_option maxRecDepth 100000 in
set_option maxHeartbeats 8000000 in
theorem asked_1 (a b k : Int) (s : ByteArray) (l : List Int) (A : Option Addr) (cap : Nat) (w : World) (hS : Ints w (.slice A l.length cap) l) (hn : l.length * 8 ≤ 140737488355328) :
    Calls Try.prog 160 #[inV ⟨1, a, b, k, s, l⟩ (.slice A l.length cap)] w (AskPost ⟨1, a, b, k, s, l⟩ w) := by
  have HU := Lib.hid (fun (W : World) (hb : Below w.heap.size w W) => uses_any ⟨1, a, b, k, s, l⟩ _ W (hS.next hb) hn)
  have HA := Lib.hid (show askedI ⟨1, a, b, k, s, l⟩ = ⟨1, 0, 0, k, ⟨#[]⟩, []⟩ from rfl)
  rw [show usesI ⟨1, a, b, k, s, l⟩ = [] from rfl] at HU
  have HH := Lib.hid (fun W : World => hasName_any 1 W)
  rw [show ((1 : Int) == 12 || (1 : Int) == 13 || (1 : Int) == 14) = false from rfl] at HH
  clear hS hn
  unfold inV at HU ⊢
  simp only at HU ⊢
  obtain ⟨W, hW⟩ : ∃ W, W = (((w.alloc (.cells (icells ⟨1, a, b, k, s, l⟩ (.slice A l.length cap)) 85)).alloc (.cells (icells zeroIn (.slice none 0 0)) 85)).alloc (.cells (icells ⟨1, 0, 0, 0, ⟨#[]⟩, []⟩ (.slice none 0 0)) 85)) := ⟨_, rfl⟩
  have H3 := Lib.hid (three_new w _ _ _ _ _ _ W hW)
  simp only [icells, zeroIn] at hW
  go_enter Try.func160, Try.ntmps160
  go_wp2_with fail
  rw [← hW]
  refine (HU.out _ H3.out.2.1).mono ?_
  clear hW
  rintro r w2 ⟨v2, rfl, ho, hb⟩
  have HI2 := Lib.hid ho.ints
  have HO := Lib.hid (show OwnsI w2 (w.heap.size + 3) v2 _ by rw [← H3.out.1]; exact ho)
  have B0 := Lib.hid (H3.out.2.2.1.next hb)
  have B1 := Lib.hid (H3.out.2.2.2.1.next hb)
  have B2 := Lib.hid (H3.out.2.2.2.2.next hb)
  have HB := Lib.hid (bthen H3.out.2.1 hb)
  obtain ⟨i0, i1, i2, i3, i4, i5⟩ := B0.out.cells
  obtain ⟨k0, k1, k2, k3, k4, k5⟩ := B2.out.cells
  have kf := B2.out.free
  simp only at i0 i1 i2 i3 i4 i5 k0 k1 k2 k3 k4 k5
  obtain ⟨A2, c2, hv2⟩ := HI2.out.slice
  subst hv2
  have nfix : ∀ n : Nat, n = n := fun _ => rfl
  clear ho hb H3
  go_wp2_with fail
  refine (HH.out _).mono ?_
  rintro r w4 ⟨rfl, rfl⟩
  have Z2 := Lib.hid (B2.out.putK k)
  have Z1 := Lib.hid (B1.out.other ⟨w.heap.size + 1 + 1, 3, none⟩ (.int .u64 k) (by simp))
  have Z0 := Lib.hid (B0.out.other ⟨w.heap.size + 1 + 1, 3, none⟩ (.int .u64 k) (by simp; omega))
  have ZB := Lib.hid (below_cell (p := ⟨w.heap.size + 1 + 1, 3, none⟩) HB.out (.int .u64 k) (by simp; omega))
  simp only at Z2
  clear k0 k1 k2 k3 k4 k5 i0 i1 i2 i3 i4 i5 kf
  generalize w2.setCell ⟨w.heap.size + 1 + 1, 3, none⟩ (.int .u64 k) = W4 at *
  obtain ⟨-, -, -, -, i4, -⟩ := Z0.out.cells
  obtain ⟨z0, z1, z2, z3, z4, z5⟩ := Z2.out.cells
  have zf := Z2.out.free
  simp only at i4 z0 z1 z2 z3 z4 z5
  go_wp2_with (refine store_in rfl _ _ rfl _ ⟨1, 0, 0, k, ⟨#[]⟩, []⟩ (.slice none 0 0) rfl rfl rfl _ _ Z1.out ?_)
  refine bodyPost_ret (results_in Try.results160 _ _ _ ⟨1, 0, 0, k, ⟨#[]⟩, []⟩ (.slice none 0 0) rfl (Z1.out.row ⟨1, 0, 0, k, ⟨#[]⟩, []⟩ (.slice none 0 0))) rfl ?_
  exact ⟨(.slice none 0 0), by rw [HA.out]; try rfl, by rw [HA.out]; exact noInts _, below_rowI ZB.out _ (by omega)⟩
set_option maxRecDepth 100000 in
set_option maxHeartbeats 8000000 in
theorem asked_12 (a b k : Int) (s : ByteArray) (l : List Int) (A : Option Addr) (cap : Nat) (w : World) (hS : Ints w (.slice A l.length cap) l) (hn : l.length * 8 ≤ 140737488355328) :
    Calls Try.prog 160 #[inV ⟨12, a, b, k, s, l⟩ (.slice A l.length cap)] w (AskPost ⟨12, a, b, k, s, l⟩ w) := by
  have HU := Lib.hid (fun (W : World) (hb : Below w.heap.size w W) => uses_any ⟨12, a, b, k, s, l⟩ _ W (hS.next hb) hn)
  have HA := Lib.hid (show askedI ⟨12, a, b, k, s, l⟩ = ⟨12, 0, 0, 0, s, []⟩ from rfl)
  rw [show usesI ⟨12, a, b, k, s, l⟩ = [] from rfl] at HU
  have HH := Lib.hid (fun W : World => hasName_any 12 W)
  rw [show ((12 : Int) == 12 || (12 : Int) == 13 || (12 : Int) == 14) = true from rfl] at HH
  clear hS hn
  unfold inV at HU ⊢
  simp only at HU ⊢
  obtain ⟨W, hW⟩ : ∃ W, W = (((w.alloc (.cells (icells ⟨12, a, b, k, s, l⟩ (.slice A l.length cap)) 85)).alloc (.cells (icells zeroIn (.slice none 0 0)) 85)).alloc (.cells (icells ⟨12, 0, 0, 0, ⟨#[]⟩, []⟩ (.slice none 0 0)) 85)) := ⟨_, rfl⟩
  have H3 := Lib.hid (three_new w _ _ _ _ _ _ W hW)
  simp only [icells, zeroIn] at hW
  go_enter Try.func160, Try.ntmps160
  go_wp2_with fail
  rw [← hW]
  refine (HU.out _ H3.out.2.1).mono ?_
  clear hW
  rintro r w2 ⟨v2, rfl, ho, hb⟩
  have HI2 := Lib.hid ho.ints
  have HO := Lib.hid (show OwnsI w2 (w.heap.size + 3) v2 _ by rw [← H3.out.1]; exact ho)
  have B0 := Lib.hid (H3.out.2.2.1.next hb)
  have B1 := Lib.hid (H3.out.2.2.2.1.next hb)
  have B2 := Lib.hid (H3.out.2.2.2.2.next hb)
  have HB := Lib.hid (bthen H3.out.2.1 hb)
  obtain ⟨i0, i1, i2, i3, i4, i5⟩ := B0.out.cells
  obtain ⟨k0, k1, k2, k3, k4, k5⟩ := B2.out.cells
  have kf := B2.out.free
  simp only at i0 i1 i2 i3 i4 i5 k0 k1 k2 k3 k4 k5
  obtain ⟨A2, c2, hv2⟩ := HI2.out.slice
  subst hv2
  have nfix : ∀ n : Nat, n = n := fun _ => rfl
  clear ho hb H3
  go_wp2_with fail
  refine (HH.out _).mono ?_
  rintro r w4 ⟨rfl, rfl⟩
  have Z2 := B2
  have Z1 := B1
  have Z0 := B0
  have ZB := HB
  clear k0 k1 k2 k3 k4 k5 i0 i1 i2 i3 i4 i5 kf
  generalize w2 = W4 at *
  obtain ⟨-, -, -, -, i4, -⟩ := Z0.out.cells
  obtain ⟨z0, z1, z2, z3, z4, z5⟩ := Z2.out.cells
  have zf := Z2.out.free
  simp only at i4 z0 z1 z2 z3 z4 z5
  have Y1 := Lib.hid (Z1.out.other ⟨w.heap.size + 1 + 1, 4, none⟩ (.string s) (by simp))
  have YB := Lib.hid (below_cell (p := ⟨w.heap.size + 1 + 1, 4, none⟩) ZB.out (.string s) (by simp; omega))
  go_wp2_with (refine store_in rfl _ _ rfl _ ⟨12, 0, 0, 0, s, []⟩ (.slice none 0 0) rfl rfl rfl _ _ Y1.out ?_)
  refine bodyPost_ret (results_in Try.results160 _ _ _ ⟨12, 0, 0, 0, s, []⟩ (.slice none 0 0) rfl (Y1.out.row ⟨12, 0, 0, 0, s, []⟩ (.slice none 0 0))) rfl ?_
  exact ⟨(.slice none 0 0), by rw [HA.out]; try rfl, by rw [HA.out]; exact noInts _, below_rowI YB.out _ (by omega)⟩
set_option maxRecDepth 100000 in
set_option maxHeartbeats 8000000 in
theorem asked_13 (a b k : Int) (s : ByteArray) (l : List Int) (A : Option Addr) (cap : Nat) (w : World) (hS : Ints w (.slice A l.length cap) l) (hn : l.length * 8 ≤ 140737488355328) :
    Calls Try.prog 160 #[inV ⟨13, a, b, k, s, l⟩ (.slice A l.length cap)] w (AskPost ⟨13, a, b, k, s, l⟩ w) := by
  have HU := Lib.hid (fun (W : World) (hb : Below w.heap.size w W) => uses_any ⟨13, a, b, k, s, l⟩ _ W (hS.next hb) hn)
  have HA := Lib.hid (show askedI ⟨13, a, b, k, s, l⟩ = ⟨13, a, 0, 0, s, []⟩ from rfl)
  rw [show usesI ⟨13, a, b, k, s, l⟩ = [a] from rfl] at HU
  have HH := Lib.hid (fun W : World => hasName_any 13 W)
  rw [show ((13 : Int) == 12 || (13 : Int) == 13 || (13 : Int) == 14) = true from rfl] at HH
  clear hS hn
  unfold inV at HU ⊢
  simp only at HU ⊢
  obtain ⟨W, hW⟩ : ∃ W, W = (((w.alloc (.cells (icells ⟨13, a, b, k, s, l⟩ (.slice A l.length cap)) 85)).alloc (.cells (icells zeroIn (.slice none 0 0)) 85)).alloc (.cells (icells ⟨13, 0, 0, 0, ⟨#[]⟩, []⟩ (.slice none 0 0)) 85)) := ⟨_, rfl⟩
  have H3 := Lib.hid (three_new w _ _ _ _ _ _ W hW)
  simp only [icells, zeroIn] at hW
  go_enter Try.func160, Try.ntmps160
  go_wp2_with fail
  rw [← hW]
  refine (HU.out _ H3.out.2.1).mono ?_
  clear hW
  rintro r w2 ⟨v2, rfl, ho, hb⟩
  have HI2 := Lib.hid ho.ints
  have HO := Lib.hid (show OwnsI w2 (w.heap.size + 3) v2 _ by rw [← H3.out.1]; exact ho)
  have B0 := Lib.hid (H3.out.2.2.1.next hb)
  have B1 := Lib.hid (H3.out.2.2.2.1.next hb)
  have B2 := Lib.hid (H3.out.2.2.2.2.next hb)
  have HB := Lib.hid (bthen H3.out.2.1 hb)
  obtain ⟨i0, i1, i2, i3, i4, i5⟩ := B0.out.cells
  obtain ⟨k0, k1, k2, k3, k4, k5⟩ := B2.out.cells
  have kf := B2.out.free
  simp only at i0 i1 i2 i3 i4 i5 k0 k1 k2 k3 k4 k5
  obtain ⟨A2, c2, hv2⟩ := HI2.out.slice
  subst hv2
  have nfix : ∀ n : Nat, n = n := fun _ => rfl
  clear ho hb H3
  obtain ⟨ub, uo, hA2, u0⟩ := HI2.out.at_ (i := 0) (by simp)
  subst hA2
  simp only [Nat.add_zero, List.getElem_cons_zero] at u0
  go_wp2_with fail
  refine (HH.out _).mono ?_
  rintro r w4 ⟨rfl, rfl⟩
  have Z2 := Lib.hid (B2.out.putA a)
  have Z1 := Lib.hid (B1.out.other ⟨w.heap.size + 1 + 1, 1, none⟩ (.int .i64 a) (by simp))
  have Z0 := Lib.hid (B0.out.other ⟨w.heap.size + 1 + 1, 1, none⟩ (.int .i64 a) (by simp; omega))
  have ZB := Lib.hid (below_cell (p := ⟨w.heap.size + 1 + 1, 1, none⟩) HB.out (.int .i64 a) (by simp; omega))
  simp only at Z2
  clear u0 k0 k1 k2 k3 k4 k5 i0 i1 i2 i3 i4 i5 kf
  generalize w2.setCell ⟨w.heap.size + 1 + 1, 1, none⟩ (.int .i64 a) = W4 at *
  obtain ⟨-, -, -, -, i4, -⟩ := Z0.out.cells
  obtain ⟨z0, z1, z2, z3, z4, z5⟩ := Z2.out.cells
  have zf := Z2.out.free
  simp only at i4 z0 z1 z2 z3 z4 z5
  have Y1 := Lib.hid (Z1.out.other ⟨w.heap.size + 1 + 1, 4, none⟩ (.string s) (by simp))
  have YB := Lib.hid (below_cell (p := ⟨w.heap.size + 1 + 1, 4, none⟩) ZB.out (.string s) (by simp; omega))
  go_wp2_with (refine store_in rfl _ _ rfl _ ⟨13, a, 0, 0, s, []⟩ (.slice none 0 0) rfl rfl rfl _ _ Y1.out ?_)
  refine bodyPost_ret (results_in Try.results160 _ _ _ ⟨13, a, 0, 0, s, []⟩ (.slice none 0 0) rfl (Y1.out.row ⟨13, a, 0, 0, s, []⟩ (.slice none 0 0))) rfl ?_
  exact ⟨(.slice none 0 0), by rw [HA.out]; try rfl, by rw [HA.out]; exact noInts _, below_rowI YB.out _ (by omega)⟩
set_option maxRecDepth 100000 in
set_option maxHeartbeats 8000000 in
theorem asked_16 (a b k : Int) (s : ByteArray) (l : List Int) (A : Option Addr) (cap : Nat) (w : World) (hS : Ints w (.slice A l.length cap) l) (hn : l.length * 8 ≤ 140737488355328) :
    Calls Try.prog 160 #[inV ⟨16, a, b, k, s, l⟩ (.slice A l.length cap)] w (AskPost ⟨16, a, b, k, s, l⟩ w) := by
  have HU := Lib.hid (fun (W : World) (hb : Below w.heap.size w W) => uses_any ⟨16, a, b, k, s, l⟩ _ W (hS.next hb) hn)
  have HA := Lib.hid (show askedI ⟨16, a, b, k, s, l⟩ = ⟨16, a, 0, 0, ⟨#[]⟩, []⟩ from rfl)
  rw [show usesI ⟨16, a, b, k, s, l⟩ = [a] from rfl] at HU
  have HH := Lib.hid (fun W : World => hasName_any 16 W)
  rw [show ((16 : Int) == 12 || (16 : Int) == 13 || (16 : Int) == 14) = false from rfl] at HH
  clear hS hn
  unfold inV at HU ⊢
  simp only at HU ⊢
  obtain ⟨W, hW⟩ : ∃ W, W = (((w.alloc (.cells (icells ⟨16, a, b, k, s, l⟩ (.slice A l.length cap)) 85)).alloc (.cells (icells zeroIn (.slice none 0 0)) 85)).alloc (.cells (icells ⟨16, 0, 0, 0, ⟨#[]⟩, []⟩ (.slice none 0 0)) 85)) := ⟨_, rfl⟩
  have H3 := Lib.hid (three_new w _ _ _ _ _ _ W hW)
  simp only [icells, zeroIn] at hW
  go_enter Try.func160, Try.ntmps160
  go_wp2_with fail
  rw [← hW]
  refine (HU.out _ H3.out.2.1).mono ?_
  clear hW
  rintro r w2 ⟨v2, rfl, ho, hb⟩
  have HI2 := Lib.hid ho.ints
  have HO := Lib.hid (show OwnsI w2 (w.heap.size + 3) v2 _ by rw [← H3.out.1]; exact ho)
  have B0 := Lib.hid (H3.out.2.2.1.next hb)
  have B1 := Lib.hid (H3.out.2.2.2.1.next hb)
  have B2 := Lib.hid (H3.out.2.2.2.2.next hb)
  have HB := Lib.hid (bthen H3.out.2.1 hb)
  obtain ⟨i0, i1, i2, i3, i4, i5⟩ := B0.out.cells
  obtain ⟨k0, k1, k2, k3, k4, k5⟩ := B2.out.cells
  have kf := B2.out.free
  simp only at i0 i1 i2 i3 i4 i5 k0 k1 k2 k3 k4 k5
  obtain ⟨A2, c2, hv2⟩ := HI2.out.slice
  subst hv2
  have nfix : ∀ n : Nat, n = n := fun _ => rfl
  clear ho hb H3
  obtain ⟨ub, uo, hA2, u0⟩ := HI2.out.at_ (i := 0) (by simp)
  subst hA2
  simp only [Nat.add_zero, List.getElem_cons_zero] at u0
  go_wp2_with fail
  refine (HH.out _).mono ?_
  rintro r w4 ⟨rfl, rfl⟩
  have Z2 := Lib.hid (B2.out.putA a)
  have Z1 := Lib.hid (B1.out.other ⟨w.heap.size + 1 + 1, 1, none⟩ (.int .i64 a) (by simp))
  have Z0 := Lib.hid (B0.out.other ⟨w.heap.size + 1 + 1, 1, none⟩ (.int .i64 a) (by simp; omega))
  have ZB := Lib.hid (below_cell (p := ⟨w.heap.size + 1 + 1, 1, none⟩) HB.out (.int .i64 a) (by simp; omega))
  simp only at Z2
  clear u0 k0 k1 k2 k3 k4 k5 i0 i1 i2 i3 i4 i5 kf
  generalize w2.setCell ⟨w.heap.size + 1 + 1, 1, none⟩ (.int .i64 a) = W4 at *
  obtain ⟨-, -, -, -, i4, -⟩ := Z0.out.cells
  obtain ⟨z0, z1, z2, z3, z4, z5⟩ := Z2.out.cells
  have zf := Z2.out.free
  simp only at i4 z0 z1 z2 z3 z4 z5
  go_wp2_with (refine store_in rfl _ _ rfl _ ⟨16, a, 0, 0, ⟨#[]⟩, []⟩ (.slice none 0 0) rfl rfl rfl _ _ Z1.out ?_)
  refine bodyPost_ret (results_in Try.results160 _ _ _ ⟨16, a, 0, 0, ⟨#[]⟩, []⟩ (.slice none 0 0) rfl (Z1.out.row ⟨16, a, 0, 0, ⟨#[]⟩, []⟩ (.slice none 0 0))) rfl ?_
  exact ⟨(.slice none 0 0), by rw [HA.out]; try rfl, by rw [HA.out]; exact noInts _, below_rowI ZB.out _ (by omega)⟩
set_option maxRecDepth 100000 in
set_option maxHeartbeats 8000000 in
theorem asked_nil (o a b k : Int) (s : ByteArray) (l : List Int) (A : Option Addr) (cap : Nat) (w : World) (h : o ≠ 1 ∧ ¬ (2 ≤ o ∧ o ≤ 11) ∧ o ≠ 12 ∧ o ≠ 13 ∧ o ≠ 14 ∧ o ≠ 16) (hS : Ints w (.slice A l.length cap) l) (hn : l.length * 8 ≤ 140737488355328) :
    Calls Try.prog 160 #[inV ⟨o, a, b, k, s, l⟩ (.slice A l.length cap)] w (AskPost ⟨o, a, b, k, s, l⟩ w) := by
  have HU := Lib.hid (fun (W : World) (hb : Below w.heap.size w W) => uses_any ⟨o, a, b, k, s, l⟩ _ W (hS.next hb) hn)
  have HA := Lib.hid (show askedI ⟨o, a, b, k, s, l⟩ = ⟨o, 0, 0, 0, ⟨#[]⟩, []⟩ from (by
    have e1 : (decide (2 ≤ o) && decide (o ≤ 11)) = false := by simp; omega
    have e12 : (o == 12) = false := by simp; omega
    have e13 : (o == 13) = false := by simp; omega
    have e14 : (o == 14) = false := by simp; omega
    have e16 : (o == 16) = false := by simp; omega
    have f1 : ¬ o = 1 := by omega
    have f14 : ¬ o = 14 := by omega
    simp only [askedI, aB, bB, hasB, e1, e12, e13, e14, e16, Bool.or_self, Bool.false_eq_true, if_false, if_neg f1, if_neg f14]
    rfl))
  rw [show usesI ⟨o, a, b, k, s, l⟩ = [] from usesL_nil h.2.1 h.2.2.2.1 h.2.2.2.2.2 h.2.2.2.2.1] at HU
  have HH := Lib.hid (fun W : World => hasName_any o W)
  rw [show ((o : Int) == 12 || (o : Int) == 13 || (o : Int) == 14) = false from by simp; omega] at HH
  have t14 : (o == 14) = false := by simp; omega
  have t1 : (o == 1) = false := by simp; omega
  clear hS hn h
  unfold inV at HU ⊢
  simp only at HU ⊢
  obtain ⟨W, hW⟩ : ∃ W, W = (((w.alloc (.cells (icells ⟨o, a, b, k, s, l⟩ (.slice A l.length cap)) 85)).alloc (.cells (icells zeroIn (.slice none 0 0)) 85)).alloc (.cells (icells ⟨o, 0, 0, 0, ⟨#[]⟩, []⟩ (.slice none 0 0)) 85)) := ⟨_, rfl⟩
  have H3 := Lib.hid (three_new w _ _ _ _ _ _ W hW)
  simp only [icells, zeroIn] at hW
  go_enter Try.func160, Try.ntmps160
  go_wp2_with fail
  rw [← hW]
  refine (HU.out _ H3.out.2.1).mono ?_
  clear hW
  rintro r w2 ⟨v2, rfl, ho, hb⟩
  have HI2 := Lib.hid ho.ints
  have HO := Lib.hid (show OwnsI w2 (w.heap.size + 3) v2 _ by rw [← H3.out.1]; exact ho)
  have B0 := Lib.hid (H3.out.2.2.1.next hb)
  have B1 := Lib.hid (H3.out.2.2.2.1.next hb)
  have B2 := Lib.hid (H3.out.2.2.2.2.next hb)
  have HB := Lib.hid (bthen H3.out.2.1 hb)
  obtain ⟨i0, i1, i2, i3, i4, i5⟩ := B0.out.cells
  obtain ⟨k0, k1, k2, k3, k4, k5⟩ := B2.out.cells
  have kf := B2.out.free
  simp only at i0 i1 i2 i3 i4 i5 k0 k1 k2 k3 k4 k5
  obtain ⟨A2, c2, hv2⟩ := HI2.out.slice
  subst hv2
  have nfix : ∀ n : Nat, n = n := fun _ => rfl
  clear ho hb H3
  go_wp2_with fail
  refine (HH.out _).mono ?_
  rintro r w4 ⟨rfl, rfl⟩
  have Z2 := B2
  have Z1 := B1
  have Z0 := B0
  have ZB := HB
  clear k0 k1 k2 k3 k4 k5 i0 i1 i2 i3 i4 i5 kf
  generalize w2 = W4 at *
  obtain ⟨-, -, -, -, i4, -⟩ := Z0.out.cells
  obtain ⟨z0, z1, z2, z3, z4, z5⟩ := Z2.out.cells
  have zf := Z2.out.free
  simp only at i4 z0 z1 z2 z3 z4 z5
  go_wp2_with (refine store_in rfl _ _ rfl _ ⟨o, 0, 0, 0, ⟨#[]⟩, []⟩ (.slice none 0 0) rfl rfl rfl _ _ Z1.out ?_)
  refine bodyPost_ret (results_in Try.results160 _ _ _ ⟨o, 0, 0, 0, ⟨#[]⟩, []⟩ (.slice none 0 0) rfl (Z1.out.row ⟨o, 0, 0, 0, ⟨#[]⟩, []⟩ (.slice none 0 0))) rfl ?_
  exact ⟨(.slice none 0 0), by rw [HA.out]; try rfl, by rw [HA.out]; exact noInts _, below_rowI ZB.out _ (by omega)⟩
set_option maxRecDepth 100000 in
set_option maxHeartbeats 8000000 in
theorem asked_two (o a b k : Int) (s : ByteArray) (l : List Int) (A : Option Addr) (cap : Nat) (w : World) (h : 2 ≤ o ∧ o ≤ 11) (hS : Ints w (.slice A l.length cap) l) (hn : l.length * 8 ≤ 140737488355328) :
    Calls Try.prog 160 #[inV ⟨o, a, b, k, s, l⟩ (.slice A l.length cap)] w (AskPost ⟨o, a, b, k, s, l⟩ w) := by
  have HU := Lib.hid (fun (W : World) (hb : Below w.heap.size w W) => uses_any ⟨o, a, b, k, s, l⟩ _ W (hS.next hb) hn)
  have HA := Lib.hid (show askedI ⟨o, a, b, k, s, l⟩ = ⟨o, a, b, 0, ⟨#[]⟩, []⟩ from (by
    have e1 : (decide (2 ≤ o) && decide (o ≤ 11)) = true := by simp; omega
    have e12 : (o == 12) = false := by simp; omega
    have e13 : (o == 13) = false := by simp; omega
    have e14 : (o == 14) = false := by simp; omega
    have e16 : (o == 16) = false := by simp; omega
    have f1 : ¬ o = 1 := by omega
    have f14 : ¬ o = 14 := by omega
    simp only [askedI, aB, bB, hasB, e1, e12, e13, e14, e16, Bool.or_self, Bool.true_or, Bool.false_eq_true, if_false, if_true, if_neg f1, if_neg f14]
    rfl))
  rw [show usesI ⟨o, a, b, k, s, l⟩ = [a, b] from by unfold usesI usesL; rw [if_pos h]] at HU
  have HH := Lib.hid (fun W : World => hasName_any o W)
  rw [show ((o : Int) == 12 || (o : Int) == 13 || (o : Int) == 14) = false from by simp; omega] at HH
  have t14 : (o == 14) = false := by simp; omega
  have t1 : (o == 1) = false := by simp; omega
  clear hS hn h
  unfold inV at HU ⊢
  simp only at HU ⊢
  obtain ⟨W, hW⟩ : ∃ W, W = (((w.alloc (.cells (icells ⟨o, a, b, k, s, l⟩ (.slice A l.length cap)) 85)).alloc (.cells (icells zeroIn (.slice none 0 0)) 85)).alloc (.cells (icells ⟨o, 0, 0, 0, ⟨#[]⟩, []⟩ (.slice none 0 0)) 85)) := ⟨_, rfl⟩
  have H3 := Lib.hid (three_new w _ _ _ _ _ _ W hW)
  simp only [icells, zeroIn] at hW
  go_enter Try.func160, Try.ntmps160
  go_wp2_with fail
  rw [← hW]
  refine (HU.out _ H3.out.2.1).mono ?_
  clear hW
  rintro r w2 ⟨v2, rfl, ho, hb⟩
  have HI2 := Lib.hid ho.ints
  have HO := Lib.hid (show OwnsI w2 (w.heap.size + 3) v2 _ by rw [← H3.out.1]; exact ho)
  have B0 := Lib.hid (H3.out.2.2.1.next hb)
  have B1 := Lib.hid (H3.out.2.2.2.1.next hb)
  have B2 := Lib.hid (H3.out.2.2.2.2.next hb)
  have HB := Lib.hid (bthen H3.out.2.1 hb)
  obtain ⟨i0, i1, i2, i3, i4, i5⟩ := B0.out.cells
  obtain ⟨k0, k1, k2, k3, k4, k5⟩ := B2.out.cells
  have kf := B2.out.free
  simp only at i0 i1 i2 i3 i4 i5 k0 k1 k2 k3 k4 k5
  obtain ⟨A2, c2, hv2⟩ := HI2.out.slice
  subst hv2
  have nfix : ∀ n : Nat, n = n := fun _ => rfl
  clear ho hb H3
  obtain ⟨ub, uo, hA2, u0⟩ := HI2.out.at_ (i := 0) (by simp)
  subst hA2
  obtain ⟨ub', uo', hA2, u1⟩ := HI2.out.at_ (i := 1) (by simp)
  cases hA2
  simp only [Nat.add_zero, List.getElem_cons_zero, List.getElem_cons_succ] at u0 u1
  have hub := HO.out.above (by simp)
  have hub1 : ¬ w.heap.size + 1 + 1 = ub := by omega
  have hub2 : ¬ ub = w.heap.size + 1 + 1 := by omega
  go_upto_region 6 with fail
  go_region
  all_goals
    go_wp2_with fail
    refine (HH.out _).mono ?_
    rintro r w4 ⟨rfl, hw⟩
    have ZZ := Lib.hid (show InBox w4 (w.heap.size + 1 + 1) ⟨o, a, b, 0, ⟨#[]⟩, []⟩ (.slice none 0 0) ∧ InBox w4 (w.heap.size + 1) zeroIn (.slice none 0 0) ∧ InBox w4 w.heap.size ⟨o, a, b, k, s, l⟩ (.slice A l.length cap) ∧ Below w.heap.size w w4 by
      rw [← hw]
      have x2 := (B2.out.putA a).putB b
      have x1 := (B1.out.other ⟨w.heap.size + 1 + 1, 1, none⟩ (.int .i64 a) (by simp)).other ⟨w.heap.size + 1 + 1, 2, none⟩ (.int .i64 b) (by simp)
      have x0 := (B0.out.other ⟨w.heap.size + 1 + 1, 1, none⟩ (.int .i64 a) (by simp; omega)).other ⟨w.heap.size + 1 + 1, 2, none⟩ (.int .i64 b) (by simp; omega)
      have xb := below_cell (p := ⟨w.heap.size + 1 + 1, 2, none⟩) (below_cell (p := ⟨w.heap.size + 1 + 1, 1, none⟩) HB.out (.int .i64 a) (by simp; omega)) (.int .i64 b) (by simp; omega)
      have y2 := (B2.out.putB b).putA a
      have y1 := (B1.out.other ⟨w.heap.size + 1 + 1, 2, none⟩ (.int .i64 b) (by simp)).other ⟨w.heap.size + 1 + 1, 1, none⟩ (.int .i64 a) (by simp)
      have y0 := (B0.out.other ⟨w.heap.size + 1 + 1, 2, none⟩ (.int .i64 b) (by simp; omega)).other ⟨w.heap.size + 1 + 1, 1, none⟩ (.int .i64 a) (by simp; omega)
      have yb := below_cell (p := ⟨w.heap.size + 1 + 1, 1, none⟩) (below_cell (p := ⟨w.heap.size + 1 + 1, 2, none⟩) HB.out (.int .i64 b) (by simp; omega)) (.int .i64 a) (by simp; omega)
      first
      | exact ⟨x2, x1, x0, ⟨xb.os, xb.tape, xb.output, xb.size, xb.block⟩⟩
      | exact ⟨y2, y1, y0, ⟨yb.os, yb.tape, yb.output, yb.size, yb.block⟩⟩)
    obtain ⟨hz2, hz1, hz0, hzb⟩ := ZZ.out
    have Z2 := Lib.hid hz2
    have Z1 := Lib.hid hz1
    have Z0 := Lib.hid hz0
    have ZB := Lib.hid hzb
    clear hz2 hz1 hz0 hzb hw ZZ u0 u1 k0 k1 k2 k3 k4 k5 i0 i1 i2 i3 i4 i5 kf
    obtain ⟨-, -, -, -, i4, -⟩ := Z0.out.cells
    obtain ⟨z0, z1, z2, z3, z4, z5⟩ := Z2.out.cells
    have zf := Z2.out.free
    simp only at i4 z0 z1 z2 z3 z4 z5
    go_wp2_with (refine store_in rfl _ _ rfl _ ⟨o, a, b, 0, ⟨#[]⟩, []⟩ (.slice none 0 0) rfl rfl rfl _ _ Z1.out ?_)
    refine bodyPost_ret (results_in Try.results160 _ _ _ ⟨o, a, b, 0, ⟨#[]⟩, []⟩ (.slice none 0 0) rfl (Z1.out.row ⟨o, a, b, 0, ⟨#[]⟩, []⟩ (.slice none 0 0))) rfl ?_
    exact ⟨(.slice none 0 0), by rw [HA.out]; try rfl, by rw [HA.out]; exact noInts _, below_rowI ZB.out _ (by omega)⟩
set_option maxRecDepth 100000 in
set_option maxHeartbeats 8000000 in
theorem asked_14 (a b k : Int) (s : ByteArray) (l : List Int) (A : Option Addr) (cap : Nat) (w : World) (hS : Ints w (.slice A l.length cap) l) (hn : l.length * 8 ≤ 140737488355328) :
    Calls Try.prog 160 #[inV ⟨14, a, b, k, s, l⟩ (.slice A l.length cap)] w (AskPost ⟨14, a, b, k, s, l⟩ w) := by
  have HU := Lib.hid (fun (W : World) (hb : Below w.heap.size w W) => uses_any ⟨14, a, b, k, s, l⟩ _ W (hS.next hb) hn)
  have HA := Lib.hid (show askedI ⟨14, a, b, k, s, l⟩ = ⟨14, 0, 0, 0, s, l⟩ from rfl)
  rw [show usesI ⟨14, a, b, k, s, l⟩ = l from rfl] at HU
  have HH := Lib.hid (fun W : World => hasName_any 14 W)
  rw [show ((14 : Int) == 12 || (14 : Int) == 13 || (14 : Int) == 14) = true from rfl] at HH
  clear hS hn
  unfold inV at HU ⊢
  simp only at HU ⊢
  obtain ⟨W, hW⟩ : ∃ W, W = (((w.alloc (.cells (icells ⟨14, a, b, k, s, l⟩ (.slice A l.length cap)) 85)).alloc (.cells (icells zeroIn (.slice none 0 0)) 85)).alloc (.cells (icells ⟨14, 0, 0, 0, ⟨#[]⟩, []⟩ (.slice none 0 0)) 85)) := ⟨_, rfl⟩
  have H3 := Lib.hid (three_new w _ _ _ _ _ _ W hW)
  simp only [icells, zeroIn] at hW
  go_enter Try.func160, Try.ntmps160
  go_wp2_with fail
  rw [← hW]
  refine (HU.out _ H3.out.2.1).mono ?_
  clear hW
  rintro r w2 ⟨v2, rfl, ho, hb⟩
  have HI2 := Lib.hid ho.ints
  have HO := Lib.hid (show OwnsI w2 (w.heap.size + 3) v2 _ by rw [← H3.out.1]; exact ho)
  have B0 := Lib.hid (H3.out.2.2.1.next hb)
  have B1 := Lib.hid (H3.out.2.2.2.1.next hb)
  have B2 := Lib.hid (H3.out.2.2.2.2.next hb)
  have HB := Lib.hid (bthen H3.out.2.1 hb)
  obtain ⟨i0, i1, i2, i3, i4, i5⟩ := B0.out.cells
  obtain ⟨k0, k1, k2, k3, k4, k5⟩ := B2.out.cells
  have kf := B2.out.free
  simp only at i0 i1 i2 i3 i4 i5 k0 k1 k2 k3 k4 k5
  obtain ⟨A2, c2, hv2⟩ := HI2.out.slice
  subst hv2
  have nfix : ∀ n : Nat, n = n := fun _ => rfl
  clear ho hb H3
  go_wp2_with fail
  refine (HH.out _).mono ?_
  rintro r w4 ⟨rfl, rfl⟩
  have Z2 := Lib.hid (B2.out.putL (.slice A2 l.length c2) l)
  have Z1 := Lib.hid (B1.out.other ⟨w.heap.size + 1 + 1, 5, none⟩ (.slice A2 l.length c2) (by simp))
  have Z0 := Lib.hid (B0.out.other ⟨w.heap.size + 1 + 1, 5, none⟩ (.slice A2 l.length c2) (by simp; omega))
  have ZB := Lib.hid (below_cell (p := ⟨w.heap.size + 1 + 1, 5, none⟩) HB.out (.slice A2 l.length c2) (by simp; omega))

  simp only at Z2
  clear k0 k1 k2 k3 k4 k5 i0 i1 i2 i3 i4 i5 kf
  have HO := Lib.hid (HO.out.put (b := w.heap.size + 1 + 1) (i := 5) (u := .slice A2 l.length c2) (by omega))
  generalize w2.setCell ⟨w.heap.size + 1 + 1, 5, none⟩ (.slice A2 l.length c2) = W4 at *
  obtain ⟨-, -, -, -, i4, -⟩ := Z0.out.cells
  obtain ⟨z0, z1, z2, z3, z4, z5⟩ := Z2.out.cells
  have zf := Z2.out.free
  simp only at i4 z0 z1 z2 z3 z4 z5
  have Y1 := Lib.hid (Z1.out.other ⟨w.heap.size + 1 + 1, 4, none⟩ (.string s) (by simp))
  have YB := Lib.hid (below_cell (p := ⟨w.heap.size + 1 + 1, 4, none⟩) ZB.out (.string s) (by simp; omega))
  go_wp2_with (refine store_in rfl _ _ rfl _ ⟨14, 0, 0, 0, s, l⟩ (.slice A2 l.length c2) rfl rfl rfl _ _ Y1.out ?_)
  refine bodyPost_ret (results_in Try.results160 _ _ _ ⟨14, 0, 0, 0, s, l⟩ (.slice A2 l.length c2) rfl (Y1.out.row ⟨14, 0, 0, 0, s, l⟩ (.slice A2 l.length c2))) rfl ?_
  exact ⟨(.slice A2 l.length c2), by rw [HA.out]; try rfl, by rw [HA.out]; exact (OwnsI.ints ((OwnsI.put (HO.out) (b := w.heap.size + 1 + 1) (i := 4) (by omega)).row (by omega))), below_rowI YB.out _ (by omega)⟩
end Go.Proofs.Ytcfniagmnkngfaa
