/- Package ir: are two instructions the same? -/
import Derived.Test.YtkalgiaapkjplaaJ2
namespace Go.Proofs.Ytkalgiaapkjplaa
open Go.RowKit

theorem retBool {f : FuncId} {args : Array Value} {w : World} {c d : Bool} (h : c = d) (r : Calls Try.prog f args w fun e w' => e = .returned (.bool c) ∧ Below w.heap.size w w') :
    Calls Try.prog f args w fun e w' => e = .returned (.bool d) ∧ Below w.heap.size w w' := h ▸ r
/-- two boxes of a call -/
theorem boxes2 (w : World) (cs ds : Array Value) (t : TypeId) : Below w.heap.size w ((w.alloc (.cells cs t)).alloc (.cells ds t)) := balloc (balloc (Below.refl _ w) _) _
set_option maxRecDepth 100000 in
set_option maxHeartbeats 2000000 in
theorem sameInst_0 (xo xa xb xk yo ya yb yk : Int) (xs ys : ByteArray) (u v : Value) (w : World) (h0 : (xo == yo) = false) :
    Calls Try.prog 107 #[.agg #[.int .i64 xo, .int .i64 xa, .int .i64 xb, .int .u64 xk, .string xs, u], .agg #[.int .i64 yo, .int .i64 ya, .int .i64 yb, .int .u64 yk, .string ys, v]] w fun e w' => e = .returned (.bool false) ∧ Below w.heap.size w w' := by
  go_enter Try.func107, Try.ntmps107
  go_wp2_with fail
  go_ret
  exact ⟨rfl, boxes2 _ _ _ _⟩
set_option maxRecDepth 100000 in
set_option maxHeartbeats 2000000 in
theorem sameInst_1 (xo xa xb xk yo ya yb yk : Int) (xs ys : ByteArray) (u v : Value) (w : World) (h0 : (xo == yo) = true) (h1 : (xa == ya) = false) :
    Calls Try.prog 107 #[.agg #[.int .i64 xo, .int .i64 xa, .int .i64 xb, .int .u64 xk, .string xs, u], .agg #[.int .i64 yo, .int .i64 ya, .int .i64 yb, .int .u64 yk, .string ys, v]] w fun e w' => e = .returned (.bool false) ∧ Below w.heap.size w w' := by
  go_enter Try.func107, Try.ntmps107
  go_wp2_with fail
  go_ret
  exact ⟨rfl, boxes2 _ _ _ _⟩
set_option maxRecDepth 100000 in
set_option maxHeartbeats 2000000 in
theorem sameInst_2 (xo xa xb xk yo ya yb yk : Int) (xs ys : ByteArray) (u v : Value) (w : World) (h0 : (xo == yo) = true) (h1 : (xa == ya) = true) (h2 : (xb == yb) = false) :
    Calls Try.prog 107 #[.agg #[.int .i64 xo, .int .i64 xa, .int .i64 xb, .int .u64 xk, .string xs, u], .agg #[.int .i64 yo, .int .i64 ya, .int .i64 yb, .int .u64 yk, .string ys, v]] w fun e w' => e = .returned (.bool false) ∧ Below w.heap.size w w' := by
  go_enter Try.func107, Try.ntmps107
  go_wp2_with fail
  go_ret
  exact ⟨rfl, boxes2 _ _ _ _⟩
set_option maxRecDepth 100000 in
set_option maxHeartbeats 2000000 in
theorem sameInst_3 (xo xa xb xk yo ya yb yk : Int) (xs ys : ByteArray) (u v : Value) (w : World) (h0 : (xo == yo) = true) (h1 : (xa == ya) = true) (h2 : (xb == yb) = true) (h3 : (xk == yk) = false) :
    Calls Try.prog 107 #[.agg #[.int .i64 xo, .int .i64 xa, .int .i64 xb, .int .u64 xk, .string xs, u], .agg #[.int .i64 yo, .int .i64 ya, .int .i64 yb, .int .u64 yk, .string ys, v]] w fun e w' => e = .returned (.bool false) ∧ Below w.heap.size w w' := by
  go_enter Try.func107, Try.ntmps107
  go_wp2_with fail
  go_ret
  exact ⟨rfl, boxes2 _ _ _ _⟩
set_option maxRecDepth 100000 in
set_option maxHeartbeats 2000000 in
theorem sameInst_4 (xo xa xb xk yo ya yb yk : Int) (xs ys : ByteArray) (u v : Value) (w : World) (h0 : (xo == yo) = true) (h1 : (xa == ya) = true) (h2 : (xb == yb) = true) (h3 : (xk == yk) = true) (h5 : (xs.toList == ys.toList) = false) :
    Calls Try.prog 107 #[.agg #[.int .i64 xo, .int .i64 xa, .int .i64 xb, .int .u64 xk, .string xs, u], .agg #[.int .i64 yo, .int .i64 ya, .int .i64 yb, .int .u64 yk, .string ys, v]] w fun e w' => e = .returned (.bool false) ∧ Below w.heap.size w w' := by
  go_enter Try.func107, Try.ntmps107
  go_wp2_with fail
  go_ret
  exact ⟨rfl, boxes2 _ _ _ _⟩
set_option maxRecDepth 100000 in
set_option maxHeartbeats 2000000 in
theorem sameInst_5 (xo xa xb xk yo ya yb yk : Int) (xs ys : ByteArray) (m l : List Int) (A A' : Option Addr) (n n' c c' : Nat) (w : World) (h0 : (xo == yo) = true) (h1 : (xa == ya) = true) (h2 : (xb == yb) = true) (h3 : (xk == yk) = true) (h5 : (xs.toList == ys.toList) = true)
    (hS : Ints w (.slice A n c) m) (hS' : Ints w (.slice A' n' c') l) (hn9 : n ≤ 9223372036854775807) :
    Calls Try.prog 107 #[.agg #[.int .i64 xo, .int .i64 xa, .int .i64 xb, .int .u64 xk, .string xs, .slice A n c], .agg #[.int .i64 yo, .int .i64 ya, .int .i64 yb, .int .u64 yk, .string ys, .slice A' n' c']] w fun e w' => e = .returned (.bool (decide (m = l))) ∧ Below w.heap.size w w' := by
  have HC := Lib.hid (fun (W : World) (hb : Below w.heap.size w W) => iequal_any m l A A' n n' c c' W (hS.next hb) (hS'.next hb) hn9)
  clear hS hS' hn9
  go_enter Try.func107, Try.ntmps107
  go_wp2_with fail
  refine (HC.out _ (boxes2 _ _ _ _)).mono ?_
  rintro r w1 ⟨rfl, hb⟩
  have HB := Lib.hid (bthen (boxes2 _ _ _ _) hb)
  clear hb
  go_wp2_with fail
  go_ret
  exact ⟨rfl, HB.out⟩
/-- are two instructions the same? -/
theorem sameInst_any (x y : In) (A A' : Option Addr) (c c' : Nat) (w : World) (hS : Ints w (.slice A x.l.length c) x.l) (hS' : Ints w (.slice A' y.l.length c') y.l) (hn9 : x.l.length ≤ 9223372036854775807) :
    Calls Try.prog 107 #[inV x (.slice A x.l.length c), inV y (.slice A' y.l.length c')] w fun e w' => e = .returned (.bool (sameI x y)) ∧ Below w.heap.size w w' := by
  obtain ⟨xo, xa, xb, xk, xs, m⟩ := x
  obtain ⟨yo, ya, yb, yk, ys, l⟩ := y
  unfold inV sameI
  simp only at hS hS' hn9 ⊢
  cases h0 : xo == yo
  · exact retBool (by simp) (sameInst_0 _ _ _ _ _ _ _ _ _ _ _ _ _ h0)
  cases h1 : xa == ya
  · exact retBool (by simp) (sameInst_1 _ _ _ _ _ _ _ _ _ _ _ _ _ h0 h1)
  cases h2 : xb == yb
  · exact retBool (by simp) (sameInst_2 _ _ _ _ _ _ _ _ _ _ _ _ _ h0 h1 h2)
  cases h3 : xk == yk
  · exact retBool (by simp) (sameInst_3 _ _ _ _ _ _ _ _ _ _ _ _ _ h0 h1 h2 h3)
  cases h4 : xs == ys
  · exact retBool (by simp) (sameInst_4 _ _ _ _ _ _ _ _ _ _ _ _ _ h0 h1 h2 h3 (by rw [← beq_toListBytes]; exact h4))
  exact retBool (by simp) (sameInst_5 _ _ _ _ _ _ _ _ _ _ m l A A' _ _ _ _ w h0 h1 h2 h3 (by rw [← beq_toListBytes]; exact h4) hS hS' hn9)
end Go.Proofs.Ytkalgiaapkjplaa
