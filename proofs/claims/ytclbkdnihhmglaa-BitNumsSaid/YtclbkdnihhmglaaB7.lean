/- Package bit: where a writer stands; Num, of every number. -/
import Derived.Test.YtclbkdnihhmglaaB6
import Derived.Deep.Cut
namespace Go.Proofs.Ytclbkdnihhmglaa
open Go.RowKit
namespace Q

theorem Nums.new (W : World) (vs : List Nat) : Nums (W.alloc (.cells (vs.map fun v : Nat => Value.int .u64 (v : Int)).toArray 22)) W.heap.size vs :=
  ⟨_, _, heap_alloc_new _ _, fun i hi => by simp [hi]⟩
theorem Fl.alloc {W : World} {B b : Nat} {l : List UInt8} (h : Fl W B b l) (o : Obj) : Fl (W.alloc o) B b l := by
  have hlt := h.lt
  rcases h with ⟨h1, v, hb, hown, hne⟩ | ⟨h1, v, hb, hown, hne⟩
  · exact .inl ⟨h1, v, by rw [Lib.alloc_old W o b hlt]; exact hb, hown.alloc o, hne⟩
  · exact .inr ⟨h1, v, by rw [Lib.alloc_old W o b hlt]; exact hb, hown.alloc o, hne⟩
/-- a file's frame: what was below B, and what isn't the file's or bytes, is as it was -/
structure Keep (B b : Nat) (w w' : World) : Prop where
  below : Below B w w'
  kept : Lib.OthersKept 5 (some b) w w'
theorem Keep.refl (B b : Nat) (w : World) : Keep B b w w := ⟨Below.refl _ _, Lib.OthersKept.refl _ _ _⟩
theorem Keep.alloc {B b : Nat} {w w' : World} (h : Keep B b w w') (hB : B ≤ w'.heap.size) (o : Obj) : Keep B b w (w'.alloc o) := ⟨h.below.alloc hB o, h.kept.alloc o⟩
theorem Keep.trans {B b : Nat} {w w' w2 : World} (h : Keep B b w w') (g : Keep B b w' w2) : Keep B b w w2 := ⟨h.below.trans g.below, h.kept.trans g.kept⟩
/-- where a file stands: its bytes, its frame -/
structure Lies (B b : Nat) (w : World) (l : List UInt8) (W : World) : Prop where
  f : Fl W B b l
  k : Keep B b w W
  s : B ≤ W.heap.size
theorem Lies.alloc {B b : Nat} {w W : World} {l : List UInt8} (h : Lies B b w l W) (o : Obj) : Lies B b w l (W.alloc o) := ⟨h.f.alloc o, h.k.alloc h.s o, by have := h.s; simp; omega⟩
theorem nums_put (B b : Nat) (l : List UInt8) (vs : List Nat) (w W : World) (h : Lies B b w l W) (h8 : vs.length ≤ 100) (h64 : ∀ v ∈ vs, v < 18446744073709551616) (hl : l.length ≤ 100000000) :
    Calls Try.prog 101 #[.pointer (some ⟨b, 0, none⟩), .slice (some ⟨W.heap.size, 0, none⟩) vs.length vs.length] (W.alloc (.cells (vs.map fun v : Nat => Value.int .u64 (v : Int)).toArray 22)) fun e w' => e = .returned (.tuple #[]) ∧ Lies B b w (l ++ numsQ vs) w' := by
  have h2 := h.alloc (.cells (vs.map fun v : Nat => Value.int .u64 (v : Int)).toArray 22)
  refine (numbers_any B b _ _ l vs _ h2.f (Nums.new W vs) h8 h64 hl h2.s).mono ?_
  rintro e w' ⟨rfl, g1, g2, g3⟩
  exact ⟨rfl, g1, h2.k.trans ⟨g2, g3⟩, Nat.le_trans h2.s g2.size⟩
/-- a number's bytes, as a string -/
def numS (v : Nat) : ByteArray := ⟨(numL v).toArray⟩
theorem numS_size (v : Nat) : (numS v).size = (numL v).length := by
  show (numL v).toArray.size = _
  simp
set_option maxRecDepth 100000 in
set_option maxHeartbeats 1000000 in
theorem num_any (v : Nat) (hv : v < 18446744073709551616) (w : World) : Calls Try.prog 56 #[.int .u64 v] w fun e w' => e = .returned (.string (numS v)) ∧ Below w.heap.size w w' := by
  obtain ⟨W, hW⟩ : ∃ W, w.alloc (.cells #[.pointer none, .slice none 0 0] 145) = W := ⟨_, rfl⟩
  obtain ⟨B, hB⟩ : ∃ B, w.heap.size = B := ⟨_, rfl⟩
  have h0 : Lies B B w [] W := by
    rw [← hW, ← hB]
    exact ⟨Fl.new w, (Keep.refl w.heap.size w.heap.size w).alloc (Nat.le_refl _) _, by rw [World.size_alloc]; exact Nat.le_succ _⟩
  have h1 : ∀ x ∈ [v], x < 18446744073709551616 := fun x hx => by
    rw [List.mem_singleton] at hx
    rw [hx]
    exact hv
  have h2 : [v].length ≤ 100 := by rw [List.length_singleton]; decide
  have h3 : ([] : List UInt8).length ≤ 100000000 := Nat.zero_le _
  have hc : Calls Try.prog 101 #[.pointer (some ⟨B, 0, none⟩), .slice (some ⟨W.heap.size, 0, none⟩) 1 1] (W.alloc (.cells #[.int .u64 v] 22)) fun e w' => e = .returned (.tuple #[]) ∧ Lies B B w (numL v) w' := by
    have h := nums_put B B [] [v] w W h0 h2 h1 h3
    rw [show [] ++ numsQ [v] = numL v by simp [numsQ]] at h
    exact h
  have HP := Lib.hid (show numL v ≠ [] by intro h; have := numL_pos v; rw [h] at this; simp at this)
  have HBB := Lib.hid hB
  clear hv h0 h1 h2 h3
  go_enter Try.func56, Try.ntmps56
  go_upto_region 2 with fail
  try rw [hW, hB]
  clear hW hB
  go_wp2_with fail
  refine hc.mono ?_
  rintro e w1 ⟨rfl, hL⟩
  have HL := Lib.hid hL
  have HS := Lib.hid (fstringl_any B B (numL v) w1 hL.f HP.out)
  clear hL hc
  go_wp2_with fail
  refine HS.out.mono ?_
  rintro e w2 ⟨rfl, hb⟩
  have HB := Lib.hid (HL.out.k.below.trans hb)
  clear hb
  go_wp2_with fail
  go_ret
  exact ⟨rfl, HBB.out ▸ HB.out⟩
end Q
end Go.Proofs.Ytclbkdnihhmglaa
