/- Package elf: a file's head, what is told of a segment, noughts. -/
import Derived.Test.YtdlbhkdjcegbfaaF7
namespace Go.Proofs.Ytdlbhkdjcegbfaa
open Go.RowKit

theorem Nums.new (W : World) (vs : List Nat) : Nums (W.alloc (.cells (vs.map fun v : Nat => Value.int .u64 (v : Int)).toArray 22)) W.heap.size vs :=
  ⟨_, _, heap_alloc_new _ _, fun i hi => by simp [hi]⟩
theorem Fl.alloc {W : World} {B b : Nat} {l : List UInt8} (h : Fl W B b l) (o : Obj) : Fl (W.alloc o) B b l := by
  have hlt := h.lt
  rcases h with ⟨h1, v, hb, hown, hne⟩ | ⟨h1, v, hb, hown, hne⟩
  · exact .inl ⟨h1, v, by rw [Lib.alloc_old W o b hlt]; exact hb, hown.alloc o, hne⟩
  · exact .inr ⟨h1, v, by rw [Lib.alloc_old W o b hlt]; exact hb, hown.alloc o, hne⟩
/-- a file's frame: what was below B, and what isn't the file's or bytes, is as it was -/
structure Keep (B b : Nat) (w w' : World) : Prop where
  below : Below B w w'
  kept : Lib.OthersKept 5 (some b) w w'
theorem Keep.refl (B b : Nat) (w : World) : Keep B b w w := ⟨Below.refl _ _, Lib.OthersKept.refl _ _ _⟩
theorem Keep.alloc {B b : Nat} {w w' : World} (h : Keep B b w w') (hB : B ≤ w'.heap.size) (o : Obj) : Keep B b w (w'.alloc o) := ⟨h.below.alloc hB o, h.kept.alloc o⟩
theorem Keep.trans {B b : Nat} {w w' w2 : World} (h : Keep B b w w') (g : Keep B b w' w2) : Keep B b w w2 := ⟨h.below.trans g.below, h.kept.trans g.kept⟩
/-- where a file stands: its bytes, its frame -/
structure Lies (B b : Nat) (w : World) (l : List UInt8) (W : World) : Prop where
  f : Fl W B b l
  k : Keep B b w W
  s : B ≤ W.heap.size
theorem Lies.alloc {B b : Nat} {w W : World} {l : List UInt8} (h : Lies B b w l W) (o : Obj) : Lies B b w l (W.alloc o) := ⟨h.f.alloc o, h.k.alloc h.s o, by have := h.s; simp; omega⟩
theorem nums_put (B b N : Nat) (l : List UInt8) (vs : List Nat) (w W : World) (h : Lies B b w l W) (hN : N ≤ 8) (h8 : vs.length ≤ 100) (h64 : ∀ v ∈ vs, v < 18446744073709551616) (hl : l.length ≤ 100000000) (h0 : 0 < N) (h1 : 0 < vs.length) :
    Calls Try.prog 137 #[.pointer (some ⟨b, 0, none⟩), .int .i64 N, .slice (some ⟨W.heap.size, 0, none⟩) vs.length vs.length] (W.alloc (.cells (vs.map fun v : Nat => Value.int .u64 (v : Int)).toArray 22)) fun e w' => e = .returned (.tuple #[]) ∧ Lies B b w (l ++ numsL N vs) w' := by
  have h2 := h.alloc (.cells (vs.map fun v : Nat => Value.int .u64 (v : Int)).toArray 22)
  refine (nums_any B b _ _ N l vs _ h2.f (Nums.new W vs) hN h8 h64 hl h2.s h0 h1).mono ?_
  rintro e w' ⟨rfl, g1, g2, g3⟩
  exact ⟨rfl, g1, h2.k.trans ⟨g2, g3⟩, Nat.le_trans h2.s g2.size⟩
theorem str_put (B b : Nat) (l : List UInt8) (s : ByteArray) (w W : World) (h : Lies B b w l W) (hl : l.length + s.size ≤ 140737488355328) :
    Calls Try.prog 105 #[.pointer (some ⟨b, 0, none⟩), .string s] W fun e w' => e = .returned (.tuple #[.int .i64 s.size, .nilIface]) ∧ Lies B b w (l ++ s.data.toList) w' ∧ Fu w' B b (l ++ s.data.toList) := by
  refine (fstr_any B b l s W h.f hl h.s).mono ?_
  rintro e w' ⟨rfl, g1, g2, g3⟩
  exact ⟨rfl, ⟨g1.fl, h.k.trans ⟨g2, g3⟩, Nat.le_trans h.s g2.size⟩, g1⟩
def ident : List UInt8 := [127, 69, 76, 70, 2, 1, 1, 0, 0, 0, 0, 0, 0, 0, 0, 0]
/-- a file's head -/
def headL (e c : Nat) : List UInt8 := ident ++ numsL 2 [2, 243] ++ numsL 4 [1] ++ numsL 8 [e, 64, 0] ++ numsL 4 [0] ++ numsL 2 [64, 56, c, 0, 0, 0]
theorem headL_length (e c : Nat) : (headL e c).length = 64 := by
  unfold headL ident
  simp only [List.length_append, numsL_length, List.length_cons, List.length_nil]
/-- what is told of a segment -/
def tellL (s : Sg) (a : Nat) : List UInt8 := numsL 4 [1, s.p.toNat] ++ numsL 8 [a, s.a.toNat, s.a.toNat, s.d.size, s.z.toNat, 256]
theorem tellL_length (s : Sg) (a : Nat) : (tellL s a).length = 56 := by
  unfold tellL
  simp only [List.length_append, numsL_length, List.length_cons, List.length_nil]
set_option maxRecDepth 100000 in
set_option maxHeartbeats 1000000 in
theorem head_any (B b e c : Nat) (l : List UInt8) (w W : World) (h : Lies B b w l W) (he : e < 18446744073709551616 ∧ c < 18446744073709551616) (hn : l.length ≤ 1000000) :
    Calls Try.prog 101 #[.pointer (some ⟨b, 0, none⟩), .int .u64 e, .int .u64 c] W fun r w' => r = .returned (.tuple #[]) ∧ Lies B b w (l ++ headL e c) w' := by
  have HL := Lib.hid h
  have HE := Lib.hid he
  have HN := Lib.hid hn
  clear h he hn
  have hs := str_put B b l ⟨ident.toArray⟩ w W HL.out (by have := HN.out; show l.length + 16 ≤ _; omega)
  go_enter Try.func101, Try.ntmps101
  go_wp2_with fail
  refine hs.mono ?_
  rintro e0 w0 ⟨rfl, hL, -⟩
  have HL := Lib.hid (show Lies B b w (l ++ ident) w0 from hL)
  clear hL hs
  have hc : Calls Try.prog 137 #[.pointer (some ⟨b, 0, none⟩), .int .i64 2, .slice (some ⟨w0.heap.size, 0, none⟩) 2 2] (w0.alloc (.cells #[.int .u64 2, .int .u64 243] 22)) fun r w' => r = .returned (.tuple #[]) ∧ Lies B b w ((l ++ ident) ++ numsL 2 [2, 243]) w' := nums_put B b 2 _ [2, 243] w w0 HL.out (by omega) (by simp) (by have he := HE.out; simp; try omega) (by have := HN.out; simp only [ident, List.length_append, List.length_cons, List.length_nil]; omega) (by omega) (by simp)
  go_wp2_with fail
  refine hc.mono ?_
  rintro e1 w1 ⟨rfl, hL⟩
  have HL := Lib.hid hL
  clear hL hc
  have hc : Calls Try.prog 137 #[.pointer (some ⟨b, 0, none⟩), .int .i64 4, .slice (some ⟨w1.heap.size, 0, none⟩) 1 1] (w1.alloc (.cells #[.int .u64 1] 22)) fun r w' => r = .returned (.tuple #[]) ∧ Lies B b w (((l ++ ident) ++ numsL 2 [2, 243]) ++ numsL 4 [1]) w' := nums_put B b 4 _ [1] w w1 HL.out (by omega) (by simp) (by have he := HE.out; simp; try omega) (by have := HN.out; simp only [ident, List.length_append, numsL_length, List.length_cons, List.length_nil]; omega) (by omega) (by simp)
  go_wp2_with fail
  refine hc.mono ?_
  rintro e2 w2 ⟨rfl, hL⟩
  have HL := Lib.hid hL
  clear hL hc
  have hc : Calls Try.prog 137 #[.pointer (some ⟨b, 0, none⟩), .int .i64 8, .slice (some ⟨w2.heap.size, 0, none⟩) 3 3] (w2.alloc (.cells #[.int .u64 e, .int .u64 64, .int .u64 0] 22)) fun r w' => r = .returned (.tuple #[]) ∧ Lies B b w ((((l ++ ident) ++ numsL 2 [2, 243]) ++ numsL 4 [1]) ++ numsL 8 [e, 64, 0]) w' := nums_put B b 8 _ [e, 64, 0] w w2 HL.out (by omega) (by simp) (by have he := HE.out; simp; try omega) (by have := HN.out; simp only [ident, List.length_append, numsL_length, List.length_cons, List.length_nil]; omega) (by omega) (by simp)
  go_wp2_with fail
  refine hc.mono ?_
  rintro e3 w3 ⟨rfl, hL⟩
  have HL := Lib.hid hL
  clear hL hc
  have hc : Calls Try.prog 137 #[.pointer (some ⟨b, 0, none⟩), .int .i64 4, .slice (some ⟨w3.heap.size, 0, none⟩) 1 1] (w3.alloc (.cells #[.int .u64 0] 22)) fun r w' => r = .returned (.tuple #[]) ∧ Lies B b w (((((l ++ ident) ++ numsL 2 [2, 243]) ++ numsL 4 [1]) ++ numsL 8 [e, 64, 0]) ++ numsL 4 [0]) w' := nums_put B b 4 _ [0] w w3 HL.out (by omega) (by simp) (by have he := HE.out; simp; try omega) (by have := HN.out; simp only [ident, List.length_append, numsL_length, List.length_cons, List.length_nil]; omega) (by omega) (by simp)
  go_wp2_with fail
  refine hc.mono ?_
  rintro e4 w4 ⟨rfl, hL⟩
  have HL := Lib.hid hL
  clear hL hc
  have hc : Calls Try.prog 137 #[.pointer (some ⟨b, 0, none⟩), .int .i64 2, .slice (some ⟨w4.heap.size, 0, none⟩) 6 6] (w4.alloc (.cells #[.int .u64 64, .int .u64 56, .int .u64 c, .int .u64 0, .int .u64 0, .int .u64 0] 22)) fun r w' => r = .returned (.tuple #[]) ∧ Lies B b w ((((((l ++ ident) ++ numsL 2 [2, 243]) ++ numsL 4 [1]) ++ numsL 8 [e, 64, 0]) ++ numsL 4 [0]) ++ numsL 2 [64, 56, c, 0, 0, 0]) w' := nums_put B b 2 _ [64, 56, c, 0, 0, 0] w w4 HL.out (by omega) (by simp) (by have he := HE.out; simp; try omega) (by have := HN.out; simp only [ident, List.length_append, numsL_length, List.length_cons, List.length_nil]; omega) (by omega) (by simp)
  go_wp2_with fail
  refine hc.mono ?_
  rintro e5 w5 ⟨rfl, hL⟩
  have HL := Lib.hid hL
  clear hL hc
  go_wp2_with fail
  go_end0
  refine ⟨rfl, ?_⟩
  have h := HL.out
  unfold headL
  simpa only [List.append_assoc] using h
end Go.Proofs.Ytdlbhkdjcegbfaa
