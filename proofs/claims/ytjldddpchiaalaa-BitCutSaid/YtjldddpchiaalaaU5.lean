/- Package bit: instructions and ends laid by a writer. -/
import Derived.Test.YtjldddpchiaalaaU4
namespace Go.Proofs.Ytjldddpchiaalaa
open Go.RowKit
namespace Q

theorem nL_nat (v : Nat) : nL (v : Int) = numL v := by simp [nL]
theorem nL_len {x : Int} (h : NN x) : (nL x).length ≤ 10 := numL_ten (by have := h.2; omega)
theorem vals_len : ∀ (l : List Int), (∀ v ∈ l, NN v) → (l.flatMap nL).length ≤ 10 * l.length
  | [], _ => by simp
  | v :: l, h => by
    have h1 := vals_len l (fun x hx => h x (by simp [hx]))
    have h2 := nL_len (h v (by simp))
    rw [List.flatMap_cons, List.length_append, List.length_cons]
    omega
theorem valsL_len {l : List Int} (h : ∀ v ∈ l, NN v) : (rowL nL l).length ≤ (numL l.length).length + 10 * l.length := by
  have := vals_len l h
  unfold rowL
  rw [List.length_append]
  omega
set_option maxRecDepth 100000 in
set_option maxHeartbeats 4000000 in
theorem inst_put_1 {w0 : World} {B b : Nat} {l : List UInt8} {x y k : Nat} {s : ByteArray} {xs : List Int} {A : Option Addr} {n c : Nat} {W : World} (hB : w0.heap.size = B) (h : Lies B b W l W) (hw : Below B w0 W) (hn : xs.length = n) (h9 : n ≤ 6) (hS : Ints w0 (.slice A n c) xs)
    (hx : x ≤ 4294967295) (hy : y ≤ 4294967295) (hk : k ≤ 18446744073709551615) (hs : s.size ≤ 16) (hxs : ∀ v ∈ xs, NN v) (hl : l.length ≤ 98000000) :
    Calls Try.prog 55 #[.pointer (some ⟨b, 0, none⟩), .agg #[.int .i64 1, .int .i64 x, .int .i64 y, .int .u64 k, .string s, .slice A n c]] W fun e w' => e = .returned (.tuple #[]) ∧ Lies B b W (l ++ inL ⟨1, x, y, k, s, xs⟩) w' := by
  have HALL := And.intro hB (And.intro hw (And.intro hn (And.intro h9 (And.intro hS (And.intro hx (And.intro hy (And.intro hk (And.intro hs hxs))))))))
  clear HALL
  obtain ⟨ob, hob⟩ : ∃ o, Obj.cells #[.int .i64 1, .int .i64 x, .int .i64 y, .int .u64 k, .string s, .slice A n c] 76 (0, 0) = o := ⟨_, rfl⟩
  have hq : W.heap.size ≠ b := box_lt h
  have hA := h.alloc ob
  have HQ := Lib.hid hq
  have HBX := Lib.hid (show (W.alloc ob).heap[W.heap.size]? = some (.cells #[.int .i64 1, .int .i64 x, .int .i64 y, .int .u64 k, .string s, .slice A n c] 76 (0, 0)) by rw [heap_alloc_new, hob])
  have n1 : (nL 1).length ≤ 10 := numL_ten (by decide)
  have HC := Lib.hid (one_putz 1 hA.start (by omega) (by omega) (by omega))
  rw [World.size_alloc] at HC
  have HA := Lib.hid hA
  have HW0 := Lib.hid (show ∀ U, Below B W U → Below B w0 U from fun U hU => hw.trans hU)
  have hl1 : (l ++ nL 1).length ≤ 98000010 := by rw [List.length_append]; omega
  have wx : IntKind.u64.wrap (x : Int) = (x : Int) := IntWalk.u64_in _ (by omega)
  have wy : IntKind.u64.wrap (y : Int) = (y : Int) := IntWalk.u64_in _ (by omega)
  have HE := Lib.hid (show l ++ inL ⟨1, x, y, k, s, xs⟩ = l ++ nL 1 ++ numL k by simp [inL, inT, nL_nat, List.append_assoc])
  rw [HE.out]
  have H2 := Lib.hid (fun (U : World) (hU : Lies B b (W.alloc ob) (l ++ nL 1) U) => one_put (v := k) hU.start (by omega) (by omega))
  subst hob
  clear h hw hn h9 hS hx hy hk hs hxs hl hB hA hq n1 hl1
  go_enter Try.func55, Try.ntmps55
  go_wp2_with fail
  refine HC.out.mono ?_
  rintro e w1 ⟨rfl, h1⟩
  have hc := h1.kept HBX.out HQ.out (by decide)
  have c0 : w1.cell? ⟨W.heap.size, 0, none⟩ = some (.int .i64 1) := by rw [Lib.cell_of_heap hc]; rfl
  have c1 : w1.cell? ⟨W.heap.size, 1, none⟩ = some (.int .i64 x) := by rw [Lib.cell_of_heap hc]; rfl
  have c2 : w1.cell? ⟨W.heap.size, 2, none⟩ = some (.int .i64 y) := by rw [Lib.cell_of_heap hc]; rfl
  have c3 : w1.cell? ⟨W.heap.size, 3, none⟩ = some (.int .u64 k) := by rw [Lib.cell_of_heap hc]; rfl
  have c4 : w1.cell? ⟨W.heap.size, 4, none⟩ = some (.string s) := by rw [Lib.cell_of_heap hc]; rfl
  have c5 : w1.cell? ⟨W.heap.size, 5, none⟩ = some (.slice A n c) := by rw [Lib.cell_of_heap hc]; rfl
  have H1 := Lib.hid h1
  clear h1 hc
  go_wp2_with fail
  refine (H2.out w1 H1.out).mono ?_
  rintro e w2 ⟨rfl, h2⟩
  have G2 := Lib.hid (H1.out.then_ h2)
  clear h2
  go_wp2_with fail
  go_end0
  exact ⟨rfl, HA.out.then_ G2.out⟩
set_option maxRecDepth 100000 in
set_option maxHeartbeats 4000000 in
theorem inst_put_2 {w0 : World} {B b : Nat} {l : List UInt8} {x y k : Nat} {s : ByteArray} {xs : List Int} {A : Option Addr} {n c : Nat} {W : World} (hB : w0.heap.size = B) (h : Lies B b W l W) (hw : Below B w0 W) (hn : xs.length = n) (h9 : n ≤ 6) (hS : Ints w0 (.slice A n c) xs)
    (hx : x ≤ 4294967295) (hy : y ≤ 4294967295) (hk : k ≤ 18446744073709551615) (hs : s.size ≤ 16) (hxs : ∀ v ∈ xs, NN v) (hl : l.length ≤ 98000000) :
    Calls Try.prog 55 #[.pointer (some ⟨b, 0, none⟩), .agg #[.int .i64 2, .int .i64 x, .int .i64 y, .int .u64 k, .string s, .slice A n c]] W fun e w' => e = .returned (.tuple #[]) ∧ Lies B b W (l ++ inL ⟨2, x, y, k, s, xs⟩) w' := by
  have HALL := And.intro hB (And.intro hw (And.intro hn (And.intro h9 (And.intro hS (And.intro hx (And.intro hy (And.intro hk (And.intro hs hxs))))))))
  clear HALL
  obtain ⟨ob, hob⟩ : ∃ o, Obj.cells #[.int .i64 2, .int .i64 x, .int .i64 y, .int .u64 k, .string s, .slice A n c] 76 (0, 0) = o := ⟨_, rfl⟩
  have hq : W.heap.size ≠ b := box_lt h
  have hA := h.alloc ob
  have HQ := Lib.hid hq
  have HBX := Lib.hid (show (W.alloc ob).heap[W.heap.size]? = some (.cells #[.int .i64 2, .int .i64 x, .int .i64 y, .int .u64 k, .string s, .slice A n c] 76 (0, 0)) by rw [heap_alloc_new, hob])
  have n1 : (nL 2).length ≤ 10 := numL_ten (by decide)
  have HC := Lib.hid (one_putz 2 hA.start (by omega) (by omega) (by omega))
  rw [World.size_alloc] at HC
  have HA := Lib.hid hA
  have HW0 := Lib.hid (show ∀ U, Below B W U → Below B w0 U from fun U hU => hw.trans hU)
  have hl1 : (l ++ nL 2).length ≤ 98000010 := by rw [List.length_append]; omega
  have wx : IntKind.u64.wrap (x : Int) = (x : Int) := IntWalk.u64_in _ (by omega)
  have wy : IntKind.u64.wrap (y : Int) = (y : Int) := IntWalk.u64_in _ (by omega)
  have HE := Lib.hid (show l ++ inL ⟨2, x, y, k, s, xs⟩ = l ++ nL 2 ++ (numL x ++ numL y) by simp [inL, inT, nL_nat, List.append_assoc])
  rw [HE.out]
  have H2 := Lib.hid (fun (U : World) (hU : Lies B b (W.alloc ob) (l ++ nL 2) U) => two_put (v := x) (u := y) hU.start (by omega) (by omega) (by omega))
  subst hob
  clear h hw hn h9 hS hx hy hk hs hxs hl hB hA hq n1 hl1
  go_enter Try.func55, Try.ntmps55
  go_wp2_with fail
  refine HC.out.mono ?_
  rintro e w1 ⟨rfl, h1⟩
  have hc := h1.kept HBX.out HQ.out (by decide)
  have c0 : w1.cell? ⟨W.heap.size, 0, none⟩ = some (.int .i64 2) := by rw [Lib.cell_of_heap hc]; rfl
  have c1 : w1.cell? ⟨W.heap.size, 1, none⟩ = some (.int .i64 x) := by rw [Lib.cell_of_heap hc]; rfl
  have c2 : w1.cell? ⟨W.heap.size, 2, none⟩ = some (.int .i64 y) := by rw [Lib.cell_of_heap hc]; rfl
  have c3 : w1.cell? ⟨W.heap.size, 3, none⟩ = some (.int .u64 k) := by rw [Lib.cell_of_heap hc]; rfl
  have c4 : w1.cell? ⟨W.heap.size, 4, none⟩ = some (.string s) := by rw [Lib.cell_of_heap hc]; rfl
  have c5 : w1.cell? ⟨W.heap.size, 5, none⟩ = some (.slice A n c) := by rw [Lib.cell_of_heap hc]; rfl
  have H1 := Lib.hid h1
  clear h1 hc
  go_wp2_with fail
  refine (H2.out w1 H1.out).mono ?_
  rintro e w2 ⟨rfl, h2⟩
  have G2 := Lib.hid (H1.out.then_ h2)
  clear h2
  go_wp2_with fail
  go_end0
  exact ⟨rfl, HA.out.then_ G2.out⟩
set_option maxRecDepth 100000 in
set_option maxHeartbeats 4000000 in
theorem inst_put_12 {w0 : World} {B b : Nat} {l : List UInt8} {x y k : Nat} {s : ByteArray} {xs : List Int} {A : Option Addr} {n c : Nat} {W : World} (hB : w0.heap.size = B) (h : Lies B b W l W) (hw : Below B w0 W) (hn : xs.length = n) (h9 : n ≤ 6) (hS : Ints w0 (.slice A n c) xs)
    (hx : x ≤ 4294967295) (hy : y ≤ 4294967295) (hk : k ≤ 18446744073709551615) (hs : s.size ≤ 16) (hxs : ∀ v ∈ xs, NN v) (hl : l.length ≤ 98000000) :
    Calls Try.prog 55 #[.pointer (some ⟨b, 0, none⟩), .agg #[.int .i64 12, .int .i64 x, .int .i64 y, .int .u64 k, .string s, .slice A n c]] W fun e w' => e = .returned (.tuple #[]) ∧ Lies B b W (l ++ inL ⟨12, x, y, k, s, xs⟩) w' := by
  have HALL := And.intro hB (And.intro hw (And.intro hn (And.intro h9 (And.intro hS (And.intro hx (And.intro hy (And.intro hk (And.intro hs hxs))))))))
  clear HALL
  obtain ⟨ob, hob⟩ : ∃ o, Obj.cells #[.int .i64 12, .int .i64 x, .int .i64 y, .int .u64 k, .string s, .slice A n c] 76 (0, 0) = o := ⟨_, rfl⟩
  have hq : W.heap.size ≠ b := box_lt h
  have hA := h.alloc ob
  have HQ := Lib.hid hq
  have HBX := Lib.hid (show (W.alloc ob).heap[W.heap.size]? = some (.cells #[.int .i64 12, .int .i64 x, .int .i64 y, .int .u64 k, .string s, .slice A n c] 76 (0, 0)) by rw [heap_alloc_new, hob])
  have n1 : (nL 12).length ≤ 10 := numL_ten (by decide)
  have HC := Lib.hid (one_putz 12 hA.start (by omega) (by omega) (by omega))
  rw [World.size_alloc] at HC
  have HA := Lib.hid hA
  have HW0 := Lib.hid (show ∀ U, Below B W U → Below B w0 U from fun U hU => hw.trans hU)
  have hl1 : (l ++ nL 12).length ≤ 98000010 := by rw [List.length_append]; omega
  have wx : IntKind.u64.wrap (x : Int) = (x : Int) := IntWalk.u64_in _ (by omega)
  have wy : IntKind.u64.wrap (y : Int) = (y : Int) := IntWalk.u64_in _ (by omega)
  have HE := Lib.hid (show l ++ inL ⟨12, x, y, k, s, xs⟩ = l ++ nL 12 ++ txL s by simp [inL, inT, List.append_assoc])
  rw [HE.out]
  have H2 := Lib.hid (fun (U : World) (hU : Lies B b (W.alloc ob) (l ++ nL 12) U) => text_put (s := s) hU.start (by omega) (by omega))
  subst hob
  clear h hw hn h9 hS hx hy hk hs hxs hl hB hA hq n1 hl1
  go_enter Try.func55, Try.ntmps55
  go_wp2_with fail
  refine HC.out.mono ?_
  rintro e w1 ⟨rfl, h1⟩
  have hc := h1.kept HBX.out HQ.out (by decide)
  have c0 : w1.cell? ⟨W.heap.size, 0, none⟩ = some (.int .i64 12) := by rw [Lib.cell_of_heap hc]; rfl
  have c1 : w1.cell? ⟨W.heap.size, 1, none⟩ = some (.int .i64 x) := by rw [Lib.cell_of_heap hc]; rfl
  have c2 : w1.cell? ⟨W.heap.size, 2, none⟩ = some (.int .i64 y) := by rw [Lib.cell_of_heap hc]; rfl
  have c3 : w1.cell? ⟨W.heap.size, 3, none⟩ = some (.int .u64 k) := by rw [Lib.cell_of_heap hc]; rfl
  have c4 : w1.cell? ⟨W.heap.size, 4, none⟩ = some (.string s) := by rw [Lib.cell_of_heap hc]; rfl
  have c5 : w1.cell? ⟨W.heap.size, 5, none⟩ = some (.slice A n c) := by rw [Lib.cell_of_heap hc]; rfl
  have H1 := Lib.hid h1
  clear h1 hc
  go_wp2_with fail
  refine (H2.out w1 H1.out).mono ?_
  rintro e w2 ⟨rfl, h2⟩
  have G2 := Lib.hid (H1.out.then_ h2)
  clear h2
  go_wp2_with fail
  go_end0
  exact ⟨rfl, HA.out.then_ G2.out⟩
set_option maxRecDepth 100000 in
set_option maxHeartbeats 4000000 in
theorem inst_put_13 {w0 : World} {B b : Nat} {l : List UInt8} {x y k : Nat} {s : ByteArray} {xs : List Int} {A : Option Addr} {n c : Nat} {W : World} (hB : w0.heap.size = B) (h : Lies B b W l W) (hw : Below B w0 W) (hn : xs.length = n) (h9 : n ≤ 6) (hS : Ints w0 (.slice A n c) xs)
    (hx : x ≤ 4294967295) (hy : y ≤ 4294967295) (hk : k ≤ 18446744073709551615) (hs : s.size ≤ 16) (hxs : ∀ v ∈ xs, NN v) (hl : l.length ≤ 98000000) :
    Calls Try.prog 55 #[.pointer (some ⟨b, 0, none⟩), .agg #[.int .i64 13, .int .i64 x, .int .i64 y, .int .u64 k, .string s, .slice A n c]] W fun e w' => e = .returned (.tuple #[]) ∧ Lies B b W (l ++ inL ⟨13, x, y, k, s, xs⟩) w' := by
  have HALL := And.intro hB (And.intro hw (And.intro hn (And.intro h9 (And.intro hS (And.intro hx (And.intro hy (And.intro hk (And.intro hs hxs))))))))
  clear HALL
  obtain ⟨ob, hob⟩ : ∃ o, Obj.cells #[.int .i64 13, .int .i64 x, .int .i64 y, .int .u64 k, .string s, .slice A n c] 76 (0, 0) = o := ⟨_, rfl⟩
  have hq : W.heap.size ≠ b := box_lt h
  have hA := h.alloc ob
  have HQ := Lib.hid hq
  have HBX := Lib.hid (show (W.alloc ob).heap[W.heap.size]? = some (.cells #[.int .i64 13, .int .i64 x, .int .i64 y, .int .u64 k, .string s, .slice A n c] 76 (0, 0)) by rw [heap_alloc_new, hob])
  have n1 : (nL 13).length ≤ 10 := numL_ten (by decide)
  have HC := Lib.hid (one_putz 13 hA.start (by omega) (by omega) (by omega))
  rw [World.size_alloc] at HC
  have HA := Lib.hid hA
  have HW0 := Lib.hid (show ∀ U, Below B W U → Below B w0 U from fun U hU => hw.trans hU)
  have hl1 : (l ++ nL 13).length ≤ 98000010 := by rw [List.length_append]; omega
  have wx : IntKind.u64.wrap (x : Int) = (x : Int) := IntWalk.u64_in _ (by omega)
  have wy : IntKind.u64.wrap (y : Int) = (y : Int) := IntWalk.u64_in _ (by omega)
  have HE := Lib.hid (show l ++ inL ⟨13, x, y, k, s, xs⟩ = l ++ nL 13 ++ numL x ++ txL s by simp [inL, inT, nL_nat, List.append_assoc])
  rw [HE.out]
  have nx : (numL x).length ≤ 10 := numL_ten (by omega)
  have hl2 : (l ++ nL 13 ++ numL x).length ≤ 98000020 := by rw [List.length_append]; omega
  have H2 := Lib.hid (fun (U : World) (hU : Lies B b (W.alloc ob) (l ++ nL 13) U) => one_put (v := x) hU.start (by omega) (by omega))
  have H3 := Lib.hid (fun (U : World) (hU : Lies B b (W.alloc ob) (l ++ nL 13 ++ numL x) U) => text_put (s := s) hU.start (by omega) (by omega))
  clear nx hl2
  subst hob
  clear h hw hn h9 hS hx hy hk hs hxs hl hB hA hq n1 hl1
  go_enter Try.func55, Try.ntmps55
  go_wp2_with fail
  refine HC.out.mono ?_
  rintro e w1 ⟨rfl, h1⟩
  have hc := h1.kept HBX.out HQ.out (by decide)
  have c0 : w1.cell? ⟨W.heap.size, 0, none⟩ = some (.int .i64 13) := by rw [Lib.cell_of_heap hc]; rfl
  have c1 : w1.cell? ⟨W.heap.size, 1, none⟩ = some (.int .i64 x) := by rw [Lib.cell_of_heap hc]; rfl
  have c2 : w1.cell? ⟨W.heap.size, 2, none⟩ = some (.int .i64 y) := by rw [Lib.cell_of_heap hc]; rfl
  have c3 : w1.cell? ⟨W.heap.size, 3, none⟩ = some (.int .u64 k) := by rw [Lib.cell_of_heap hc]; rfl
  have c4 : w1.cell? ⟨W.heap.size, 4, none⟩ = some (.string s) := by rw [Lib.cell_of_heap hc]; rfl
  have c5 : w1.cell? ⟨W.heap.size, 5, none⟩ = some (.slice A n c) := by rw [Lib.cell_of_heap hc]; rfl
  have H1 := Lib.hid h1
  clear h1 hc
  go_wp2_with fail
  refine (H2.out w1 H1.out).mono ?_
  rintro e w2 ⟨rfl, h2⟩
  have G2 := Lib.hid (H1.out.then_ h2)
  have hc := G2.out.kept HBX.out HQ.out (by decide)
  have d4 : w2.cell? ⟨W.heap.size, 4, none⟩ = some (.string s) := by rw [Lib.cell_of_heap hc]; rfl
  clear h2 hc
  go_wp2_with fail
  refine (H3.out w2 G2.out).mono ?_
  rintro e w3 ⟨rfl, h3⟩
  have G3 := Lib.hid (G2.out.then_ h3)
  clear h3
  go_wp2_with fail
  go_end0
  exact ⟨rfl, HA.out.then_ G3.out⟩
set_option maxRecDepth 100000 in
set_option maxHeartbeats 4000000 in
theorem inst_put_14 {w0 : World} {B b : Nat} {l : List UInt8} {x y k : Nat} {s : ByteArray} {xs : List Int} {A : Option Addr} {n c : Nat} {W : World} (hB : w0.heap.size = B) (h : Lies B b W l W) (hw : Below B w0 W) (hn : xs.length = n) (h9 : n ≤ 6) (hS : Ints w0 (.slice A n c) xs)
    (hx : x ≤ 4294967295) (hy : y ≤ 4294967295) (hk : k ≤ 18446744073709551615) (hs : s.size ≤ 16) (hxs : ∀ v ∈ xs, NN v) (hl : l.length ≤ 98000000) :
    Calls Try.prog 55 #[.pointer (some ⟨b, 0, none⟩), .agg #[.int .i64 14, .int .i64 x, .int .i64 y, .int .u64 k, .string s, .slice A n c]] W fun e w' => e = .returned (.tuple #[]) ∧ Lies B b W (l ++ inL ⟨14, x, y, k, s, xs⟩) w' := by
  have HALL := And.intro hB (And.intro hw (And.intro hn (And.intro h9 (And.intro hS (And.intro hx (And.intro hy (And.intro hk (And.intro hs hxs))))))))
  clear HALL
  obtain ⟨ob, hob⟩ : ∃ o, Obj.cells #[.int .i64 14, .int .i64 x, .int .i64 y, .int .u64 k, .string s, .slice A n c] 76 (0, 0) = o := ⟨_, rfl⟩
  have hq : W.heap.size ≠ b := box_lt h
  have hA := h.alloc ob
  have HQ := Lib.hid hq
  have HBX := Lib.hid (show (W.alloc ob).heap[W.heap.size]? = some (.cells #[.int .i64 14, .int .i64 x, .int .i64 y, .int .u64 k, .string s, .slice A n c] 76 (0, 0)) by rw [heap_alloc_new, hob])
  have n1 : (nL 14).length ≤ 10 := numL_ten (by decide)
  have HC := Lib.hid (one_putz 14 hA.start (by omega) (by omega) (by omega))
  rw [World.size_alloc] at HC
  have HA := Lib.hid hA
  have HW0 := Lib.hid (show ∀ U, Below B W U → Below B w0 U from fun U hU => hw.trans hU)
  have hl1 : (l ++ nL 14).length ≤ 98000010 := by rw [List.length_append]; omega
  have wx : IntKind.u64.wrap (x : Int) = (x : Int) := IntWalk.u64_in _ (by omega)
  have wy : IntKind.u64.wrap (y : Int) = (y : Int) := IntWalk.u64_in _ (by omega)
  have HE := Lib.hid (show l ++ inL ⟨14, x, y, k, s, xs⟩ = l ++ nL 14 ++ txL s ++ rowL nL xs by simp [inL, inT, List.append_assoc])
  rw [HE.out]
  have nx : (numL s.size).length ≤ 10 := numL_ten (by omega)
  have hl2 : (l ++ nL 14 ++ txL s).length ≤ 98000040 := by
    have h1 := size_data s
    unfold txL
    simp only [List.length_append] at hl1 ⊢
    omega
  have hl3 : (l ++ nL 14 ++ txL s).length + (rowL nL xs).length ≤ 99000000 := by
    have h1 := valsL_len hxs
    have h2 := numL_ten (v := xs.length) (by omega)
    omega
  have H2 := Lib.hid (fun (U : World) (hU : Lies B b (W.alloc ob) (l ++ nL 14) U) => text_put (s := s) hU.start (by omega) (by omega))
  have H3 := Lib.hid (fun (U : World) (hU : Lies B b (W.alloc ob) (l ++ nL 14 ++ txL s) U) => values_put (n := n) hB hU.start ((hw.trans hA.k.below).trans hU.k.below) hn (by omega) hS hxs hl3)
  clear nx hl2 hl3
  subst hob
  clear h hw hn h9 hS hx hy hk hs hxs hl hB hA hq n1 hl1
  go_enter Try.func55, Try.ntmps55
  go_wp2_with fail
  refine HC.out.mono ?_
  rintro e w1 ⟨rfl, h1⟩
  have hc := h1.kept HBX.out HQ.out (by decide)
  have c0 : w1.cell? ⟨W.heap.size, 0, none⟩ = some (.int .i64 14) := by rw [Lib.cell_of_heap hc]; rfl
  have c1 : w1.cell? ⟨W.heap.size, 1, none⟩ = some (.int .i64 x) := by rw [Lib.cell_of_heap hc]; rfl
  have c2 : w1.cell? ⟨W.heap.size, 2, none⟩ = some (.int .i64 y) := by rw [Lib.cell_of_heap hc]; rfl
  have c3 : w1.cell? ⟨W.heap.size, 3, none⟩ = some (.int .u64 k) := by rw [Lib.cell_of_heap hc]; rfl
  have c4 : w1.cell? ⟨W.heap.size, 4, none⟩ = some (.string s) := by rw [Lib.cell_of_heap hc]; rfl
  have c5 : w1.cell? ⟨W.heap.size, 5, none⟩ = some (.slice A n c) := by rw [Lib.cell_of_heap hc]; rfl
  have H1 := Lib.hid h1
  clear h1 hc
  go_wp2_with fail
  refine (H2.out w1 H1.out).mono ?_
  rintro e w2 ⟨rfl, h2⟩
  have G2 := Lib.hid (H1.out.then_ h2)
  have hc := G2.out.kept HBX.out HQ.out (by decide)
  have d5 : w2.cell? ⟨W.heap.size, 5, none⟩ = some (.slice A n c) := by rw [Lib.cell_of_heap hc]; rfl
  clear h2 hc
  go_wp2_with fail
  refine (H3.out w2 G2.out).mono ?_
  rintro e w3 ⟨rfl, h3⟩
  have G3 := Lib.hid (G2.out.then_ h3)
  clear h3
  go_wp2_with fail
  go_end0
  exact ⟨rfl, HA.out.then_ G3.out⟩
set_option maxRecDepth 100000 in
set_option maxHeartbeats 4000000 in
theorem inst_put_15 {w0 : World} {B b : Nat} {l : List UInt8} {x y k : Nat} {s : ByteArray} {xs : List Int} {A : Option Addr} {n c : Nat} {W : World} (hB : w0.heap.size = B) (h : Lies B b W l W) (hw : Below B w0 W) (hn : xs.length = n) (h9 : n ≤ 6) (hS : Ints w0 (.slice A n c) xs)
    (hx : x ≤ 4294967295) (hy : y ≤ 4294967295) (hk : k ≤ 18446744073709551615) (hs : s.size ≤ 16) (hxs : ∀ v ∈ xs, NN v) (hl : l.length ≤ 98000000) :
    Calls Try.prog 55 #[.pointer (some ⟨b, 0, none⟩), .agg #[.int .i64 15, .int .i64 x, .int .i64 y, .int .u64 k, .string s, .slice A n c]] W fun e w' => e = .returned (.tuple #[]) ∧ Lies B b W (l ++ inL ⟨15, x, y, k, s, xs⟩) w' := by
  have HALL := And.intro hB (And.intro hw (And.intro hn (And.intro h9 (And.intro hS (And.intro hx (And.intro hy (And.intro hk (And.intro hs hxs))))))))
  clear HALL
  obtain ⟨ob, hob⟩ : ∃ o, Obj.cells #[.int .i64 15, .int .i64 x, .int .i64 y, .int .u64 k, .string s, .slice A n c] 76 (0, 0) = o := ⟨_, rfl⟩
  have hq : W.heap.size ≠ b := box_lt h
  have hA := h.alloc ob
  have HQ := Lib.hid hq
  have HBX := Lib.hid (show (W.alloc ob).heap[W.heap.size]? = some (.cells #[.int .i64 15, .int .i64 x, .int .i64 y, .int .u64 k, .string s, .slice A n c] 76 (0, 0)) by rw [heap_alloc_new, hob])
  have n1 : (nL 15).length ≤ 10 := numL_ten (by decide)
  have HC := Lib.hid (one_putz 15 hA.start (by omega) (by omega) (by omega))
  rw [World.size_alloc] at HC
  have HA := Lib.hid hA
  have HW0 := Lib.hid (show ∀ U, Below B W U → Below B w0 U from fun U hU => hw.trans hU)
  have hl1 : (l ++ nL 15).length ≤ 98000010 := by rw [List.length_append]; omega
  have wx : IntKind.u64.wrap (x : Int) = (x : Int) := IntWalk.u64_in _ (by omega)
  have wy : IntKind.u64.wrap (y : Int) = (y : Int) := IntWalk.u64_in _ (by omega)
  have HE := Lib.hid (show l ++ inL ⟨15, x, y, k, s, xs⟩ = l ++ nL 15 by simp [inL, inT, List.append_assoc])
  rw [HE.out]
  subst hob
  clear h hw hn h9 hS hx hy hk hs hxs hl hB hA hq n1 hl1
  go_enter Try.func55, Try.ntmps55
  go_wp2_with fail
  refine HC.out.mono ?_
  rintro e w1 ⟨rfl, h1⟩
  have hc := h1.kept HBX.out HQ.out (by decide)
  have c0 : w1.cell? ⟨W.heap.size, 0, none⟩ = some (.int .i64 15) := by rw [Lib.cell_of_heap hc]; rfl
  have c1 : w1.cell? ⟨W.heap.size, 1, none⟩ = some (.int .i64 x) := by rw [Lib.cell_of_heap hc]; rfl
  have c2 : w1.cell? ⟨W.heap.size, 2, none⟩ = some (.int .i64 y) := by rw [Lib.cell_of_heap hc]; rfl
  have c3 : w1.cell? ⟨W.heap.size, 3, none⟩ = some (.int .u64 k) := by rw [Lib.cell_of_heap hc]; rfl
  have c4 : w1.cell? ⟨W.heap.size, 4, none⟩ = some (.string s) := by rw [Lib.cell_of_heap hc]; rfl
  have c5 : w1.cell? ⟨W.heap.size, 5, none⟩ = some (.slice A n c) := by rw [Lib.cell_of_heap hc]; rfl
  have H1 := Lib.hid h1
  clear h1 hc
  go_wp2_with fail
  go_end0
  exact ⟨rfl, HA.out.then_ H1.out⟩
set_option maxRecDepth 100000 in
set_option maxHeartbeats 4000000 in
theorem inst_put_16 {w0 : World} {B b : Nat} {l : List UInt8} {x y k : Nat} {s : ByteArray} {xs : List Int} {A : Option Addr} {n c : Nat} {W : World} (hB : w0.heap.size = B) (h : Lies B b W l W) (hw : Below B w0 W) (hn : xs.length = n) (h9 : n ≤ 6) (hS : Ints w0 (.slice A n c) xs)
    (hx : x ≤ 4294967295) (hy : y ≤ 4294967295) (hk : k ≤ 18446744073709551615) (hs : s.size ≤ 16) (hxs : ∀ v ∈ xs, NN v) (hl : l.length ≤ 98000000) :
    Calls Try.prog 55 #[.pointer (some ⟨b, 0, none⟩), .agg #[.int .i64 16, .int .i64 x, .int .i64 y, .int .u64 k, .string s, .slice A n c]] W fun e w' => e = .returned (.tuple #[]) ∧ Lies B b W (l ++ inL ⟨16, x, y, k, s, xs⟩) w' := by
  have HALL := And.intro hB (And.intro hw (And.intro hn (And.intro h9 (And.intro hS (And.intro hx (And.intro hy (And.intro hk (And.intro hs hxs))))))))
  clear HALL
  obtain ⟨ob, hob⟩ : ∃ o, Obj.cells #[.int .i64 16, .int .i64 x, .int .i64 y, .int .u64 k, .string s, .slice A n c] 76 (0, 0) = o := ⟨_, rfl⟩
  have hq : W.heap.size ≠ b := box_lt h
  have hA := h.alloc ob
  have HQ := Lib.hid hq
  have HBX := Lib.hid (show (W.alloc ob).heap[W.heap.size]? = some (.cells #[.int .i64 16, .int .i64 x, .int .i64 y, .int .u64 k, .string s, .slice A n c] 76 (0, 0)) by rw [heap_alloc_new, hob])
  have n1 : (nL 16).length ≤ 10 := numL_ten (by decide)
  have HC := Lib.hid (one_putz 16 hA.start (by omega) (by omega) (by omega))
  rw [World.size_alloc] at HC
  have HA := Lib.hid hA
  have HW0 := Lib.hid (show ∀ U, Below B W U → Below B w0 U from fun U hU => hw.trans hU)
  have hl1 : (l ++ nL 16).length ≤ 98000010 := by rw [List.length_append]; omega
  have wx : IntKind.u64.wrap (x : Int) = (x : Int) := IntWalk.u64_in _ (by omega)
  have wy : IntKind.u64.wrap (y : Int) = (y : Int) := IntWalk.u64_in _ (by omega)
  have HE := Lib.hid (show l ++ inL ⟨16, x, y, k, s, xs⟩ = l ++ nL 16 ++ numL x by simp [inL, inT, nL_nat, List.append_assoc])
  rw [HE.out]
  have H2 := Lib.hid (fun (U : World) (hU : Lies B b (W.alloc ob) (l ++ nL 16) U) => one_put (v := x) hU.start (by omega) (by omega))
  subst hob
  clear h hw hn h9 hS hx hy hk hs hxs hl hB hA hq n1 hl1
  go_enter Try.func55, Try.ntmps55
  go_wp2_with fail
  refine HC.out.mono ?_
  rintro e w1 ⟨rfl, h1⟩
  have hc := h1.kept HBX.out HQ.out (by decide)
  have c0 : w1.cell? ⟨W.heap.size, 0, none⟩ = some (.int .i64 16) := by rw [Lib.cell_of_heap hc]; rfl
  have c1 : w1.cell? ⟨W.heap.size, 1, none⟩ = some (.int .i64 x) := by rw [Lib.cell_of_heap hc]; rfl
  have c2 : w1.cell? ⟨W.heap.size, 2, none⟩ = some (.int .i64 y) := by rw [Lib.cell_of_heap hc]; rfl
  have c3 : w1.cell? ⟨W.heap.size, 3, none⟩ = some (.int .u64 k) := by rw [Lib.cell_of_heap hc]; rfl
  have c4 : w1.cell? ⟨W.heap.size, 4, none⟩ = some (.string s) := by rw [Lib.cell_of_heap hc]; rfl
  have c5 : w1.cell? ⟨W.heap.size, 5, none⟩ = some (.slice A n c) := by rw [Lib.cell_of_heap hc]; rfl
  have H1 := Lib.hid h1
  clear h1 hc
  go_wp2_with fail
  refine (H2.out w1 H1.out).mono ?_
  rintro e w2 ⟨rfl, h2⟩
  have G2 := Lib.hid (H1.out.then_ h2)
  clear h2
  go_wp2_with fail
  go_end0
  exact ⟨rfl, HA.out.then_ G2.out⟩
end Q
end Go.Proofs.Ytjldddpchiaalaa
