/- Package bit: instructions and ends laid by a writer. -/
import Derived.Test.YtjldddpchiaalaaU5
namespace Go.Proofs.Ytjldddpchiaalaa
open Go.RowKit
namespace Q

set_option maxRecDepth 100000 in
set_option maxHeartbeats 4000000 in
theorem inst_put_3 {w0 : World} {B b : Nat} {l : List UInt8} {x y k : Nat} {s : ByteArray} {xs : List Int} {A : Option Addr} {n c : Nat} {W : World} (hB : w0.heap.size = B) (h : Lies B b W l W) (hw : Below B w0 W) (hn : xs.length = n) (h9 : n ≤ 6) (hS : Ints w0 (.slice A n c) xs)
    (hx : x ≤ 4294967295) (hy : y ≤ 4294967295) (hk : k ≤ 18446744073709551615) (hs : s.size ≤ 16) (hxs : ∀ v ∈ xs, NN v) (hl : l.length ≤ 98000000) :
    Calls Try.prog 55 #[.pointer (some ⟨b, 0, none⟩), .agg #[.int .i64 3, .int .i64 x, .int .i64 y, .int .u64 k, .string s, .slice A n c]] W fun e w' => e = .returned (.tuple #[]) ∧ Lies B b W (l ++ inL ⟨3, x, y, k, s, xs⟩) w' := by
  have HALL := And.intro hB (And.intro hw (And.intro hn (And.intro h9 (And.intro hS (And.intro hx (And.intro hy (And.intro hk (And.intro hs hxs))))))))
  clear HALL
  obtain ⟨ob, hob⟩ : ∃ o, Obj.cells #[.int .i64 3, .int .i64 x, .int .i64 y, .int .u64 k, .string s, .slice A n c] 76 (0, 0) = o := ⟨_, rfl⟩
  have hq : W.heap.size ≠ b := box_lt h
  have hA := h.alloc ob
  have HQ := Lib.hid hq
  have HBX := Lib.hid (show (W.alloc ob).heap[W.heap.size]? = some (.cells #[.int .i64 3, .int .i64 x, .int .i64 y, .int .u64 k, .string s, .slice A n c] 76 (0, 0)) by rw [heap_alloc_new, hob])
  have n1 : (nL 3).length ≤ 10 := numL_ten (by decide)
  have HC := Lib.hid (one_putz 3 hA.start (by omega) (by omega) (by omega))
  rw [World.size_alloc] at HC
  have HA := Lib.hid hA
  have HW0 := Lib.hid (show ∀ U, Below B W U → Below B w0 U from fun U hU => hw.trans hU)
  have hl1 : (l ++ nL 3).length ≤ 98000010 := by rw [List.length_append]; omega
  have wx : IntKind.u64.wrap (x : Int) = (x : Int) := IntWalk.u64_in _ (by omega)
  have wy : IntKind.u64.wrap (y : Int) = (y : Int) := IntWalk.u64_in _ (by omega)
  have HE := Lib.hid (show l ++ inL ⟨3, x, y, k, s, xs⟩ = l ++ nL 3 ++ (numL x ++ numL y) by simp [inL, inT, nL_nat, List.append_assoc])
  rw [HE.out]
  have H2 := Lib.hid (fun (U : World) (hU : Lies B b (W.alloc ob) (l ++ nL 3) U) => two_put (v := x) (u := y) hU.start (by omega) (by omega) (by omega))
  subst hob
  clear h hw hn h9 hS hx hy hk hs hxs hl hB hA hq n1 hl1
  go_enter Try.func55, Try.ntmps55
  go_wp2_with fail
  refine HC.out.mono ?_
  rintro e w1 ⟨rfl, h1⟩
  have hc := h1.kept HBX.out HQ.out (by decide)
  have c0 : w1.cell? ⟨W.heap.size, 0, none⟩ = some (.int .i64 3) := by rw [Lib.cell_of_heap hc]; rfl
  have c1 : w1.cell? ⟨W.heap.size, 1, none⟩ = some (.int .i64 x) := by rw [Lib.cell_of_heap hc]; rfl
  have c2 : w1.cell? ⟨W.heap.size, 2, none⟩ = some (.int .i64 y) := by rw [Lib.cell_of_heap hc]; rfl
  have c3 : w1.cell? ⟨W.heap.size, 3, none⟩ = some (.int .u64 k) := by rw [Lib.cell_of_heap hc]; rfl
  have c4 : w1.cell? ⟨W.heap.size, 4, none⟩ = some (.string s) := by rw [Lib.cell_of_heap hc]; rfl
  have c5 : w1.cell? ⟨W.heap.size, 5, none⟩ = some (.slice A n c) := by rw [Lib.cell_of_heap hc]; rfl
  have H1 := Lib.hid h1
  clear h1 hc
  go_wp2_with fail
  refine (H2.out w1 H1.out).mono ?_
  rintro e w2 ⟨rfl, h2⟩
  have G2 := Lib.hid (H1.out.then_ h2)
  clear h2
  go_wp2_with fail
  go_end0
  exact ⟨rfl, HA.out.then_ G2.out⟩
set_option maxRecDepth 100000 in
set_option maxHeartbeats 4000000 in
theorem inst_put_4 {w0 : World} {B b : Nat} {l : List UInt8} {x y k : Nat} {s : ByteArray} {xs : List Int} {A : Option Addr} {n c : Nat} {W : World} (hB : w0.heap.size = B) (h : Lies B b W l W) (hw : Below B w0 W) (hn : xs.length = n) (h9 : n ≤ 6) (hS : Ints w0 (.slice A n c) xs)
    (hx : x ≤ 4294967295) (hy : y ≤ 4294967295) (hk : k ≤ 18446744073709551615) (hs : s.size ≤ 16) (hxs : ∀ v ∈ xs, NN v) (hl : l.length ≤ 98000000) :
    Calls Try.prog 55 #[.pointer (some ⟨b, 0, none⟩), .agg #[.int .i64 4, .int .i64 x, .int .i64 y, .int .u64 k, .string s, .slice A n c]] W fun e w' => e = .returned (.tuple #[]) ∧ Lies B b W (l ++ inL ⟨4, x, y, k, s, xs⟩) w' := by
  have HALL := And.intro hB (And.intro hw (And.intro hn (And.intro h9 (And.intro hS (And.intro hx (And.intro hy (And.intro hk (And.intro hs hxs))))))))
  clear HALL
  obtain ⟨ob, hob⟩ : ∃ o, Obj.cells #[.int .i64 4, .int .i64 x, .int .i64 y, .int .u64 k, .string s, .slice A n c] 76 (0, 0) = o := ⟨_, rfl⟩
  have hq : W.heap.size ≠ b := box_lt h
  have hA := h.alloc ob
  have HQ := Lib.hid hq
  have HBX := Lib.hid (show (W.alloc ob).heap[W.heap.size]? = some (.cells #[.int .i64 4, .int .i64 x, .int .i64 y, .int .u64 k, .string s, .slice A n c] 76 (0, 0)) by rw [heap_alloc_new, hob])
  have n1 : (nL 4).length ≤ 10 := numL_ten (by decide)
  have HC := Lib.hid (one_putz 4 hA.start (by omega) (by omega) (by omega))
  rw [World.size_alloc] at HC
  have HA := Lib.hid hA
  have HW0 := Lib.hid (show ∀ U, Below B W U → Below B w0 U from fun U hU => hw.trans hU)
  have hl1 : (l ++ nL 4).length ≤ 98000010 := by rw [List.length_append]; omega
  have wx : IntKind.u64.wrap (x : Int) = (x : Int) := IntWalk.u64_in _ (by omega)
  have wy : IntKind.u64.wrap (y : Int) = (y : Int) := IntWalk.u64_in _ (by omega)
  have HE := Lib.hid (show l ++ inL ⟨4, x, y, k, s, xs⟩ = l ++ nL 4 ++ (numL x ++ numL y) by simp [inL, inT, nL_nat, List.append_assoc])
  rw [HE.out]
  have H2 := Lib.hid (fun (U : World) (hU : Lies B b (W.alloc ob) (l ++ nL 4) U) => two_put (v := x) (u := y) hU.start (by omega) (by omega) (by omega))
  subst hob
  clear h hw hn h9 hS hx hy hk hs hxs hl hB hA hq n1 hl1
  go_enter Try.func55, Try.ntmps55
  go_wp2_with fail
  refine HC.out.mono ?_
  rintro e w1 ⟨rfl, h1⟩
  have hc := h1.kept HBX.out HQ.out (by decide)
  have c0 : w1.cell? ⟨W.heap.size, 0, none⟩ = some (.int .i64 4) := by rw [Lib.cell_of_heap hc]; rfl
  have c1 : w1.cell? ⟨W.heap.size, 1, none⟩ = some (.int .i64 x) := by rw [Lib.cell_of_heap hc]; rfl
  have c2 : w1.cell? ⟨W.heap.size, 2, none⟩ = some (.int .i64 y) := by rw [Lib.cell_of_heap hc]; rfl
  have c3 : w1.cell? ⟨W.heap.size, 3, none⟩ = some (.int .u64 k) := by rw [Lib.cell_of_heap hc]; rfl
  have c4 : w1.cell? ⟨W.heap.size, 4, none⟩ = some (.string s) := by rw [Lib.cell_of_heap hc]; rfl
  have c5 : w1.cell? ⟨W.heap.size, 5, none⟩ = some (.slice A n c) := by rw [Lib.cell_of_heap hc]; rfl
  have H1 := Lib.hid h1
  clear h1 hc
  go_wp2_with fail
  refine (H2.out w1 H1.out).mono ?_
  rintro e w2 ⟨rfl, h2⟩
  have G2 := Lib.hid (H1.out.then_ h2)
  clear h2
  go_wp2_with fail
  go_end0
  exact ⟨rfl, HA.out.then_ G2.out⟩
set_option maxRecDepth 100000 in
set_option maxHeartbeats 4000000 in
theorem inst_put_5 {w0 : World} {B b : Nat} {l : List UInt8} {x y k : Nat} {s : ByteArray} {xs : List Int} {A : Option Addr} {n c : Nat} {W : World} (hB : w0.heap.size = B) (h : Lies B b W l W) (hw : Below B w0 W) (hn : xs.length = n) (h9 : n ≤ 6) (hS : Ints w0 (.slice A n c) xs)
    (hx : x ≤ 4294967295) (hy : y ≤ 4294967295) (hk : k ≤ 18446744073709551615) (hs : s.size ≤ 16) (hxs : ∀ v ∈ xs, NN v) (hl : l.length ≤ 98000000) :
    Calls Try.prog 55 #[.pointer (some ⟨b, 0, none⟩), .agg #[.int .i64 5, .int .i64 x, .int .i64 y, .int .u64 k, .string s, .slice A n c]] W fun e w' => e = .returned (.tuple #[]) ∧ Lies B b W (l ++ inL ⟨5, x, y, k, s, xs⟩) w' := by
  have HALL := And.intro hB (And.intro hw (And.intro hn (And.intro h9 (And.intro hS (And.intro hx (And.intro hy (And.intro hk (And.intro hs hxs))))))))
  clear HALL
  obtain ⟨ob, hob⟩ : ∃ o, Obj.cells #[.int .i64 5, .int .i64 x, .int .i64 y, .int .u64 k, .string s, .slice A n c] 76 (0, 0) = o := ⟨_, rfl⟩
  have hq : W.heap.size ≠ b := box_lt h
  have hA := h.alloc ob
  have HQ := Lib.hid hq
  have HBX := Lib.hid (show (W.alloc ob).heap[W.heap.size]? = some (.cells #[.int .i64 5, .int .i64 x, .int .i64 y, .int .u64 k, .string s, .slice A n c] 76 (0, 0)) by rw [heap_alloc_new, hob])
  have n1 : (nL 5).length ≤ 10 := numL_ten (by decide)
  have HC := Lib.hid (one_putz 5 hA.start (by omega) (by omega) (by omega))
  rw [World.size_alloc] at HC
  have HA := Lib.hid hA
  have HW0 := Lib.hid (show ∀ U, Below B W U → Below B w0 U from fun U hU => hw.trans hU)
  have hl1 : (l ++ nL 5).length ≤ 98000010 := by rw [List.length_append]; omega
  have wx : IntKind.u64.wrap (x : Int) = (x : Int) := IntWalk.u64_in _ (by omega)
  have wy : IntKind.u64.wrap (y : Int) = (y : Int) := IntWalk.u64_in _ (by omega)
  have HE := Lib.hid (show l ++ inL ⟨5, x, y, k, s, xs⟩ = l ++ nL 5 ++ (numL x ++ numL y) by simp [inL, inT, nL_nat, List.append_assoc])
  rw [HE.out]
  have H2 := Lib.hid (fun (U : World) (hU : Lies B b (W.alloc ob) (l ++ nL 5) U) => two_put (v := x) (u := y) hU.start (by omega) (by omega) (by omega))
  subst hob
  clear h hw hn h9 hS hx hy hk hs hxs hl hB hA hq n1 hl1
  go_enter Try.func55, Try.ntmps55
  go_wp2_with fail
  refine HC.out.mono ?_
  rintro e w1 ⟨rfl, h1⟩
  have hc := h1.kept HBX.out HQ.out (by decide)
  have c0 : w1.cell? ⟨W.heap.size, 0, none⟩ = some (.int .i64 5) := by rw [Lib.cell_of_heap hc]; rfl
  have c1 : w1.cell? ⟨W.heap.size, 1, none⟩ = some (.int .i64 x) := by rw [Lib.cell_of_heap hc]; rfl
  have c2 : w1.cell? ⟨W.heap.size, 2, none⟩ = some (.int .i64 y) := by rw [Lib.cell_of_heap hc]; rfl
  have c3 : w1.cell? ⟨W.heap.size, 3, none⟩ = some (.int .u64 k) := by rw [Lib.cell_of_heap hc]; rfl
  have c4 : w1.cell? ⟨W.heap.size, 4, none⟩ = some (.string s) := by rw [Lib.cell_of_heap hc]; rfl
  have c5 : w1.cell? ⟨W.heap.size, 5, none⟩ = some (.slice A n c) := by rw [Lib.cell_of_heap hc]; rfl
  have H1 := Lib.hid h1
  clear h1 hc
  go_wp2_with fail
  refine (H2.out w1 H1.out).mono ?_
  rintro e w2 ⟨rfl, h2⟩
  have G2 := Lib.hid (H1.out.then_ h2)
  clear h2
  go_wp2_with fail
  go_end0
  exact ⟨rfl, HA.out.then_ G2.out⟩
set_option maxRecDepth 100000 in
set_option maxHeartbeats 4000000 in
theorem inst_put_6 {w0 : World} {B b : Nat} {l : List UInt8} {x y k : Nat} {s : ByteArray} {xs : List Int} {A : Option Addr} {n c : Nat} {W : World} (hB : w0.heap.size = B) (h : Lies B b W l W) (hw : Below B w0 W) (hn : xs.length = n) (h9 : n ≤ 6) (hS : Ints w0 (.slice A n c) xs)
    (hx : x ≤ 4294967295) (hy : y ≤ 4294967295) (hk : k ≤ 18446744073709551615) (hs : s.size ≤ 16) (hxs : ∀ v ∈ xs, NN v) (hl : l.length ≤ 98000000) :
    Calls Try.prog 55 #[.pointer (some ⟨b, 0, none⟩), .agg #[.int .i64 6, .int .i64 x, .int .i64 y, .int .u64 k, .string s, .slice A n c]] W fun e w' => e = .returned (.tuple #[]) ∧ Lies B b W (l ++ inL ⟨6, x, y, k, s, xs⟩) w' := by
  have HALL := And.intro hB (And.intro hw (And.intro hn (And.intro h9 (And.intro hS (And.intro hx (And.intro hy (And.intro hk (And.intro hs hxs))))))))
  clear HALL
  obtain ⟨ob, hob⟩ : ∃ o, Obj.cells #[.int .i64 6, .int .i64 x, .int .i64 y, .int .u64 k, .string s, .slice A n c] 76 (0, 0) = o := ⟨_, rfl⟩
  have hq : W.heap.size ≠ b := box_lt h
  have hA := h.alloc ob
  have HQ := Lib.hid hq
  have HBX := Lib.hid (show (W.alloc ob).heap[W.heap.size]? = some (.cells #[.int .i64 6, .int .i64 x, .int .i64 y, .int .u64 k, .string s, .slice A n c] 76 (0, 0)) by rw [heap_alloc_new, hob])
  have n1 : (nL 6).length ≤ 10 := numL_ten (by decide)
  have HC := Lib.hid (one_putz 6 hA.start (by omega) (by omega) (by omega))
  rw [World.size_alloc] at HC
  have HA := Lib.hid hA
  have HW0 := Lib.hid (show ∀ U, Below B W U → Below B w0 U from fun U hU => hw.trans hU)
  have hl1 : (l ++ nL 6).length ≤ 98000010 := by rw [List.length_append]; omega
  have wx : IntKind.u64.wrap (x : Int) = (x : Int) := IntWalk.u64_in _ (by omega)
  have wy : IntKind.u64.wrap (y : Int) = (y : Int) := IntWalk.u64_in _ (by omega)
  have HE := Lib.hid (show l ++ inL ⟨6, x, y, k, s, xs⟩ = l ++ nL 6 ++ (numL x ++ numL y) by simp [inL, inT, nL_nat, List.append_assoc])
  rw [HE.out]
  have H2 := Lib.hid (fun (U : World) (hU : Lies B b (W.alloc ob) (l ++ nL 6) U) => two_put (v := x) (u := y) hU.start (by omega) (by omega) (by omega))
  subst hob
  clear h hw hn h9 hS hx hy hk hs hxs hl hB hA hq n1 hl1
  go_enter Try.func55, Try.ntmps55
  go_wp2_with fail
  refine HC.out.mono ?_
  rintro e w1 ⟨rfl, h1⟩
  have hc := h1.kept HBX.out HQ.out (by decide)
  have c0 : w1.cell? ⟨W.heap.size, 0, none⟩ = some (.int .i64 6) := by rw [Lib.cell_of_heap hc]; rfl
  have c1 : w1.cell? ⟨W.heap.size, 1, none⟩ = some (.int .i64 x) := by rw [Lib.cell_of_heap hc]; rfl
  have c2 : w1.cell? ⟨W.heap.size, 2, none⟩ = some (.int .i64 y) := by rw [Lib.cell_of_heap hc]; rfl
  have c3 : w1.cell? ⟨W.heap.size, 3, none⟩ = some (.int .u64 k) := by rw [Lib.cell_of_heap hc]; rfl
  have c4 : w1.cell? ⟨W.heap.size, 4, none⟩ = some (.string s) := by rw [Lib.cell_of_heap hc]; rfl
  have c5 : w1.cell? ⟨W.heap.size, 5, none⟩ = some (.slice A n c) := by rw [Lib.cell_of_heap hc]; rfl
  have H1 := Lib.hid h1
  clear h1 hc
  go_wp2_with fail
  refine (H2.out w1 H1.out).mono ?_
  rintro e w2 ⟨rfl, h2⟩
  have G2 := Lib.hid (H1.out.then_ h2)
  clear h2
  go_wp2_with fail
  go_end0
  exact ⟨rfl, HA.out.then_ G2.out⟩
set_option maxRecDepth 100000 in
set_option maxHeartbeats 4000000 in
theorem inst_put_7 {w0 : World} {B b : Nat} {l : List UInt8} {x y k : Nat} {s : ByteArray} {xs : List Int} {A : Option Addr} {n c : Nat} {W : World} (hB : w0.heap.size = B) (h : Lies B b W l W) (hw : Below B w0 W) (hn : xs.length = n) (h9 : n ≤ 6) (hS : Ints w0 (.slice A n c) xs)
    (hx : x ≤ 4294967295) (hy : y ≤ 4294967295) (hk : k ≤ 18446744073709551615) (hs : s.size ≤ 16) (hxs : ∀ v ∈ xs, NN v) (hl : l.length ≤ 98000000) :
    Calls Try.prog 55 #[.pointer (some ⟨b, 0, none⟩), .agg #[.int .i64 7, .int .i64 x, .int .i64 y, .int .u64 k, .string s, .slice A n c]] W fun e w' => e = .returned (.tuple #[]) ∧ Lies B b W (l ++ inL ⟨7, x, y, k, s, xs⟩) w' := by
  have HALL := And.intro hB (And.intro hw (And.intro hn (And.intro h9 (And.intro hS (And.intro hx (And.intro hy (And.intro hk (And.intro hs hxs))))))))
  clear HALL
  obtain ⟨ob, hob⟩ : ∃ o, Obj.cells #[.int .i64 7, .int .i64 x, .int .i64 y, .int .u64 k, .string s, .slice A n c] 76 (0, 0) = o := ⟨_, rfl⟩
  have hq : W.heap.size ≠ b := box_lt h
  have hA := h.alloc ob
  have HQ := Lib.hid hq
  have HBX := Lib.hid (show (W.alloc ob).heap[W.heap.size]? = some (.cells #[.int .i64 7, .int .i64 x, .int .i64 y, .int .u64 k, .string s, .slice A n c] 76 (0, 0)) by rw [heap_alloc_new, hob])
  have n1 : (nL 7).length ≤ 10 := numL_ten (by decide)
  have HC := Lib.hid (one_putz 7 hA.start (by omega) (by omega) (by omega))
  rw [World.size_alloc] at HC
  have HA := Lib.hid hA
  have HW0 := Lib.hid (show ∀ U, Below B W U → Below B w0 U from fun U hU => hw.trans hU)
  have hl1 : (l ++ nL 7).length ≤ 98000010 := by rw [List.length_append]; omega
  have wx : IntKind.u64.wrap (x : Int) = (x : Int) := IntWalk.u64_in _ (by omega)
  have wy : IntKind.u64.wrap (y : Int) = (y : Int) := IntWalk.u64_in _ (by omega)
  have HE := Lib.hid (show l ++ inL ⟨7, x, y, k, s, xs⟩ = l ++ nL 7 ++ (numL x ++ numL y) by simp [inL, inT, nL_nat, List.append_assoc])
  rw [HE.out]
  have H2 := Lib.hid (fun (U : World) (hU : Lies B b (W.alloc ob) (l ++ nL 7) U) => two_put (v := x) (u := y) hU.start (by omega) (by omega) (by omega))
  subst hob
  clear h hw hn h9 hS hx hy hk hs hxs hl hB hA hq n1 hl1
  go_enter Try.func55, Try.ntmps55
  go_wp2_with fail
  refine HC.out.mono ?_
  rintro e w1 ⟨rfl, h1⟩
  have hc := h1.kept HBX.out HQ.out (by decide)
  have c0 : w1.cell? ⟨W.heap.size, 0, none⟩ = some (.int .i64 7) := by rw [Lib.cell_of_heap hc]; rfl
  have c1 : w1.cell? ⟨W.heap.size, 1, none⟩ = some (.int .i64 x) := by rw [Lib.cell_of_heap hc]; rfl
  have c2 : w1.cell? ⟨W.heap.size, 2, none⟩ = some (.int .i64 y) := by rw [Lib.cell_of_heap hc]; rfl
  have c3 : w1.cell? ⟨W.heap.size, 3, none⟩ = some (.int .u64 k) := by rw [Lib.cell_of_heap hc]; rfl
  have c4 : w1.cell? ⟨W.heap.size, 4, none⟩ = some (.string s) := by rw [Lib.cell_of_heap hc]; rfl
  have c5 : w1.cell? ⟨W.heap.size, 5, none⟩ = some (.slice A n c) := by rw [Lib.cell_of_heap hc]; rfl
  have H1 := Lib.hid h1
  clear h1 hc
  go_wp2_with fail
  refine (H2.out w1 H1.out).mono ?_
  rintro e w2 ⟨rfl, h2⟩
  have G2 := Lib.hid (H1.out.then_ h2)
  clear h2
  go_wp2_with fail
  go_end0
  exact ⟨rfl, HA.out.then_ G2.out⟩
end Q
end Go.Proofs.Ytjldddpchiaalaa
