/- Package bit: texts, values, instructions and ends laid by a writer. -/
import Derived.Test.YtjldddpchiaalaaU3
namespace Go.Proofs.Ytjldddpchiaalaa
open Go.RowKit
namespace Q

theorem Lies.kept {B b : Nat} {w W : World} {l : List UInt8} (h : Lies B b w l W) {q : Nat} {cs : Array Value} {T : TypeId} {fz : Nat × Nat} (hq : w.heap[q]? = some (.cells cs T fz)) (hb : q ≠ b) (hT : T ≠ 5) : W.heap[q]? = some (.cells cs T fz) :=
  h.k.kept q _ hq (fun e => hb (Option.some.inj e)) (fun c f e => hT (by injection e))
theorem one_put {B b : Nat} {l : List UInt8} {v : Nat} {W : World} (h : Lies B b W l W) (hv : v < 18446744073709551616) (hl : l.length ≤ 100000000) :
    Calls Try.prog 23 #[.pointer (some ⟨b, 0, none⟩), .slice (some ⟨W.heap.size, 0, none⟩) 1 1] (W.alloc (.cells #[.int .u64 v] 35)) fun e w' => e = .returned (.tuple #[]) ∧ Lies B b W (l ++ numL v) w' := by
  have h := nums_put B b l [v] W W h (by simp) (fun x hx => by rw [List.mem_singleton] at hx; omega) hl
  rw [show numsQ [v] = numL v by simp [numsQ]] at h
  exact h
theorem one_putz {B b : Nat} {l : List UInt8} (z : Int) {W : World} (h : Lies B b W l W) (h0 : 0 ≤ z) (hv : z < 18446744073709551616) (hl : l.length ≤ 100000000) :
    Calls Try.prog 23 #[.pointer (some ⟨b, 0, none⟩), .slice (some ⟨W.heap.size, 0, none⟩) 1 1] (W.alloc (.cells #[.int .u64 z] 35)) fun e w' => e = .returned (.tuple #[]) ∧ Lies B b W (l ++ nL z) w' := by
  obtain ⟨v, rfl⟩ : ∃ v : Nat, z = v := ⟨z.toNat, by omega⟩
  have h := one_put (v := v) h (by omega) hl
  rw [show nL (v : Int) = numL v by simp [nL]]
  exact h
theorem two_put {B b : Nat} {l : List UInt8} {v u : Nat} {W : World} (h : Lies B b W l W) (hv : v < 18446744073709551616) (hu : u < 18446744073709551616) (hl : l.length ≤ 100000000) :
    Calls Try.prog 23 #[.pointer (some ⟨b, 0, none⟩), .slice (some ⟨W.heap.size, 0, none⟩) 2 2] (W.alloc (.cells #[.int .u64 v, .int .u64 u] 35)) fun e w' => e = .returned (.tuple #[]) ∧ Lies B b W (l ++ (numL v ++ numL u)) w' := by
  have h := nums_put B b l [v, u] W W h (by simp) (fun x hx => by simp only [List.mem_cons, List.not_mem_nil, or_false] at hx; omega) hl
  rw [show numsQ [v, u] = numL v ++ numL u by simp [numsQ]] at h
  exact h
theorem three_put {B b : Nat} {l : List UInt8} {v u x : Nat} {W : World} (h : Lies B b W l W) (hv : v < 18446744073709551616) (hu : u < 18446744073709551616) (hx : x < 18446744073709551616) (hl : l.length ≤ 100000000) :
    Calls Try.prog 23 #[.pointer (some ⟨b, 0, none⟩), .slice (some ⟨W.heap.size, 0, none⟩) 3 3] (W.alloc (.cells #[.int .u64 v, .int .u64 u, .int .u64 x] 35)) fun e w' => e = .returned (.tuple #[]) ∧ Lies B b W (l ++ (numL v ++ (numL u ++ numL x))) w' := by
  have h := nums_put B b l [v, u, x] W W h (by simp) (fun x hx => by simp only [List.mem_cons, List.not_mem_nil, or_false] at hx; omega) hl
  rw [show numsQ [v, u, x] = numL v ++ (numL u ++ numL x) by simp [numsQ]] at h
  exact h
theorem three_putz {B b : Nat} {l : List UInt8} {v x : Nat} (z : Int) {W : World} (h : Lies B b W l W) (hv : v < 18446744073709551616) (h0 : 0 ≤ z) (hu : z < 18446744073709551616) (hx : x < 18446744073709551616) (hl : l.length ≤ 100000000) :
    Calls Try.prog 23 #[.pointer (some ⟨b, 0, none⟩), .slice (some ⟨W.heap.size, 0, none⟩) 3 3] (W.alloc (.cells #[.int .u64 v, .int .u64 z, .int .u64 x] 35)) fun e w' => e = .returned (.tuple #[]) ∧ Lies B b W (l ++ (numL v ++ (nL z ++ numL x))) w' := by
  obtain ⟨u, rfl⟩ : ∃ v : Nat, z = v := ⟨z.toNat, by omega⟩
  have h := three_put (v := v) (u := u) (x := x) h hv (by omega) hx hl
  rw [show nL (u : Int) = numL u by simp [nL]]
  exact h
set_option maxRecDepth 100000 in
set_option maxHeartbeats 2000000 in
theorem text_put {B b : Nat} {l : List UInt8} {s : ByteArray} {W : World} (h : Lies B b W l W) (hs : s.size ≤ 16) (hl : l.length ≤ 99999900) :
    Calls Try.prog 35 #[.pointer (some ⟨b, 0, none⟩), .string s] W fun e w' => e = .returned (.tuple #[]) ∧ Lies B b W (l ++ txL s) w' := by
  obtain ⟨n, hn⟩ : ∃ n, s.size = n := ⟨_, rfl⟩
  have HC := Lib.hid (one_put (v := n) h (by omega) (by omega))
  have HT := Lib.hid (show l ++ txL s = l ++ numL n ++ s.data.toList by unfold txL; rw [hn, List.append_assoc])
  have HS := Lib.hid (fun (U : World) (hU : Lies B b W (l ++ numL n) U) => fstr_any B b (l ++ numL n) s U hU.f (by have := numL_ten (v := n) (by omega); rw [List.length_append]; omega) hU.s)
  have hn1 : (n : Int) ≤ 16 := by omega
  have wn : IntKind.u64.wrap (n : Int) = (n : Int) := IntWalk.u64_in _ (by omega)
  rw [HT.out]
  clear h hs hl HT
  go_enter Try.func35, Try.ntmps35
  go_wp2_with fail
  refine HC.out.mono ?_
  rintro e w1 ⟨rfl, h1⟩
  have H1 := Lib.hid h1
  clear h1
  go_wp2_with fail
  refine (HS.out w1 H1.out).mono ?_
  rintro e w2 ⟨rfl, h2, h3, h4⟩
  have H2 := Lib.hid (show Lies B b W (l ++ numL n ++ s.data.toList) w2 from ⟨h2.fl, H1.out.k.trans ⟨h3, h4⟩, Nat.le_trans H1.out.s h3.size⟩)
  clear h2 h3 h4
  go_wp2_with fail
  go_end0
  exact ⟨rfl, H2.out⟩
set_option maxRecDepth 100000 in
set_option maxHeartbeats 2000000 in
theorem value1_put {B b q : Nat} {l : List UInt8} {x : Int} {U : World} (h : Lies B b U l U) (hq : U.cell? ⟨q, 0, none⟩ = some (.pointer (some ⟨b, 0, none⟩))) (hx : NN x) (hl : l.length ≤ 99999900) :
    Calls Try.prog 85 #[.int .i64 x, .pointer (some ⟨q, 0, none⟩)] U fun e w' => e = .returned (.tuple #[]) ∧ Lies B b U (l ++ nL x) w' := by
  obtain ⟨v, rfl⟩ : ∃ v : Nat, x = v := ⟨x.toNat, by have := hx.1; omega⟩
  have hv : (v : Int) ≤ 4294967295 := hx.2
  have HC := Lib.hid (one_put (v := v) h (by omega) (by omega))
  rw [show nL (v : Int) = numL v by simp [nL]]
  have wn : IntKind.u64.wrap (v : Int) = (v : Int) := IntWalk.u64_in _ (by omega)
  clear h hx hl
  go_enter Try.func85, Try.ntmps85
  go_wp2_with fail
  refine HC.out.mono ?_
  rintro e w1 ⟨rfl, h1⟩
  have H1 := Lib.hid h1
  clear h1
  go_wp2_with fail
  go_end0
  exact ⟨rfl, H1.out⟩
theorem cf_value1 : ∀ args U, (callFunc 85 args).run Try.prog U = .ok (.enter 85 args) U := fun _ _ => by kernel_rfl
theorem cf_inst : ∀ args U, (callFunc 55 args).run Try.prog U = .ok (.enter 55 args) U := fun _ _ => by kernel_rfl
theorem cf_block1 : ∀ args U, (callFunc 53 args).run Try.prog U = .ok (.enter 53 args) U := fun _ _ => by kernel_rfl
theorem cf_mod1 : ∀ args U, (callFunc 34 args).run Try.prog U = .ok (.enter 34 args) U := fun _ _ => by kernel_rfl
theorem cf_mod2 : ∀ args U, (callFunc 38 args).run Try.prog U = .ok (.enter 38 args) U := fun _ _ => by kernel_rfl
theorem box_lt {B b : Nat} {w W : World} {l : List UInt8} (h : Lies B b w l W) : W.heap.size ≠ b := by have := h.f.lt; omega
set_option maxRecDepth 100000 in
set_option maxHeartbeats 2000000 in
theorem values_put {w0 : World} {B b : Nat} {l : List UInt8} {xs : List Int} {A : Option Addr} {n c : Nat} {W : World} (hB : w0.heap.size = B) (h : Lies B b W l W) (hw : Below B w0 W) (hn : xs.length = n) (h9 : n ≤ 1000) (hS : Ints w0 (.slice A n c) xs) (hx : ∀ v ∈ xs, NN v)
    (hl : l.length + (rowL nL xs).length ≤ 99000000) :
    Calls Try.prog 75 #[.pointer (some ⟨b, 0, none⟩), .slice A n c] W fun e w' => e = .returned (.tuple #[]) ∧ Lies B b W (l ++ rowL nL xs) w' := by
  obtain ⟨o, ho⟩ : ∃ o, Obj.cells #[.pointer (some ⟨b, 0, none⟩)] 83 (0, 0) = o := ⟨_, rfl⟩
  have hq : W.heap.size ≠ b := box_lt h
  have hA := h.alloc o
  have hbx : (W.alloc o).heap[W.heap.size]? = some (.cells #[.pointer (some ⟨b, 0, none⟩)] 83 (0, 0)) := by rw [heap_alloc_new, ho]
  have HC := Lib.hid (layInts_any nL 85 #[] #[.pointer (some ⟨W.heap.size, 0, none⟩)] w0 B b l xs A n c (W.alloc o) hB hA.start (hw.trans hA.k.below) hn h9 hS 99000000 (by decide) hl cf_value1
    (fun x hxm l' U hU hle => value1_put hU.start (by rw [Lib.cell_of_heap (hU.kept hbx hq (by decide))]; rfl) (hx x hxm) (by omega)))
  have HA := Lib.hid hA
  subst ho
  clear h hw hn h9 hS hx hl hB hA hbx hq
  go_enter Try.func75, Try.ntmps75
  go_wp2_with fail
  refine HC.out.mono ?_
  rintro e w1 ⟨rfl, h1⟩
  have H1 := Lib.hid (HA.out.then_ h1)
  clear h1
  go_wp2_with fail
  go_end0
  exact ⟨rfl, H1.out⟩
end Q
end Go.Proofs.Ytjldddpchiaalaa
