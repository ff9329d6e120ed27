/- Package ir: how many values a block has; may a block go to one, with these? -/
import Derived.Test.YtkalgiaapkjplaaJ1
import Derived.Test.YtkalgiaapkjplaaP11
import Derived.Deep.Cut
import Derived.RegionTactic
namespace Go.Proofs.Ytkalgiaapkjplaa
open Go.RowKit

/-- a block as a value -/
def bkV (b : Bk) (v vl vm : Value) : Value := .agg #[.int .i64 b.p, v, .int .i64 b.e.k, .int .i64 b.e.a, .int .i64 b.e.t, vl, .int .i64 b.e.e, vm]
theorem values_any (p k a t e : Int) (A : Option Addr) (n cap : Nat) (vl vm : Value) (w : World) :
    Calls Try.prog 103 #[.agg #[.int .i64 p, .slice A n cap, .int .i64 k, .int .i64 a, .int .i64 t, vl, .int .i64 e, vm]] w fun r w' => r = .returned (.int .i64 (wrap64 (p + n))) ∧ Below w.heap.size w w' := by
  go_enter Try.func103, Try.ntmps103
  go_wp2_with fail
  go_ret
  exact ⟨rfl, balloc (Below.refl _ w) _⟩
theorem one_int (w : World) (x : Int) : Ints (w.alloc (.cells #[.int .i64 x] 3)) (.slice (some ⟨w.heap.size, 0, none⟩) 1 1) [x] :=
  .inr ⟨by simp, w.heap.size, 0, 1, rfl, by simp, fun i hi => by
    have h : i = 0 := by simpa using hi
    subst h
    rw [Lib.cell_of_heap (heap_alloc_new w _)]
    rfl⟩
theorem among_one (n x : Int) : amongB n [x] = (decide (0 ≤ x) && decide (x < n)) := by simp [amongB]
set_option maxRecDepth 100000 in
set_option maxHeartbeats 2000000 in
theorem goes_no (all : List Bk) (to : Int) (B N : Nat) (C : Option Addr) (c : Nat) (v : Value) (w : World) (hB : w.cell? ⟨B, 0, none⟩ = some (.slice C all.length c))
    (h : amongB all.length [to] = false) :
    Calls Try.prog 104 #[.int .i64 to, v, .pointer (some ⟨B, 0, none⟩), .pointer (some ⟨N, 0, none⟩)] w fun e w' => e = .returned (.bool false) ∧ Below w.heap.size w w' := by
  have HA := Lib.hid (fun (W : World) => among_any all.length [to] (some ⟨w.heap.size, 0, none⟩) 1 1 (w.alloc (.cells #[.int .i64 to] 3)) (one_int w to) (by omega))
  rw [h] at HA
  clear h
  go_enter Try.func104, Try.ntmps104
  go_wp2_with fail
  refine (HA.out w).mono ?_
  rintro r w1 ⟨rfl, hb⟩
  have HB := Lib.hid (bthen (balloc (Below.refl _ w) _) hb)
  clear hb
  go_wp2_with fail
  go_ret
  exact ⟨rfl, HB.out⟩
set_option maxRecDepth 100000 in
set_option maxHeartbeats 2000000 in
theorem goes_in (all : List Bk) (n : Int) (i : Nat) (l : List Int) (B N : Nat) (C A : Option Addr) (c cap : Nat) (w : World) (hB : w.cell? ⟨B, 0, none⟩ = some (.slice C all.length c)) (hN : w.cell? ⟨N, 0, none⟩ = some (.int .i64 n)) (_hc : all.length ≤ 9223372036854775807)
    (hS : Blocks w (.slice C all.length c) all) (hl : Ints w (.slice A l.length cap) l) (hl9 : l.length ≤ 9223372036854775807) (hi : i < all.length) :
    Calls Try.prog 104 #[.int .i64 i, .slice A l.length cap, .pointer (some ⟨B, 0, none⟩), .pointer (some ⟨N, 0, none⟩)] w fun e w' => e = .returned (.bool ((l.length : Int) == all[i].p && amongB n l)) ∧ Below w.heap.size w w' := by
  have hBl := World.block_lt_of_cell? w _ hB
  have hNl := World.block_lt_of_cell? w _ hN
  have HA := Lib.hid (fun (W : World) => among_any all.length [(i : Int)] (some ⟨w.heap.size, 0, none⟩) 1 1 (w.alloc (.cells #[.int .i64 (i : Int)] 3)) (one_int w i) (by omega))
  rw [show amongB all.length [(i : Int)] = true by rw [among_one]; simp; omega] at HA
  have HL := Lib.hid (fun (W : World) (hb : Below w.heap.size w W) => among_any n l A l.length cap W (hl.next hb) hl9)
  obtain ⟨b, off, hC, hbl, c0, -⟩ := hS.at_ hi
  subst hC
  obtain ⟨p, hp⟩ : ∃ p, all[i].p = p := ⟨_, rfl⟩
  rw [hp] at c0 ⊢
  have i0 : (0 : Int) ≤ (i : Int) := by omega
  have i1 : (i : Int) < (all.length : Int) := by omega
  obtain ⟨m, hm⟩ : ∃ m, all.length = m := ⟨_, rfl⟩
  rw [hm] at hB _hc HA i1
  have HC := Lib.hid (fun (W : World) (hb : Below w.heap.size w W) => (⟨(cellNext hBl hb 0).trans hB, (cellNext hNl hb 0).trans hN, (cellNext hbl hb _).trans c0⟩ : W.cell? ⟨B, 0, none⟩ = some (.slice (some ⟨b, off, none⟩) m c) ∧ W.cell? ⟨N, 0, none⟩ = some (.int .i64 n) ∧ W.cell? ⟨b, off + i * 8, none⟩ = some (.int .i64 p)))
  clear hS hl hm hp hi hN c0 hBl hNl hbl
  go_enter Try.func104, Try.ntmps104
  go_wp2_with fail
  refine (HA.out w).mono ?_
  rintro r w1 ⟨rfl, hb⟩
  have HB := Lib.hid (bthen (balloc (Below.refl _ w) _) hb)
  clear hb hB
  obtain ⟨k0, k1, k2⟩ := HC.out _ HB.out
  by_cases he : (l.length : Int) = p
  · have e1 : ((l.length : Int) == p) = true := by simpa using he
    have HE := Lib.hid e1
    clear he
    go_wp2_with fail
    refine (HL.out _ HB.out).mono ?_
    rintro r w2 ⟨rfl, hb⟩
    have HB2 := Lib.hid (bthen HB.out hb)
    clear hb
    go_wp2_with fail
    go_ret
    exact ⟨by rw [HE.out]; rfl, HB2.out⟩
  · have e1 : ((l.length : Int) == p) = false := by simpa using he
    have HE := Lib.hid e1
    clear he
    go_wp2_with fail
    go_ret
    exact ⟨by rw [HE.out]; rfl, HB.out⟩
/-- may a block go to one of these, with so many values, with these? -/
theorem goes_any (all : List Bk) (n to : Int) (l : List Int) (B N : Nat) (C A : Option Addr) (c cap : Nat) (w : World) (hB : w.cell? ⟨B, 0, none⟩ = some (.slice C all.length c)) (hN : w.cell? ⟨N, 0, none⟩ = some (.int .i64 n)) (hc : all.length ≤ 9223372036854775807)
    (hS : Blocks w (.slice C all.length c) all) (hl : Ints w (.slice A l.length cap) l) (hl9 : l.length ≤ 9223372036854775807) :
    Calls Try.prog 104 #[.int .i64 to, .slice A l.length cap, .pointer (some ⟨B, 0, none⟩), .pointer (some ⟨N, 0, none⟩)] w fun e w' => e = .returned (.bool (goesB all n to l)) ∧ Below w.heap.size w w' := by
  cases h : amongB all.length [to] with
  | false =>
    have e : goesB all n to l = false := by
      rw [among_one] at h
      unfold goesB
      rw [h]
      simp
    rw [e]
    exact goes_no all to B N C c _ w hB h
  | true =>
    rw [among_one] at h
    simp only [Bool.and_eq_true, decide_eq_true_eq] at h
    obtain ⟨i, rfl⟩ := Int.eq_ofNat_of_zero_le h.1
    have hi : i < all.length := by omega
    have e : goesB all n (i : Int) l = ((l.length : Int) == all[i].p && amongB n l) := by
      unfold goesB
      rw [decide_eq_true h.1, decide_eq_true h.2, Int.toNat_natCast, List.getElem?_eq_getElem hi]
      simp
    rw [e]
    exact goes_in all n i l B N C A c cap w hB hN hc hS hl hl9 hi
end Go.Proofs.Ytkalgiaapkjplaa
