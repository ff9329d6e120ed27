/- A walk of the law EncWords: it returns true for every instruction and every word. -/
import Derived.Test.YtmedlebepgobeaaDoorR6
import Derived.Deep.RegionHeld3
namespace Go.Proofs.YtmedlebepgobeaaDoor
open Go.RowKit

theorem rtake_t (v : Int) (K : Nat) (k1 : 1 ≤ K) (k2 : K < 32) (hok : M.okAt v K = true) (w : World) (v0 : 0 ≤ v) (v1 : v < 4294967296) :
    Calls Tryd.prog 16 #[.int .u32 v] w fun e w' => e = .returned (.tuple #[.agg #[.int .i64 K, .int .i64 (M.tRd K v), .int .i64 (M.tA K v), .int .i64 (M.tB K v), .int .i64 (M.tI K v)], .int .i64 0]) ∧ Below w.heap.size w w' := by
  refine (rtake_any v w v0 v1).mono ?_
  rintro e w' ⟨⟨k, h1, h2, h3, rfl⟩ | ⟨h1, rfl⟩, hb⟩
  · obtain rfl := M.ok_one_kind h2 k2 h1 k1 h3 hok
    exact ⟨rfl, hb⟩
  · rw [h1 K k1 k2] at hok; cases hok
theorem rtake_f (v : Int) (hno : ∀ K : Nat, 1 ≤ K → K < 32 → M.okAt v K = false) (w : World) (v0 : 0 ≤ v) (v1 : v < 4294967296) :
    Calls Tryd.prog 16 #[.int .u32 v] w fun e w' => e = .returned (.tuple #[.agg #[.int .i64 0, .int .i64 0, .int .i64 0, .int .i64 0, .int .i64 0], .int .i64 5]) ∧ Below w.heap.size w w' := by
  refine (rtake_any v w v0 v1).mono ?_
  rintro e w' ⟨⟨k, h1, h2, h3, rfl⟩ | ⟨h1, rfl⟩, hb⟩
  · rw [hno k h1 h2] at h3; cases h3
  · exact ⟨rfl, hb⟩
/-- both Words, whatever the instruction is -/
theorem words_both (k rd a b n : Int) : ∃ x y : Int, (∀ W, Tabs W → Calls Tryd.prog 13 #[.agg #[.int .i64 k, .int .i64 rd, .int .i64 a, .int .i64 b, .int .i64 n]] W fun e w' => e = .returned (.tuple #[.int .u32 x, .int .i64 y]) ∧ Below W.heap.size W w') ∧
    ∀ W, Calls Tryd.prog 14 #[.agg #[.int .i64 k, .int .i64 rd, .int .i64 a, .int .i64 b, .int .i64 n]] W fun e w' => e = .returned (.tuple #[.int .u32 x, .int .i64 y]) ∧ Below W.heap.size W w' := by
  cases h : okI k rd a b n
  · exact ⟨0, 1, fun W TW => word_f h W TW, fun W => rword_f h W⟩
  · exact ⟨_, 0, fun W TW => word_t h W TW, fun W => rword_t h W⟩
/-- both Takes, whatever the word is -/
theorem takes_both (v : Int) (v0 : 0 ≤ v) (v1 : v < 4294967296) : ∃ p0 p1 p2 p3 p4 z : Int, (∀ W, Tabs W → Calls Tryd.prog 15 #[.int .u32 v] W fun e w' => e = .returned (.tuple #[.agg #[.int .i64 p0, .int .i64 p1, .int .i64 p2, .int .i64 p3, .int .i64 p4], .int .i64 z]) ∧ Below W.heap.size W w') ∧
    ∀ W, Calls Tryd.prog 16 #[.int .u32 v] W fun e w' => e = .returned (.tuple #[.agg #[.int .i64 p0, .int .i64 p1, .int .i64 p2, .int .i64 p3, .int .i64 p4], .int .i64 z]) ∧ Below W.heap.size W w' := by
  by_cases h : ∃ K : Nat, 1 ≤ K ∧ K < 32 ∧ M.okAt v K = true
  · obtain ⟨K, k1, k2, hok⟩ := h
    exact ⟨_, _, _, _, _, _, fun W TW => take_t v K k1 k2 hok W v0 v1 TW, fun W => rtake_t v K k1 k2 hok W v0 v1⟩
  · have hno : ∀ K : Nat, 1 ≤ K → K < 32 → M.okAt v K = false := fun K h1 h2 => by
      cases e : M.okAt v K
      · rfl
      · exact absurd ⟨K, h1, h2, e⟩ h
    exact ⟨_, _, _, _, _, _, fun W TW => take_f v hno W v0 v1 TW, fun W => rtake_f v hno W v0 v1⟩
/-- both Mays, whatever the instruction is -/
theorem mays_both (k rd a b n : Int) : ∃ m : Bool, (∀ W, Tabs W → Calls Tryd.prog 17 #[.agg #[.int .i64 k, .int .i64 rd, .int .i64 a, .int .i64 b, .int .i64 n]] W fun e w' => e = .returned (.bool m) ∧ Below W.heap.size W w') ∧
    ∀ W, Calls Tryd.prog 18 #[.agg #[.int .i64 k, .int .i64 rd, .int .i64 a, .int .i64 b, .int .i64 n]] W fun e w' => e = .returned (.bool m) ∧ Below W.heap.size W w' := by
  by_cases h1 : 1 ≤ k
  · by_cases h2 : k < 32
    · obtain ⟨K, rfl⟩ := Int.eq_ofNat_of_zero_le (show 0 ≤ k by omega)
      exact ⟨_, fun W TW => may_in K (by omega) (by omega) rd a b n W TW, fun W => rmay_in K (by omega) (by omega) rd a b n W⟩
    · exact ⟨false, fun W _ => may_out k (.inr (by omega)) rd a b n W, fun W => rmay_out k (.inr (by omega)) rd a b n W⟩
  · exact ⟨false, fun W _ => may_out k (.inl (by omega)) rd a b n W, fun W => rmay_out k (.inl (by omega)) rd a b n W⟩
theorem keepS {U W : World} {B0 B1 B2 : Nat} {k rd a b n p0 p1 p2 p3 p4 : Int} (h0 : Five U B0 k rd a b n) (h1 : Five U B1 p0 p1 p2 p3 p4) (h2 : Five U B2 p0 p1 p2 p3 p4) (hB : Below U.heap.size U W) :
    Below U.heap.size U W ∧ (W.cell? ⟨B0, 0, none⟩ = some (.int .i64 k) ∧ W.cell? ⟨B0, 1, none⟩ = some (.int .i64 rd) ∧ W.cell? ⟨B0, 2, none⟩ = some (.int .i64 a) ∧ W.cell? ⟨B0, 3, none⟩ = some (.int .i64 b) ∧ W.cell? ⟨B0, 4, none⟩ = some (.int .i64 n)) ∧
      (W.cell? ⟨B1, 0, none⟩ = some (.int .i64 p0) ∧ W.cell? ⟨B1, 1, none⟩ = some (.int .i64 p1) ∧ W.cell? ⟨B1, 2, none⟩ = some (.int .i64 p2) ∧ W.cell? ⟨B1, 3, none⟩ = some (.int .i64 p3) ∧ W.cell? ⟨B1, 4, none⟩ = some (.int .i64 p4)) ∧
      (W.cell? ⟨B2, 0, none⟩ = some (.int .i64 p0) ∧ W.cell? ⟨B2, 1, none⟩ = some (.int .i64 p1) ∧ W.cell? ⟨B2, 2, none⟩ = some (.int .i64 p2) ∧ W.cell? ⟨B2, 3, none⟩ = some (.int .i64 p3) ∧ W.cell? ⟨B2, 4, none⟩ = some (.int .i64 p4)) := by
  obtain ⟨a0, a1, a2, a3, a4, _, _⟩ := h0.next hB
  obtain ⟨b0, b1, b2, b3, b4, _, _⟩ := h1.next hB
  obtain ⟨c0, c1, c2, c3, c4, _, _⟩ := h2.next hB
  exact ⟨hB, ⟨a0, a1, a2, a3, a4⟩, ⟨b0, b1, b2, b3, b4⟩, c0, c1, c2, c3, c4⟩

set_option maxRecDepth 100000 in
set_option maxHeartbeats 4000000 in
theorem words_walk (k rd a b n v : Int) (w : World) (T : Tabs w) (v0 : 0 ≤ v) (v1 : v < 4294967296) :
    Calls Tryd.prog 3 #[.agg #[.int .i64 k, .int .i64 rd, .int .i64 a, .int .i64 b, .int .i64 n], .int .u32 v] w fun e w' => e = .returned (.bool true) ∧ Below w.heap.size w w' := by
  obtain ⟨x, y, HW, HW'⟩ := words_both k rd a b n
  obtain ⟨p0, p1, p2, p3, p4, z, HT, HT'⟩ := takes_both v v0 v1
  obtain ⟨m, HM, HM'⟩ := mays_both k rd a b n
  have H1 := Lib.hid HW
  have H2 := Lib.hid HW'
  have H3 := Lib.hid HT
  have H4 := Lib.hid HT'
  have H5 := Lib.hid HM
  have H6 := Lib.hid HM'
  have H0 := Lib.hid T
  clear HW HW' HT HT' HM HM' T
  go_enter Tryd.func3, Tryd.ntmps3
  go_wp2_with fail
  refine (shown_any _ (H0.out.alloc _)).mono ?_
  rintro e w1 ⟨rfl, hb1⟩
  have T1 := Lib.hid ((H0.out.alloc _).next hb1)
  have F1 := Lib.hid ((Five.new w k rd a b n).next hb1)
  have B1 := Lib.hid (bthen (balloc (Below.refl _ _) _) hb1)
  clear hb1
  obtain ⟨e0, e1, e2, e3, e4, ef, eb⟩ := F1.out
  clear ef
  go_wp2_with fail
  refine (H1.out _ T1.out).mono ?_
  rintro e w2 ⟨rfl, hb2⟩
  have T2 := Lib.hid (T1.out.next hb2)
  have F2 := Lib.hid (F1.out.next hb2)
  have B2 := Lib.hid (bthen B1.out hb2)
  clear hb2 e0 e1 e2 e3 e4 eb T1 F1 B1
  obtain ⟨e0, e1, e2, e3, e4, ef, eb⟩ := F2.out
  clear ef
  go_wp2_with fail
  refine (H2.out _).mono ?_
  rintro e w3 ⟨rfl, hb3⟩
  have T3 := Lib.hid (T2.out.next hb3)
  have F3 := Lib.hid (F2.out.next hb3)
  have B3 := Lib.hid (bthen B2.out hb3)
  clear hb3 e0 e1 e2 e3 e4 eb T2 F2 B2
  go_wp2_with fail
  refine (H3.out _ T3.out).mono ?_
  rintro e w4 ⟨rfl, hb4⟩
  have T4 := Lib.hid (T3.out.next hb4)
  have F4 := Lib.hid (F3.out.next hb4)
  have B4 := Lib.hid (bthen B3.out hb4)
  clear hb4 T3 F3 B3
  go_wp2_with fail
  refine (H4.out _).mono ?_
  rintro e w5 ⟨rfl, hb5⟩
  have T5 := Lib.hid (((T4.out.alloc _).next hb5).alloc (.cells #[.int .i64 p0, .int .i64 p1, .int .i64 p2, .int .i64 p3, .int .i64 p4] 23))
  have G5 := Lib.hid (((Five.new w4 p0 p1 p2 p3 p4).next hb5).next ((Below.refl _ _).alloc (Nat.le_refl _) (.cells #[.int .i64 p0, .int .i64 p1, .int .i64 p2, .int .i64 p3, .int .i64 p4] 23)))
  have F5 := Lib.hid (((F4.out.next ((Below.refl _ _).alloc (Nat.le_refl _) _)).next hb5).next ((Below.refl _ _).alloc (Nat.le_refl _) (.cells #[.int .i64 p0, .int .i64 p1, .int .i64 p2, .int .i64 p3, .int .i64 p4] 23)))
  have E5 := Lib.hid (Five.new w5 p0 p1 p2 p3 p4)
  have B5 := Lib.hid (balloc (bthen (balloc B4.out _) hb5) (.cells #[.int .i64 p0, .int .i64 p1, .int .i64 p2, .int .i64 p3, .int .i64 p4] 23))
  clear hb5 T4 F4 B4
  go_wp2_with fail
  generalize w5.alloc (.cells #[.int .i64 p0, .int .i64 p1, .int .i64 p2, .int .i64 p3, .int .i64 p4] 23) = U at *
  generalize w5.heap.size = Z5 at *
  generalize w4.heap.size = Z4 at *
  have HM1 := Lib.hid (fun (W : World) (hB : Below U.heap.size U W) => H5.out W (T5.out.next hB))
  have HM2 := Lib.hid (fun (W : World) (_ : Below U.heap.size U W) => H6.out W)
  have KS := Lib.hid (fun (W : World) (hB : Below U.heap.size U W) => keepS F5.out G5.out E5.out hB)
  obtain ⟨e0, e1, e2, e3, e4, ef, eb⟩ := F5.out
  obtain ⟨i0, i1, i2, i3, i4, jf, jb⟩ := G5.out
  obtain ⟨n0, n1, n2, n3, n4, mf, mb⟩ := E5.out
  clear ef eb jf jb mf mb
  go_region_held3 (fun W => Below U.heap.size U W ∧ (W.cell? ⟨w.heap.size, 0, none⟩ = some (.int .i64 k) ∧ W.cell? ⟨w.heap.size, 1, none⟩ = some (.int .i64 rd) ∧ W.cell? ⟨w.heap.size, 2, none⟩ = some (.int .i64 a) ∧ W.cell? ⟨w.heap.size, 3, none⟩ = some (.int .i64 b) ∧ W.cell? ⟨w.heap.size, 4, none⟩ = some (.int .i64 n)) ∧
      (W.cell? ⟨Z4, 0, none⟩ = some (.int .i64 p0) ∧ W.cell? ⟨Z4, 1, none⟩ = some (.int .i64 p1) ∧ W.cell? ⟨Z4, 2, none⟩ = some (.int .i64 p2) ∧ W.cell? ⟨Z4, 3, none⟩ = some (.int .i64 p3) ∧ W.cell? ⟨Z4, 4, none⟩ = some (.int .i64 p4)) ∧
      (W.cell? ⟨Z5, 0, none⟩ = some (.int .i64 p0) ∧ W.cell? ⟨Z5, 1, none⟩ = some (.int .i64 p1) ∧ W.cell? ⟨Z5, 2, none⟩ = some (.int .i64 p2) ∧ W.cell? ⟨Z5, 3, none⟩ = some (.int .i64 p3) ∧ W.cell? ⟨Z5, 4, none⟩ = some (.int .i64 p4)))
    (first | exact KS.out _ ((Below.refl _ _).drew) | (go_split_ands; exact KS.out _ (bthen (by assumption) hbc)))
    (first | (go_at_call 17; refine (HM1.out _ (by go_split_ands; assumption)).mono ?_; rintro e wc ⟨rfl, hbc⟩) | (go_at_call 18; refine (HM2.out _ (by go_split_ands; assumption)).mono ?_; rintro e wc ⟨rfl, hbc⟩))
  rename_i hHeld
  have BB := Lib.hid (bthen B5.out hHeld.1)
  clear hHeld hbc e0 e1 e2 e3 e4 i0 i1 i2 i3 i4 n0 n1 n2 n3 n4
  go_wp2_with fail
  go_ret
  exact ⟨rfl, BB.out⟩
end Go.Proofs.YtmedlebepgobeaaDoor
