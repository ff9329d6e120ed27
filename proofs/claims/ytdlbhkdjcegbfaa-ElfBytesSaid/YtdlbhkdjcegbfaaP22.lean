/- slices.Grow at nil, slices.Concat of three slices of pages. -/
import Derived.Test.YtdlbhkdjcegbfaaP12
import Derived.Lib.AppendZerosOnto
import Derived.Lib.Walk
import Derived.Lib.SliceRun
namespace Go.Proofs.Ytdlbhkdjcegbfaa
open Go.RowKit
open Go.Lib hiding intOf

set_option maxHeartbeats 4000000 in
set_option maxRecDepth 100000 in
theorem grow_nil (n : Nat) (w : World) (n0 : 1 ≤ n) (hn : n * 32 ≤ 140737488355328) :
    Calls Try.prog 149 #[.slice none 0 0, .int .i64 n] w (NewPages [] w) := by
  obtain ⟨i0, hi, hz0, hz1, hz2⟩ := info_parts pg_info
  have u22 := run_underlying Try.underlying28
  have h1 : ¬ ((n : Int) < 0) := by omega
  have h3 : wrap64 (n : Int) = (n : Int) := by unfold wrap64; omega
  have h4 : (n : Int) > 0 := by omega
  have hrz : ∀ ty, (Builtin.append_ #[28, 3] ty #[.slice none 0 0, .int .i64 (n : Int)]).run Try.prog w =
      .ok (.slice (some ⟨w.heap.size, 0, none⟩) n (grownCap w n 0 39)) (w.drew.alloc (.cells (#[] ++ Builtin.zeroCells (Value.agg #[.int .u64 0, .int .i64 0, .string ⟨#[]⟩]).cells n ++ Builtin.zeroCells (Value.agg #[.int .u64 0, .int .i64 0, .string ⟨#[]⟩]).cells (grownCap w n 0 39 - n)) 39)) := fun ty => by
    have h := Lib.run_append_grow_zeros w 28 3 ty 39 i0 (.agg #[.int .u64 0, .int .i64 0, .string ⟨#[]⟩]) .i64 .i64 Try.underlying28 Try.underlying3 hi hz0 none 0 0 [] (run_firstCells_none w.drew i0.size 0 0 0) n (by omega) (by rw [hz1]; omega) (by omega) (by omega)
      (by rw [hz2]; omega) (growslice_fits (by omega) (by rw [hz2]; omega))
    simp only [Nat.zero_add] at h
    exact h
  have hGn : n ≤ grownCap w n 0 39 := grownCap_ge w _ _ _
  have hGm : grownCap w n 0 39 ≤ maxLen := grownCap_le_maxLen w _ _ _ (by unfold maxLen; omega)
  obtain ⟨G, hG⟩ : ∃ G, G = grownCap w n 0 39 := ⟨_, rfl⟩
  rw [← hG] at hrz hGn hGm
  clear hG
  have hG63 : G ≤ 9223372036854775807 := by unfold maxLen at hGm; omega
  have HGM := Lib.hid hGm
  have HGN := Lib.hid hGn
  obtain ⟨cs, hcs⟩ : ∃ cs, (#[] ++ Builtin.zeroCells (Value.agg #[.int .u64 0, .int .i64 0, .string ⟨#[]⟩]).cells n ++ Builtin.zeroCells (Value.agg #[.int .u64 0, .int .i64 0, .string ⟨#[]⟩]).cells (G - n)) = cs := ⟨_, rfl⟩
  rw [hcs] at hrz
  have HCS := Lib.hid (show cs.size = G * 3 by
    rw [← hcs, Array.size_append, Array.size_append, size_zeroCells, size_zeroCells]
    show 0 + n * 3 + (G - n) * 3 = G * 3
    omega)
  clear hcs hGm
  go_enter Try.func149, Try.ntmps149
  go_wp2_with (at_builtin; refine Lib.wpList_append_run _ rfl _ _ _ _ rfl _ _ rfl rfl _ _ (hrz _) ?_)
  all_goals go_ret
  all_goals exact ⟨_, rfl, ⟨rfl, .inr ⟨w.heap.size, G, cs, rfl, Nat.le_refl _, heap_alloc_new w.drew _, Nat.zero_le _, HGM.out, HCS.out, rfl⟩⟩, (Below.refl _ w).drew.alloc (Nat.le_refl _) _⟩

def cat (K : Nat → List M.Pg) (i : Nat) : List M.Pg := (List.range i).flatMap K
theorem cat_succ (K : Nat → List M.Pg) (i : Nat) : cat K (i + 1) = cat K i ++ K i := by simp [cat, List.range_succ]
theorem cat_three (K : Nat → List M.Pg) : cat K 3 = K 0 ++ (K 1 ++ K 2) := by simp [cat, List.range_succ]
theorem cat_le (K : Nat → List M.Pg) {i : Nat} (h : i ≤ 3) : (cat K i).length ≤ (cat K 3).length := by
  match i, h with
  | 0, _ => simp [cat]
  | 1, _ => simp [cat, List.range_succ]
  | 2, _ => simp [cat, List.range_succ]
  | 3, _ => exact Nat.le_refl _

set_option maxHeartbeats 4000000 in
set_option maxRecDepth 100000 in
theorem concat_three (B : Nat) (A : Nat → Option Addr) (C : Nat → Nat) (K : Nat → List M.Pg) (w : World) (hB : B < w.heap.size)
    (hc : ∀ i < 3, w.cell? ⟨B, i, none⟩ = some (.slice (A i) (K i).length (C i))) (hP : ∀ i < 3, Pages w (.slice (A i) (K i).length (C i)) (K i))
    (h1 : 1 ≤ (K 1).length) (hn : (cat K 3).length * 32 ≤ 140737488355328) :
    Calls Try.prog 110 #[.slice (some ⟨B, 0, none⟩) 3 3] w (NewPages (cat K 3) w) := by
  have HC := Lib.hid hc
  have HP := Lib.hid hP
  have HT : 1 ≤ (cat K 3).length := by rw [cat_three]; simp; omega
  obtain ⟨n, hcn⟩ : ∃ n, (cat K 3).length = n := ⟨_, rfl⟩
  rw [hcn] at hn HT
  have HG := Lib.hid (fun W => grow_nil n W HT hn)
  have HN := Lib.hid hn
  have HCN := Lib.hid hcn
  have HB := Lib.hid hB
  clear hc hP hn h1 hcn HT hB
  go_enter Try.func110, Try.ntmps110
  go_wp2_with fail
  go_loop [3, 11] (fun v i => ∃ k : Nat, k ≤ 3 ∧ i = .int .i64 k ∧ v = .int .i64 (cat K k).length) (fun _ i => 3 - (intOf i).toNat)
  case atStart => exact ⟨0, by omega, rfl, rfl⟩
  case round =>
    obtain ⟨k, hk, rfl, rfl⟩ := hrel
    have HL := Lib.hid (cat_le K hk)
    by_cases hlt : k < 3
    · have c0 := HC.out k hlt
      have e1 := Lib.hid (show (cat K (k + 1)).length = (cat K k).length + (K k).length by rw [cat_succ, List.length_append])
      have e2 := Lib.hid (cat_le K (show k + 1 ≤ 3 by omega))
      obtain ⟨p, hp⟩ : ∃ p, (cat K k).length = p := ⟨_, rfl⟩
      obtain ⟨q, hq⟩ : ∃ q, (K k).length = q := ⟨_, rfl⟩
      rw [hq] at c0
      rw [hp] at ⊢
      have b1 : IntKind.i64.wrap ((p : Int) + (q : Int)) = (p : Int) + (q : Int) := by
        have := e1.out; have := e2.out; have := HCN.out; have := HN.out
        rw [IntKind.wrap_i64]; omega
      have b2 : ¬ ((p : Int) + (q : Int) < 0) := by omega
      have b3 : decide ((p : Int) + (q : Int) < 0) = false := by simp; omega
      have E := Lib.hid (show (p : Int) + (q : Int) = ((cat K (k + 1)).length : Int) by rw [e1.out, hp, hq]; simp)
      clear hp hq
      go_wp2_with fail
      go_round
      case rel => exact ⟨k + 1, by omega, by go_num, by rw [E.out]⟩
      case measure => simp [intOf]; omega
    · obtain rfl : k = 3 := by omega
      rw [HCN.out]
      go_wp2_with (go_at_call 149; refine (HG.out _).mono ?_; rintro e w1 ⟨v1, rfl, hown, hb⟩)
      have BW := Lib.hid hb
      have OW := Lib.hid hown
      clear hb hown
      go_loopw [6, 27] (fun v i wr => ∃ k : Nat, k ≤ 3 ∧ i = .int .i64 k ∧ OwnsP wr w.heap.size v (cat K k) ∧ Below w.heap.size w wr) (fun _ i _ => 3 - (intOf i).toNat)
      case atStart => exact ⟨0, by omega, rfl, OW.out, BW.out⟩
      case round =>
        obtain ⟨k, hk, rfl, hown, hb⟩ := hrel
        have OK := Lib.hid hown
        have BK := Lib.hid hb
        by_cases hlt : k < 3
        · have c0 := (BK.out.cell (p := ⟨B, k, none⟩) HB.out).trans (HC.out k hlt)
          have PK := Lib.hid ((HP.out k hlt).next (BK.out.mono (Nat.le_refl _)))
          have e1 := Lib.hid (show (cat K (k + 1)).length = (cat K k).length + (K k).length by rw [cat_succ, List.length_append])
          have HL := Lib.hid (cat_le K (show k + 1 ≤ 3 by omega))
          clear hown hb
          go_wp2_with (at_builtin; refine wpList_append_pages rfl _ _ rfl w.heap.size _ (cat K k) (K k) rfl OK.out _ rfl PK.out (by have := e1.out; have := HL.out; have := HCN.out; have := HN.out; omega) BK.out.size ?_; intro v' w5 hown' hgrow)
          have OV := Lib.hid hown'
          have BV := Lib.hid (BK.out.grown hgrow BK.out.size (fun j e => by
            rcases OK.out.2 with ⟨e0, _⟩ | ⟨g, cap, cur, e0, hg, _⟩
            · rw [e0] at e; cases e
            · rw [e0] at e; have e2 : g = j := by simpa [Value.ownBlock] using (show (Value.slice (some ⟨g, 0, none⟩) (cat K k).length cap).ownBlock = some j from e)
              omega))
          clear hown' hgrow
          go_wp2_with fail
          go_roundw
          case rel => exact ⟨k + 1, by omega, by go_num, by rw [cat_succ]; exact OV.out, BV.out⟩
          case measure => simp [intOf]; omega
        · obtain rfl : k = 3 := by omega
          clear hown hb
          go_wp2_with fail
          go_ret
          exact ⟨_, rfl, OK.out, BK.out⟩
end Go.Proofs.Ytdlbhkdjcegbfaa
