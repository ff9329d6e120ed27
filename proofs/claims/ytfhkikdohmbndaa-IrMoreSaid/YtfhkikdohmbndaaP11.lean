/- A block that is known whole; lowest: the lowest bytes of a number. -/
import Derived.Test.YtfhkikdohmbndaaP8
import Derived.OwnWalk
import Derived.Laws.OwnMore
import Derived.Lib.UnsafeStr
namespace Go.Proofs.Ytfhkikdohmbndaa
open Go.RowKit

/-- block g is just these cells of type t, none of them frozen -/
def Whole (W : World) (g : Nat) (t : TypeId) (cs : Array Value) : Prop := W.heap[g]? = some (.cells cs t (0, 0))
theorem Whole.lt {W : World} {g : Nat} {t : TypeId} {cs : Array Value} (h : Whole W g t cs) : g < W.heap.size := (Array.getElem?_eq_some_iff.1 h).1
theorem Whole.cell {W : World} {g : Nat} {t : TypeId} {cs : Array Value} (h : Whole W g t cs) (i : Nat) : W.cell? ⟨g, i, none⟩ = cs[i]? := cell_of_row W g i cs t (0, 0) h
theorem Whole.free {W : World} {g : Nat} {t : TypeId} {cs : Array Value} (h : Whole W g t cs) (i : Nat) : W.frozen? ⟨g, i, none⟩ = false := by
  simp [World.frozen?, show W.heap[g]? = _ from h]
theorem Whole.put {W : World} {g : Nat} {t : TypeId} {cs : Array Value} (h : Whole W g t cs) (i : Nat) (u : Value) : Whole (W.setCell ⟨g, i, none⟩ u) g t (cs.setIfInBounds i u) := by
  unfold Whole at h ⊢
  simp [World.setCell, Array.getElem?_modify, h]
theorem Whole.of_full {W : World} {base g n : Nat} {t : TypeId} {size : Nat} {xs : List Value} (h : W.ownsRow base t size (.slice (some ⟨g, 0, none⟩) n n) n xs) : Whole W g t xs.toArray := by
  rcases h.2 with ⟨e, _⟩ | ⟨g', cap, cur, e, _, hb, _, _, hs, hx⟩
  · cases e
  · cases e
    rw [List.take_of_length_le (by simp [hs])] at hx
    unfold Whole
    rw [hb, ← hx]

theorem byteCells_snoc (l : List UInt8) (b : UInt8) : Lib.byteCells (l ++ [b]) = Lib.byteCells l ++ [.int .u8 b.toNat] := by simp [Lib.byteCells]

theorem made_nought (n : Nat) : (madeCells (Value.int .u8 0).cells (n * 1)).toList = List.replicate n (Value.int .u8 0) := by
  apply List.ext_getElem
  · simp [madeCells]
  · intro i h1 h2
    simp [madeCells, Value.cells, Nat.mod_one]

set_option maxHeartbeats 2000000 in
theorem lowest_any (v : Nat) (n : Nat) (w : World) (hv : v < 18446744073709551616) (hn : n ≤ 8) :
    Calls Try.prog 68 #[.int .u64 v, .int .i64 n] w fun e w' => e = .returned (.string ⟨(M.lowest v n).toArray⟩) ∧ Below w.heap.size w w' := by
  obtain ⟨i0, hi, hz0, hz1, hz2⟩ := info_parts (show (Try.prog.info? 5).map (fun i => (i.zero, i.size, i.bytes)) = some (some (.int .u8 0), 1, 1) by kernel_rfl)
  go_enter Try.func68, Try.ntmps68
  go_wp2_with (at_make; refine wpList_make_full _ rfl _ _ 135 rfl w.heap.size 5 i0 (.int .u8 0) 1 Try.underlying135 hi hz0 hz1 .i64 .i64 _ _ n rfl rfl rfl rfl (by rw [hz2]; omega) (by unfold maxLen; omega) (Nat.le_refl _) ?_; intro w0 hown0 hgrow0)
  have B0 := Lib.hid ((Below.refl _ _).grown hgrow0 (Nat.le_refl _) (fun k hk => by cases hk))
  have W0 := Whole.of_full hown0
  rw [made_nought] at W0
  have W0 := Lib.hid W0
  have HZ := Lib.hid (show w.heap.size < w0.heap.size from W0.out.lt)
  clear hown0 hgrow0
  obtain ⟨z, hz⟩ : ∃ z, w.heap.size = z := ⟨_, rfl⟩
  rw [hz] at W0 ⊢
  go_loopw [11] (fun i wr => ∃ k : Nat, k ≤ n ∧ i = .int .i64 k ∧ Whole wr z 5 (Lib.byteCells (M.lowest v k) ++ List.replicate (n - k) (Value.int .u8 0)).toArray ∧ Below w.heap.size w wr) (fun i _ => n - (intOf i).toNat)
  case atStart => exact ⟨0, by omega, rfl, by simpa [M.lowest, Lib.byteCells] using W0.out, B0.out⟩
  case round =>
    obtain ⟨k, hk, rfl, hW, hb⟩ := hrel
    have HW := Lib.hid hW
    have HB := Lib.hid hb
    clear hW hb
    by_cases hlt : k < n
    · have c0 : wr.cell? ⟨z, k, none⟩ = some (.int .u8 0) := by
        rw [HW.out.cell, List.getElem?_toArray, List.getElem?_append_right (by rw [Lib.byteCells_length, M.lowest_length]; omega), Lib.byteCells_length, M.lowest_length]
        rw [List.getElem?_replicate, if_pos (by omega)]
      have f0 := HW.out.free k
      have hk0 : (0 : Int) ≤ (k : Int) := Int.natCast_nonneg _
      have hk1 : (k : Int) < (n : Int) := by omega
      have HV := Lib.hid (show (v : Int) / 2 ^ (8 * k) % 256 = ((UInt8.ofNat (v / 256 ^ k % 256)).toNat : Int) by
        rw [show ((UInt8.ofNat (v / 256 ^ k % 256)).toNat) = v / 256 ^ k % 256 by simp, ← pow256]
        rw [Int.natCast_emod, Int.natCast_ediv, Int.natCast_pow]; rfl)
      go_wp2_with fail
      go_roundw
      case rel =>
        refine ⟨k + 1, by omega, by go_num, ?_, HB.out.setCell (p := ⟨z, k, none⟩) (by simp; omega) _⟩
        rw [HV.out]
        have h := HW.out.put k (.int .u8 ((UInt8.ofNat (v / 256 ^ k % 256)).toNat : Int))
        have e : ((Lib.byteCells (M.lowest v k) ++ List.replicate (n - k) (Value.int .u8 0)).toArray).setIfInBounds k (.int .u8 ((UInt8.ofNat (v / 256 ^ k % 256)).toNat : Int)) =
            (Lib.byteCells (M.lowest v (k + 1)) ++ List.replicate (n - (k + 1)) (Value.int .u8 0)).toArray := by
          rw [List.setIfInBounds_toArray, M.lowest_snoc, byteCells_snoc, List.set_append_right k _ (by rw [Lib.byteCells_length, M.lowest_length]; omega), Lib.byteCells_length, M.lowest_length]
          rw [show n - k = (n - (k + 1)) + 1 by omega, List.replicate_succ, Nat.sub_self, List.set_cons_zero]
          simp
        rw [e] at h
        exact h
      case measure => simp [intOf]; omega
    · obtain rfl : k = n := by omega
      have hd : decide ((k : Int) < (k : Int)) = false := by simp
      have W1 := HW.out
      rw [Nat.sub_self, List.replicate_zero, List.append_nil] at W1
      have hcv : (convert 135 9 (.slice (some ⟨z, 0, none⟩) k k)).run Try.prog wr = .ok (.string ⟨(M.lowest v k).toArray⟩) wr := by
        have h := run_convert_bytes_arg wr 135 5 Try.underlying135 Try.underlying5 z 0 k k ((M.lowest v k).map (fun b => (b.toNat : Int))) (by simp [M.lowest_length]) (fun i hi => by
          rw [Nat.zero_add, W1.cell, List.getElem?_toArray]
          simp [Lib.byteCells, List.getD_eq_getElem?_getD, M.lowest_length, hi]) 9 Try.underlying9
        rw [h]
        simp [strOfNums, Function.comp_def]
      have HCV := Lib.hid hcv
      clear W1 hcv
      have hcv := HCV.out
      go_wp2_with fail
      go_ret
      exact ⟨rfl, HB.out⟩
end Go.Proofs.Ytfhkikdohmbndaa
