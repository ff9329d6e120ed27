/- A walk of Bytes of package enc. -/
import Derived.Test.YtmedlebepgobeaaDoorW5
import Derived.Laws.BytesArg
namespace Go.Proofs.YtmedlebepgobeaaDoor
open Go.RowKit

/-- is the i-th of some instructions one that may be, and its word -/
def okO (f : Nat → Nat → Int) (i : Nat) : Bool := okI (f i 0) (f i 1) (f i 2) (f i 3) (f i 4)
def wdO (f : Nat → Nat → Int) (i : Nat) : Int := wordI (f i 0) (f i 1) (f i 2) (f i 3) (f i 4)
def four (x : Int) : List Int := [x % 256, x / 256 % 256, x / 65536 % 256, x / 16777216]
def numsTo (f : Nat → Nat → Int) (n : Nat) : List Int := (List.range n).flatMap fun i => four (wdO f i)
theorem numsTo_succ (f : Nat → Nat → Int) (k : Nat) : numsTo f (k + 1) = numsTo f k ++ four (wdO f k) := by simp [numsTo, List.range_succ]
theorem numsTo_length (f : Nat → Nat → Int) (k : Nat) : (numsTo f k).length = 4 * k := by
  induction k with
  | zero => rfl
  | succ k ih => rw [numsTo_succ, List.length_append, ih]; simp [four]; omega
/-- the cells of n instructions -/
def OpsIn (W : World) (b off n : Nat) (f : Nat → Nat → Int) : Prop :=
  b < W.heap.size ∧ ∀ i, i < n → ∀ j, j < 5 → W.cell? ⟨b, off + i * 5 + j, none⟩ = some (.int .i64 (f i j))
theorem OpsIn.next {W W' : World} {b off n : Nat} {f : Nat → Nat → Int} (h : OpsIn W b off n f) (hb : Below W.heap.size W W') : OpsIn W' b off n f :=
  ⟨Nat.lt_of_lt_of_le h.1 hb.size, fun i hi j hj => (hb.cell (p := ⟨b, off + i * 5 + j, none⟩) h.1).trans (h.2 i hi j hj)⟩
theorem Tryd.info5 : (Tryd.prog.info? 5).map (fun i => (i.zero, i.size, i.bytes)) = some (some (.int .u8 0), 1, 1) := by kernel_rfl
theorem four_new (w : World) (c0 c1 c2 c3 : Value) : ∀ (j : Nat) (u : Value), [c0, c1, c2, c3][j]? = some u → (w.alloc (.cells #[c0, c1, c2, c3] 5)).cell? ((⟨w.heap.size, 0, none⟩ : Addr).add j) = some u := by
  have h := World.news_of_block (cs := #[c0, c1, c2, c3]) (t := 5) (fr := (0, 0)) (heap_alloc_new w (.cells #[c0, c1, c2, c3] 5))
  simpa using h
def BytesRel (f : Nat → Nat → Int) (n : Nat) (w : World) (out i : Value) (wr : World) : Prop :=
  ∃ k m : Nat, m = 4 * k ∧ k ≤ n ∧ i = .int .i64 k ∧ (∀ j, j < k → okO f j = true) ∧ wr.ownsRow w.heap.size 5 1 out m ((numsTo f k).map (Value.int .u8)) ∧ Below w.heap.size w wr
def BytesPost (f : Nat → Nat → Int) (n : Nat) (w : World) (e : Ending) (w' : World) : Prop :=
  (((∀ j, j < n → okO f j = true) ∧ e = .returned (.tuple #[.string (strOfNums (numsTo f n)), .int .i64 0])) ∨
    ((∃ j, j < n ∧ okO f j = false) ∧ e = .returned (.tuple #[.string ⟨#[]⟩, .int .i64 1]))) ∧ Below w.heap.size w w'
/-- what an owned row of bytes is as a string -/
theorem conv_own {W : World} {base : Nat} {v : Value} {n : Nat} {xs : List Int} (h : W.ownsRow base 5 1 v n (xs.map (Value.int .u8))) (hl : xs.length = n) :
    (convert 70 9 v).run Tryd.prog W = .ok (.string (strOfNums xs)) W := by
  have h' := h
  obtain ⟨_, ⟨rfl, rfl⟩ | ⟨g, cap, cur, rfl, _⟩⟩ := h'
  · obtain rfl : xs = [] := List.eq_nil_of_length_eq_zero hl
    exact run_convert_bytes_nil W 70 5 Tryd.underlying70 Tryd.underlying5 0 0 9 Tryd.underlying9
  · refine run_convert_bytes_arg W 70 5 Tryd.underlying70 Tryd.underlying5 g 0 n cap xs hl (fun i hi => ?_) 9 Tryd.underlying9
    rw [Nat.zero_add, h.cellAt i (by omega), List.getElem?_map, List.getElem?_eq_getElem (by omega), List.getD_eq_getElem?_getD, List.getElem?_eq_getElem (by omega)]
    rfl

set_option maxRecDepth 100000 in
set_option maxHeartbeats 4000000 in
theorem bytes_some (b off n cap : Nat) (f : Nat → Nat → Int) (w : World) (n1 : n ≤ 500) (T : Tabs w) (hO : OpsIn w b off n f) : Calls Tryd.prog 19 #[.slice (some ⟨b, off, none⟩) n cap] w (BytesPost f n w) := by
  obtain ⟨i0, hi, hz0, hz1, hz2⟩ := info_parts Tryd.info5
  have HT := Lib.hid T
  have HO := Lib.hid hO
  clear T hO
  go_enter Tryd.func19, Tryd.ntmps19
  go_wp2_with (at_make; refine wpList_make_own _ rfl _ _ 70 rfl w.heap.size 5 i0 (.int .u8 0) 1 Tryd.underlying70 hi hz0 hz1 .i64 .i64 _ (4 * n) rfl rfl (by first | rfl | omega) (by rw [hz2]; omega) (by unfold maxLen; omega) (Nat.le_refl _) ?_; intro w0 hown0 hgrow0)
  go_loopw [4, 15] (fun out i wr => BytesRel f n w out i wr) (fun _ i _ => n - (intOf i).toNat)
  case atStart => exact ⟨0, 0, rfl, Nat.zero_le _, rfl, fun j h => by omega, hown0, (Below.refl _ _).grown hgrow0 (Nat.le_refl _) (fun k hk => by cases hk)⟩
  case round =>
    obtain ⟨k, m, hmk, hk, rfl, hg, hown, hb⟩ := hrel
    have TR := Lib.hid (HT.out.next hb)
    have OR := Lib.hid (HO.out.next hb)
    have HMK := Lib.hid hmk
    have HG := Lib.hid hg
    have HW := Lib.hid hown
    have HB := Lib.hid hb
    have hm : m ≤ 2000 := by omega
    clear hmk hg hown hb hown0 hgrow0
    by_cases hlt : k < n
    · obtain ⟨c0, c1, c2, c3, c4, hf⟩ : ∃ c0 c1 c2 c3 c4 : Int, f k 0 = c0 ∧ f k 1 = c1 ∧ f k 2 = c2 ∧ f k 3 = c3 ∧ f k 4 = c4 := ⟨_, _, _, _, _, rfl, rfl, rfl, rfl, rfl⟩
      have e0 : wr.cell? ⟨b, off + k * 5, none⟩ = some (.int .i64 (f k 0)) := OR.out.2 k hlt 0 (by omega)
      have e1 := OR.out.2 k hlt 1 (by omega)
      have e2 := OR.out.2 k hlt 2 (by omega)
      have e3 := OR.out.2 k hlt 3 (by omega)
      have e4 := OR.out.2 k hlt 4 (by omega)
      rw [hf.1] at e0
      rw [hf.2.1] at e1
      rw [hf.2.2.1] at e2
      rw [hf.2.2.2.1] at e3
      rw [hf.2.2.2.2] at e4
      have eb := OR.out.1
      have HF := Lib.hid hf
      clear hf
      have hk0 : (0 : Int) ≤ (k : Int) := Int.natCast_nonneg _
      have hk1 : (k : Int) < (n : Int) := by omega
      cases hgo : okO f k
      · have hno : okI c0 c1 c2 c3 c4 = false := by rw [← HF.out.1, ← HF.out.2.1, ← HF.out.2.2.1, ← HF.out.2.2.2.1, ← HF.out.2.2.2.2]; exact hgo
        have HN := Lib.hid hno
        have HGO := Lib.hid hgo
        clear hno hgo
        go_wp2_with fail
        refine (word_f HN.out _ (TR.out.alloc _)).mono ?_
        rintro e w2 ⟨rfl, hb2⟩
        have B2 := Lib.hid (bthen (balloc HB.out _) hb2)
        clear hb2
        go_wp2_with fail
        go_ret2
        exact ⟨.inr ⟨⟨k, hlt, HGO.out⟩, rfl⟩, B2.out⟩
      · have hyes : okI c0 c1 c2 c3 c4 = true := by rw [← HF.out.1, ← HF.out.2.1, ← HF.out.2.2.1, ← HF.out.2.2.2.1, ← HF.out.2.2.2.2]; exact hgo
        obtain ⟨x, hx, x0, x1, htk⟩ : ∃ x : Int, wdO f k = x ∧ 0 ≤ x ∧ x < 4294967296 ∧ ∀ W, Tabs W → Calls Tryd.prog 13 #[.agg #[.int .i64 c0, .int .i64 c1, .int .i64 c2, .int .i64 c3, .int .i64 c4]] W fun e w' => e = .returned (.tuple #[.int .u32 x, .int .i64 0]) ∧ Below W.heap.size W w' := by
          obtain ⟨i0, i1⟩ := wordI_in hyes
          exact ⟨wordI c0 c1 c2 c3 c4, by unfold wdO; rw [HF.out.1, HF.out.2.1, HF.out.2.2.1, HF.out.2.2.2.1, HF.out.2.2.2.2], i0, i1, fun W TW => word_t hyes W TW⟩
        have HX := Lib.hid hx
        have HTK := Lib.hid htk
        have HGO := Lib.hid hgo
        clear hx htk hgo hyes
        go_wp2_with fail
        refine (HTK.out _ (TR.out.alloc _)).mono ?_
        rintro e w2 ⟨rfl, hb2⟩
        have B2 := Lib.hid (bthen (balloc HB.out _) hb2)
        have O2 := Lib.hid (own_next (HW.out.alloc _) hb2)
        have z2 : w.heap.size ≤ w2.heap.size := B2.out.size
        clear hb2
        go_wp2_with (at_builtin; refine wpList_append_own _ rfl _ _ 70 rfl w.heap.size 5 i0 (.int .u8 0) 1 1 Tryd.underlying70 hi hz0 hz1 hz2 rfl (by decide) _ _ _ rfl (O2.out.alloc _) ⟨w2.heap.size, 0, none⟩ 4 4 [.int .u8 (x % 256), .int .u8 (x / 256 % 256), .int .u8 (x / 65536 % 256), .int .u8 (x / 16777216)] rfl rfl (four_new _ _ _ _ _) (fun y hy => by simp at hy; rcases hy with rfl | rfl | rfl | rfl <;> rfl) (by unfold maxLen; omega) (by omega) (by simp; omega) ?_; intro v' w3 hown3 hgrow3 hnil3)
        have B3 := Lib.hid (below_grown (O2.out.alloc _) (balloc B2.out _) hgrow3)
        have O3 := Lib.hid hown3
        clear hgrow3 hnil3 hown3
        go_wp2_with fail
        go_roundw
        case rel =>
          refine ⟨k + 1, m + 4, by rw [HMK.out]; omega, by omega, by go_num, fun j hj => ?_, ?_, B3.out⟩
          · by_cases e : j = k
            · subst e; exact HGO.out
            · exact HG.out j (by omega)
          · rw [numsTo_succ, HX.out, List.map_append]; exact O3.out
        case measure => simp [intOf]; omega
    · have hnlt : decide ((k : Int) < (n : Int)) = false := by simp; omega
      have hkn : k = n := by omega
      have hcv := conv_own (W := wr) HW.out (by rw [numsTo_length]; exact HMK.out.symm)
      have HS := Lib.hid (show strOfNums (numsTo f n) = strOfNums (numsTo f k) by rw [hkn])
      clear hkn
      go_wp2_with fail
      go_ret2
      refine ⟨.inl ⟨fun j hj => HG.out j (by omega), ?_⟩, HB.out⟩
      rw [HS.out]
      rfl
end Go.Proofs.YtmedlebepgobeaaDoor
