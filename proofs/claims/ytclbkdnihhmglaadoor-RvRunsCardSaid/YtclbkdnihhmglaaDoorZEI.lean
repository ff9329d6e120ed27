/- A walk of Bytes of the document's answer for layer 1. -/
import Derived.Test.YtclbkdnihhmglaaDoorZEC
import Derived.Test.YtclbkdnihhmglaaDoorZEH
namespace Go.Proofs.YtclbkdnihhmglaaDoor.E
open Go.RowKit

set_option maxRecDepth 100000 in
set_option maxHeartbeats 4000000 in
theorem rbytes_some (b off n cap : Nat) (f : Nat → Nat → Int) (w : World) (n1 : n ≤ 500) (hO : OpsIn w b off n f) : Calls Tryd.prog 9 #[.slice (some ⟨b, off, none⟩) n cap] w (BytesPost f n w) := by
  obtain ⟨i0, hi, hz0, hz1, hz2⟩ := info_parts Tryd.info5
  have HO := Lib.hid hO
  clear hO
  go_enter Tryd.func9, Tryd.ntmps9
  go_wp2_with fail
  go_loopw [4, 5] (fun out i wr => BytesRel f n w out i wr) (fun _ i _ => n - (intOf i).toNat)
  case atStart => exact ⟨0, 0, rfl, Nat.zero_le _, rfl, fun j h => by omega, World.ownsRow_nil _ _ _ _, Below.refl _ _⟩
  case round =>
    obtain ⟨k, m, hmk, hk, rfl, hg, hown, hb⟩ := hrel
    have OR := Lib.hid (HO.out.next hb)
    have HMK := Lib.hid hmk
    have HG := Lib.hid hg
    have HW := Lib.hid hown
    have HB := Lib.hid hb
    have hm : m ≤ 2000 := by omega
    clear hmk hg hown hb
    by_cases hlt : k < n
    · obtain ⟨c0, c1, c2, c3, c4, hf⟩ : ∃ c0 c1 c2 c3 c4 : Int, f k 0 = c0 ∧ f k 1 = c1 ∧ f k 2 = c2 ∧ f k 3 = c3 ∧ f k 4 = c4 := ⟨_, _, _, _, _, rfl, rfl, rfl, rfl, rfl⟩
      have e0 : wr.cell? ⟨b, off + k * 5, none⟩ = some (.int .i64 (f k 0)) := OR.out.2 k hlt 0 (by omega)
      have e1 := OR.out.2 k hlt 1 (by omega)
      have e2 := OR.out.2 k hlt 2 (by omega)
      have e3 := OR.out.2 k hlt 3 (by omega)
      have e4 := OR.out.2 k hlt 4 (by omega)
      rw [hf.1] at e0
      rw [hf.2.1] at e1
      rw [hf.2.2.1] at e2
      rw [hf.2.2.2.1] at e3
      rw [hf.2.2.2.2] at e4
      have eb := OR.out.1
      have HF := Lib.hid hf
      clear hf
      have hk0 : (0 : Int) ≤ (k : Int) := Int.natCast_nonneg _
      have hk1 : (k : Int) < (n : Int) := by omega
      cases hgo : okO f k
      · have hno : okI c0 c1 c2 c3 c4 = false := by rw [← HF.out.1, ← HF.out.2.1, ← HF.out.2.2.1, ← HF.out.2.2.2.1, ← HF.out.2.2.2.2]; exact hgo
        have HN := Lib.hid hno
        have HGO := Lib.hid hgo
        clear hno hgo
        go_wp2_with fail
        refine (rword_f HN.out _).mono ?_
        rintro e w2 ⟨rfl, hb2⟩
        have B2 := Lib.hid (bthen HB.out hb2)
        clear hb2
        go_wp2_with fail
        go_ret2
        exact ⟨.inr ⟨⟨k, hlt, HGO.out⟩, rfl⟩, B2.out⟩
      · have hyes : okI c0 c1 c2 c3 c4 = true := by rw [← HF.out.1, ← HF.out.2.1, ← HF.out.2.2.1, ← HF.out.2.2.2.1, ← HF.out.2.2.2.2]; exact hgo
        obtain ⟨x, hx, x0, x1, htk⟩ : ∃ x : Int, wdO f k = x ∧ 0 ≤ x ∧ x < 4294967296 ∧ ∀ W, Calls Tryd.prog 18 #[.agg #[.int .i64 c0, .int .i64 c1, .int .i64 c2, .int .i64 c3, .int .i64 c4]] W fun e w' => e = .returned (.tuple #[.int .u32 x, .int .i64 0]) ∧ Below W.heap.size W w' := by
          obtain ⟨i0, i1⟩ := wordI_in hyes
          exact ⟨wordI c0 c1 c2 c3 c4, by unfold wdO; rw [HF.out.1, HF.out.2.1, HF.out.2.2.1, HF.out.2.2.2.1, HF.out.2.2.2.2], i0, i1, fun W => rword_t hyes W⟩
        have HX := Lib.hid hx
        have HTK := Lib.hid htk
        have HGO := Lib.hid hgo
        clear hx htk hgo hyes
        go_wp2_with fail
        refine (HTK.out _).mono ?_
        rintro e w2 ⟨rfl, hb2⟩
        have B2 := Lib.hid (bthen HB.out hb2)
        have O2 := Lib.hid (own_next HW.out hb2)
        have z2 : w.heap.size ≤ w2.heap.size := B2.out.size
        clear hb2
        go_wp2_with (at_builtin; refine wpList_append_own _ rfl _ _ 45 rfl w.heap.size 5 i0 (.int .u8 0) 1 1 Tryd.underlying45 hi hz0 hz1 hz2 rfl (by decide) _ _ _ rfl (O2.out.alloc _) ⟨w2.heap.size, 0, none⟩ 4 4 [.int .u8 (x % 256), .int .u8 (x / 256 % 256), .int .u8 (x / 65536 % 256), .int .u8 (x / 16777216)] rfl rfl (four_new _ _ _ _ _) (fun y hy => by simp at hy; rcases hy with rfl | rfl | rfl | rfl <;> rfl) (by unfold maxLen; omega) (by omega) (by simp; omega) ?_; intro v' w3 hown3 hgrow3 hnil3)
        have B3 := Lib.hid (below_grown (O2.out.alloc _) (balloc B2.out _) hgrow3)
        have O3 := Lib.hid hown3
        clear hgrow3 hnil3 hown3
        go_wp2_with fail
        go_roundw
        case rel =>
          refine ⟨k + 1, m + 4, by rw [HMK.out]; omega, by omega, by go_num, fun j hj => ?_, ?_, B3.out⟩
          · by_cases e : j = k
            · subst e; exact HGO.out
            · exact HG.out j (by omega)
          · rw [numsTo_succ, HX.out, List.map_append]; exact O3.out
        case measure => simp [intOf]; omega
    · have hnlt : decide ((k : Int) < (n : Int)) = false := by simp; omega
      have hkn : k = n := by omega
      have hcv := conv_own (W := wr) HW.out (by rw [numsTo_length]; exact HMK.out.symm)
      have HS := Lib.hid (show strOfNums (numsTo f n) = strOfNums (numsTo f k) by rw [hkn])
      clear hkn
      go_wp2_with fail
      go_ret2
      refine ⟨.inl ⟨fun j hj => HG.out j (by omega), ?_⟩, HB.out⟩
      rw [HS.out]
      rfl
set_option maxRecDepth 100000 in
set_option maxHeartbeats 4000000 in
theorem rbytes_none (A : Option Addr) (cap : Nat) (f : Nat → Nat → Int) (w : World) : Calls Tryd.prog 9 #[.slice A 0 cap] w (BytesPost f 0 w) := by
  go_enter Tryd.func9, Tryd.ntmps9
  go_wp2_with fail
  go_loopw [4, 5] (fun out i wr => BytesRel f 0 w out i wr) (fun _ i _ => 0 - (intOf i).toNat)
  case atStart => exact ⟨0, 0, rfl, Nat.zero_le _, rfl, fun j h => by omega, World.ownsRow_nil _ _ _ _, Below.refl _ _⟩
  case round =>
    obtain ⟨k, m, hmk, hk, rfl, hg, hown, hb⟩ := hrel
    obtain rfl : k = 0 := by omega
    have HMK := Lib.hid hmk
    have HW := Lib.hid hown
    have HB := Lib.hid hb
    clear hmk hg hown hb
    have hcv := conv_own (W := wr) HW.out (by rw [numsTo_length]; exact HMK.out.symm)
    go_wp2_with fail
    go_ret2
    exact ⟨.inl ⟨fun j hj => by omega, rfl⟩, HB.out⟩
theorem rbytes_any {v : Value} {n : Nat} {f : Nat → Nat → Int} {w : World} (hO : Ops w v n f) (n1 : n ≤ 500) : Calls Tryd.prog 9 #[v] w (BytesPost f n w) := by
  rcases hO with ⟨rfl, rfl | ⟨a, cap, rfl⟩⟩ | ⟨_, b, off, cap, rfl, h⟩
  · exact rbytes_none _ _ f w
  · exact rbytes_none _ _ f w
  · exact rbytes_some b off n cap f w n1 h

end Go.Proofs.YtclbkdnihhmglaaDoor.E
