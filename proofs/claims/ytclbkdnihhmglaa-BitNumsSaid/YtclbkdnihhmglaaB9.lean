/- Package bit: the reference's Num. -/
import Derived.Test.YtclbkdnihhmglaaB7
import Derived.Laws.BytesArg
import Derived.Laws.Concat
import Derived.Deep.RegionWith
namespace Go.Proofs.Ytclbkdnihhmglaa
open Go.RowKit
namespace Q

theorem one_at (c k : Nat) (x : Int) (hx : x = c) {W : World} (h : W.cell? ⟨k, 0, none⟩ = some (.int .u8 x)) : (convert 141 9 (.slice (some ⟨k, 0, none⟩) 1 1)).run Try.prog W = .ok (.string ⟨#[UInt8.ofNat c]⟩) W := by
  have h := run_convert_bytes_arg W 141 5 Try.underlying141 Try.underlying5 k 0 1 1 [(c : Int)] rfl (fun i hi => by
    obtain rfl : i = 0 := by omega
    simp only [Nat.add_zero, h, hx]
    rfl) 9 Try.underlying9
  rw [h]
  simp [strOfNums]
set_option maxRecDepth 100000 in
theorem refNum_low (v : Nat) (hv : v < 128) (w : World) : Calls Try.prog 57 #[.int .u64 v] w fun e w' => e = .returned (.string (numS v)) ∧ Below w.heap.size w w' := by
  have w8 : IntKind.u8.wrap (v : Int) = v := by rw [IntKind.wrap_u8']; omega
  have HS := Lib.hid (show numS v = ⟨#[UInt8.ofNat v]⟩ by unfold numS; rw [numL_lt hv])
  have hcv := one_at v w.heap.size v rfl (W := w.alloc (.cells #[.int .u8 v] 5)) (by simp [go_sem])
  go_enter Try.func57, Try.ntmps57
  go_wp2_with fail
  go_ret
  exact ⟨by rw [HS.out]; rfl, balloc (Below.refl _ _) _⟩
theorem one_in (d : Nat) {w W w' : World} (hb : Below W.heap.size W w') : W = (w.alloc (.cells #[.int .u8 (d + 128)] 5)).drew → (convert 141 9 (.slice (some ⟨w.heap.size, 0, none⟩) 1 1)).run Try.prog w' = .ok (.string ⟨#[UInt8.ofNat (d + 128)]⟩) w' := by
  rintro rfl
  refine one_at (d + 128) w.heap.size (d + 128) (by omega) ?_
  rw [(bcell hb).1 _ _ (by simp [World.drew])]
  show (w.alloc (.cells #[.int .u8 (d + 128)] 5)).cell? ⟨w.heap.size, 0, none⟩ = _
  simp [go_sem]
set_option maxRecDepth 100000 in
theorem refNum_high (v y : Nat) (hv : ¬ v < 128) (hy : v / 128 = y) (h64 : v < 18446744073709551616) (HN : Hid (∀ w : World, Calls Try.prog 57 #[.int .u64 y] w fun e w' => e = .returned (.string (numS y)) ∧ Below w.heap.size w w')) (w : World) :
    Calls Try.prog 57 #[.int .u64 v] w fun e w' => e = .returned (.string (numS v)) ∧ Below w.heap.size w w' := by
  have hq : (v : Int).tdiv 128 = (y : Int) := by rw [Int.tdiv_eq_ediv_of_nonneg (by omega)]; omega
  have hm : (v : Int).tmod 128 = ((v % 128 : Nat) : Int) := by rw [Int.tmod_eq_emod_of_nonneg (by omega)]; omega
  obtain ⟨d, hd⟩ : ∃ d, v % 128 = d := ⟨_, rfl⟩
  rw [hd] at hm
  have wy : IntKind.u64.wrap (y : Int) = y := by rw [IntKind.wrap_u64]; omega
  have w8 : IntKind.u8.wrap (d : Int) = d := by rw [IntKind.wrap_u8']; omega
  have w9 : IntKind.u8.wrap ((d : Int) + 128) = ((d + 128 : Nat) : Int) := by rw [IntKind.wrap_u8']; omega
  have hv2 : ¬ v < 128 := hv
  have HS := Lib.hid (show numS v = ⟨#[UInt8.ofNat (d + 128)]⟩ ++ numS y by
    unfold numS
    rw [numL_ge hv, hd, hy]
    apply ByteArray.ext
    rw [ByteArray.data_append]
    apply Array.ext'
    simp)
  go_enter Try.func57, Try.ntmps57
  go_wp2_with fail
  have hsz : (⟨#[UInt8.ofNat (d + 128)]⟩ : ByteArray).size + (numS y).size ≤ 9223372036854775807 := by
    have h1 := numL_ten (v := y) (by omega)
    rw [numS_size]
    show 1 + _ ≤ _
    omega
  have hs3 : ¬ ((9223372036854775807 : Int) < 1 + ((numS y).size : Int)) := by
    have h2 : (⟨#[UInt8.ofNat (d + 128)]⟩ : ByteArray).size = 1 := rfl
    omega
  obtain ⟨T, hT⟩ : ∃ T, numS y = T := ⟨_, rfl⟩
  rw [hT] at hs3 hsz HN HS
  clear hT
  have HSUM := Lib.hid (fun W => run_string_add_sum (P := Try.prog) W ⟨#[UInt8.ofNat (d + 128)]⟩ T hsz)
  clear hsz h64 hy hd hv
  have hcA := one_at (d + 128) w.heap.size (d + 128) (by omega) (W := (w.alloc (.cells #[.int .u8 (d + 128)] 5)).drew) (show (w.alloc (.cells #[.int .u8 (d + 128)] 5)).cell? ⟨w.heap.size, 0, none⟩ = _ by simp [go_sem])
  go_region_with (go_at_call 57; refine (HN.out _).mono ?_; rintro e w' ⟨rfl, hb⟩; have HB := Lib.hid hb; (try have hcC := one_in d hb rfl); have hs1 := HSUM.out w'; have hs2 := HSUM.out (w'.alloc (.cells #[.int .u8 (d + 128)] 5)); have hcB := one_at (d + 128) w'.heap.size (d + 128) (by omega) (W := w'.alloc (.cells #[.int .u8 (d + 128)] 5)) (by simp [go_sem]); clear hb)
  all_goals
    go_wp2_with fail
    go_ret
    refine ⟨by rw [show numS v = ⟨#[UInt8.ofNat d + 128]⟩ ++ T by rw [HS.out]; simp]; rfl, ?_⟩
    first | exact bthen ((balloc (Below.refl _ _) _).drew) HB.out | exact balloc (bthen (Below.refl _ _).drew HB.out) _
/-- the reference's Num, of every number -/
theorem refNum_any : ∀ (v : Nat), v < 18446744073709551616 → ∀ (w : World), Calls Try.prog 57 #[.int .u64 v] w fun e w' => e = .returned (.string (numS v)) ∧ Below w.heap.size w w' := by
  intro v
  induction v using Nat.strongRecOn with
  | ind v ih =>
    intro h w
    by_cases hv : v < 128
    · exact refNum_low v hv w
    · exact refNum_high v (v / 128) hv rfl h (Lib.hid (ih (v / 128) (by omega) (by omega))) w
end Q
end Go.Proofs.Ytclbkdnihhmglaa
