/- A walk of Back of the document's answer for layer 1. -/
import Derived.Test.YtmedlebepgobeaaDoorR7
import Derived.Deep.RegionHeld3
namespace Go.Proofs.YtmedlebepgobeaaDoor
open Go.RowKit

theorem five_new1 (w : World) (c0 c1 c2 c3 c4 : Value) : ∀ (j : Nat) (u : Value), [c0, c1, c2, c3, c4][j]? = some u → (w.alloc (.cells #[c0, c1, c2, c3, c4] 23)).cell? ((⟨w.heap.size, 0, none⟩ : Addr).add j) = some u := by
  have h := World.news_of_block (cs := #[c0, c1, c2, c3, c4]) (t := 23) (fr := (0, 0)) (heap_alloc_new w (.cells #[c0, c1, c2, c3, c4] 23))
  simpa using h
theorem Five.set0 {W : World} {B : Nat} {c0 c1 c2 c3 c4 : Int} (h : Five W B c0 c1 c2 c3 c4) (x : Int) : Five (W.setCell ⟨B, 0, none⟩ (.int .i64 x)) B x c1 c2 c3 c4 := by
  obtain ⟨h0, h1, h2, h3, h4, hf, hl⟩ := h
  exact ⟨by go_simp, by go_simp, by go_simp, by go_simp, by go_simp, fun j => by have := hf j; go_simp, by simpa using hl⟩
theorem Five.zero {W W' : World} (h : Below (W.alloc (.cells #[.int .i64 0, .int .i64 0, .int .i64 0, .int .i64 0, .int .i64 0] 23)).drew.heap.size (W.alloc (.cells #[.int .i64 0, .int .i64 0, .int .i64 0, .int .i64 0, .int .i64 0] 23)).drew W') :
    Five W' W.heap.size 0 0 0 0 0 := ((Five.new W 0 0 0 0 0).next ((Below.refl _ _).drew)).next h
theorem Five.set {W W' : World} (h : Below (W.alloc (.cells #[.int .i64 0, .int .i64 0, .int .i64 0, .int .i64 0, .int .i64 0] 23)).drew.heap.size (W.alloc (.cells #[.int .i64 0, .int .i64 0, .int .i64 0, .int .i64 0, .int .i64 0] 23)).drew W') (c0 c1 c2 c3 c4 : Int) :
    Five (((((W'.setCell ⟨W.heap.size, 0, none⟩ (.int .i64 c0)).setCell ⟨W.heap.size, 1, none⟩ (.int .i64 c1)).setCell ⟨W.heap.size, 2, none⟩ (.int .i64 c2)).setCell ⟨W.heap.size, 3, none⟩ (.int .i64 c3)).setCell ⟨W.heap.size, 4, none⟩ (.int .i64 c4)) W.heap.size c0 c1 c2 c3 c4 ∧
    Below W.heap.size W (((((W'.setCell ⟨W.heap.size, 0, none⟩ (.int .i64 c0)).setCell ⟨W.heap.size, 1, none⟩ (.int .i64 c1)).setCell ⟨W.heap.size, 2, none⟩ (.int .i64 c2)).setCell ⟨W.heap.size, 3, none⟩ (.int .i64 c3)).setCell ⟨W.heap.size, 4, none⟩ (.int .i64 c4)) := by
  have hb : Below W.heap.size W W' := bthen ((balloc (Below.refl _ _) _).drew) h
  have hf : Five W' W.heap.size 0 0 0 0 0 := ((Five.new W 0 0 0 0 0).next ((Below.refl _ _).drew)).next h
  exact ⟨((((hf.set0 c0).set1 c1).set2 c2).set3 c3).set4 c4, ((((hb.setCell (Nat.le_refl _) _).setCell (Nat.le_refl _) _).setCell (Nat.le_refl _) _).setCell (Nat.le_refl _) _).setCell (Nat.le_refl _) _⟩
theorem Five.made {W W' : World} (h : Below W.drew.heap.size W.drew W') (c0 c1 c2 c3 c4 : Int) :
    Five (W'.alloc (.cells #[.int .i64 c0, .int .i64 c1, .int .i64 c2, .int .i64 c3, .int .i64 c4] 23)) W'.heap.size c0 c1 c2 c3 c4 ∧ Below W.heap.size W (W'.alloc (.cells #[.int .i64 c0, .int .i64 c1, .int .i64 c2, .int .i64 c3, .int .i64 c4] 23)) :=
  ⟨Five.new W' c0 c1 c2 c3 c4, balloc (bthen ((Below.refl _ _).drew) h) _⟩
theorem sum_wat {a b c d : Int} (a0 : 0 ≤ a) (a1 : a < 256) (b0 : 0 ≤ b) (b1 : b < 256) (c0 : 0 ≤ c) (c1 : c < 256) (d0 : 0 ≤ d) (d1 : d < 256) :
    (((a % 4294967296 + 256 * (b % 4294967296) % 4294967296) % 4294967296 + 65536 * (c % 4294967296) % 4294967296) % 4294967296 + 16777216 * (d % 4294967296) % 4294967296) % 4294967296 = a + b * 256 + c * 65536 + d * 16777216 := by omega
theorem rback_cut (s : ByteArray) (w : World) (hs : s.size ≤ 2000) (h4 : s.size % 4 ≠ 0) : Calls Tryd.prog 22 #[.string s] w fun e w' => e = .returned (.tuple #[.slice none 0 0, .int .i64 2]) ∧ Below w.heap.size w w' := by
  have t1 : (((s.size : Int) % 4) != 0) = true := by simp; omega
  go_enter Tryd.func22, Tryd.ntmps22
  go_wp2_with fail
  go_ret2
  exact ⟨rfl, Below.refl _ _⟩
set_option maxRecDepth 100000 in
set_option maxHeartbeats 16000000 in
theorem rback_any (s : ByteArray) (w : World) (hs : s.size ≤ 2000) (h4 : s.size % 4 = 0) : Calls Tryd.prog 22 #[.string s] w (BackPost s.data.toList w) := by
  obtain ⟨i0, hi, hz0, hz1, hz2⟩ := info_parts Tryd.info23
  have t1 : (((s.size : Int) % 4) != 0) = false := by simp; omega
  have hlen : s.data.toList.length = s.size := by simp
  have HL := Lib.hid hlen
  have H4 := Lib.hid h4
  clear hlen h4
  go_enter Tryd.func22, Tryd.ntmps22
  go_wp2_with fail
  go_loopw [4, 5] (fun out i wr => BackRel s.data.toList w out i wr) (fun _ i _ => s.size - (intOf i).toNat)
  case atStart => exact ⟨0, 0, rfl, Nat.zero_le _, rfl, fun j h => by omega, World.ownsRow_nil _ _ _ _, Below.refl _ _⟩
  case round =>
    obtain ⟨m, k, hmk, hm, rfl, hg, hown, hb⟩ := hrel
    rw [HL.out] at hm
    have HMK := Lib.hid hmk
    have HG := Lib.hid hg
    have HO := Lib.hid hown
    have HB := Lib.hid hb
    clear hmk hg hown hb
    by_cases hlt : m < s.size
    · have h3 : m + 3 < s.size := by have := HMK.out; have := H4.out; omega
      have hk1 : 4 * k + 3 < s.size := by have := HMK.out; omega
      obtain ⟨v0, v1⟩ := wat_in s.data.toList m
      have a0 : (0 : Int) ≤ (m : Int) := Int.natCast_nonneg _
      have a1 : (m : Int) < s.size := by omega
      have a2 : (m : Int) + 1 < s.size := by omega
      have a3 : (m : Int) + 2 < s.size := by omega
      have a4 : (m : Int) + 3 < s.size := by omega
      have e1 : m < s.size := by omega
      have e2 : m + 1 < s.size := by omega
      have e3 : m + 2 < s.size := by omega
      have b1 : IntKind.i64.wrap ((m : Int) + 1) = (m : Int) + 1 := IntWalk.i64_in _ (by omega)
      have b2 : IntKind.i64.wrap ((m : Int) + 2) = (m : Int) + 2 := IntWalk.i64_in _ (by omega)
      have b3 : IntKind.i64.wrap ((m : Int) + 3) = (m : Int) + 3 := IntWalk.i64_in _ (by omega)
      have c1 : (0 : Int) ≤ (m : Int) + 1 := by omega
      have c2 : (0 : Int) ≤ (m : Int) + 2 := by omega
      have c3 : (0 : Int) ≤ (m : Int) + 3 := by omega
      have d1 : ((m : Int) + 1).toNat = m + 1 := by omega
      have d2 : ((m : Int) + 2).toNat = m + 2 := by omega
      have d3 : ((m : Int) + 3).toNat = m + 3 := by omega
      have HE := Lib.hid (sum_wat (byteAt_in s.data.toList m).1 (byteAt_in s.data.toList m).2 (byteAt_in s.data.toList (m + 1)).1 (byteAt_in s.data.toList (m + 1)).2 (byteAt_in s.data.toList (m + 2)).1 (byteAt_in s.data.toList (m + 2)).2 (byteAt_in s.data.toList (m + 3)).1 (byteAt_in s.data.toList (m + 3)).2)
      obtain ⟨q0, q1, q2, q3, q4, z, hq, HTK⟩ : ∃ q0 q1 q2 q3 q4 z : Int, ((z = 0 ∧ good (wat s.data.toList m) = true ∧ opCells (wat s.data.toList m) = [.int .i64 q0, .int .i64 q1, .int .i64 q2, .int .i64 q3, .int .i64 q4]) ∨ (z = 5 ∧ good (wat s.data.toList m) = false)) ∧
          ∀ (W : World) (x : Int), x = wat s.data.toList m → Calls Tryd.prog 16 #[.int .u32 x] W fun e w' => e = .returned (.tuple #[.agg #[.int .i64 q0, .int .i64 q1, .int .i64 q2, .int .i64 q3, .int .i64 q4], .int .i64 z]) ∧ Below W.heap.size W w' := by
        cases hgo : good (wat s.data.toList m)
        · exact ⟨_, _, _, _, _, 5, .inr ⟨rfl, rfl⟩, fun W x hx => by rw [hx]; exact rtake_f _ (good_no hgo) W v0 v1⟩
        · obtain ⟨g1, g2, g3⟩ := good_ok hgo
          exact ⟨_, _, _, _, _, 0, .inl ⟨rfl, rfl, rfl⟩, fun W x hx => by rw [hx]; exact rtake_t _ _ g1 g2 g3 W v0 v1⟩
      have HK := Lib.hid HTK
      have HQ := Lib.hid hq
      clear HTK hq
      go_wp2_with fail
      refine wp_region_noPanic ?_
      refine wp_region_held_drew (S := fun W => Below wr.heap.size wr W) (by kernel_rfl) ((Below.refl _ _).drew) (fun hHeld => ?_)
      refine wpAnyH_take (i := 0) (v := ?_) rfl (by kernel_rfl) (by kernel_rfl) (by kernel_rfl) (fun _ _ _ h => h) (Or.inl ⟨by rfl, ?_⟩) (by assumption) ?_
      rotate_left
      · intro w hSw; (try dsimp only at hSw); go_simp; try (with_reducible rfl)
      (try simp only [Act.put])
      refine wpAnyH_take (i := 1) (v := ?_) rfl (by kernel_rfl) (by kernel_rfl) (by kernel_rfl) (fun _ _ _ h => h) (Or.inl ⟨by rfl, ?_⟩) (by assumption) ?_
      rotate_left
      · intro w hSw; (try dsimp only at hSw); go_simp; try (with_reducible rfl)
      (try simp only [Act.put])
      refine wpAnyH_take (i := 2) (v := ?_) rfl (by kernel_rfl) (by kernel_rfl) (by kernel_rfl) (fun _ _ _ h => h) (Or.inl ⟨by rfl, ?_⟩) (by assumption) ?_
      rotate_left
      · intro w hSw; (try dsimp only at hSw); go_simp; try (with_reducible rfl)
      (try simp only [Act.put])
      refine wpAnyH_take (i := 3) (v := ?_) rfl (by kernel_rfl) (by kernel_rfl) (by kernel_rfl) (fun _ _ _ h => h) (Or.inl ⟨by rfl, ?_⟩) (by assumption) ?_
      rotate_left
      · intro w hSw; (try dsimp only at hSw); go_simp; try (with_reducible rfl)
      (try simp only [Act.put])
      refine wpAnyH_take (i := 4) (v := ?_) rfl (by kernel_rfl) (by kernel_rfl) (by kernel_rfl) (fun _ _ _ h => h) (Or.inl ⟨by rfl, ?_⟩) (by assumption) ?_
      rotate_left
      · intro w hSw; (try dsimp only at hSw); go_simp; try (with_reducible rfl)
      (try simp only [Act.put])
      refine wpAnyH_take (i := 5) (v := ?_) rfl (by kernel_rfl) (by kernel_rfl) (by kernel_rfl) (fun _ _ _ h => h) (Or.inl ⟨by rfl, ?_⟩) (by assumption) ?_
      rotate_left
      · intro w hSw; (try dsimp only at hSw); go_simp; try (with_reducible rfl)
      (try simp only [Act.put])
      refine wpAnyH_take (i := 6) (v := ?_) rfl (by kernel_rfl) (by kernel_rfl) (by kernel_rfl) (fun _ _ _ h => h) (Or.inl ⟨by rfl, ?_⟩) (by assumption) ?_
      rotate_left
      · intro w hSw; (try dsimp only at hSw); go_simp; try (with_reducible rfl)
      (try simp only [Act.put])
      refine wpAnyH_take (i := 7) (v := ?_) rfl (by kernel_rfl) (by kernel_rfl) (by kernel_rfl) (fun _ _ _ h => h) (Or.inl ⟨by rfl, ?_⟩) (by assumption) ?_
      rotate_left
      · intro w hSw; (try dsimp only at hSw); go_simp; try (with_reducible rfl)
      (try simp only [Act.put])
      refine wpAnyH_take (i := 8) (v := ?_) rfl (by kernel_rfl) (by kernel_rfl) (by kernel_rfl) (fun _ _ _ h => h) (Or.inl ⟨by rfl, ?_⟩) (by assumption) ?_
      rotate_left
      · intro w hSw; (try dsimp only at hSw); go_simp; try (with_reducible rfl)
      (try simp only [Act.put])
      refine wpAnyH_take (i := 9) (v := ?_) rfl (by kernel_rfl) (by kernel_rfl) (by kernel_rfl) (fun _ _ _ h => h) (Or.inl ⟨by rfl, ?_⟩) (by assumption) ?_
      rotate_left
      · intro w hSw; (try dsimp only at hSw); go_simp; try (with_reducible rfl)
      (try simp only [Act.put])
      refine wpAnyH_take (i := 10) (v := ?_) rfl (by kernel_rfl) (by kernel_rfl) (by kernel_rfl) (fun _ _ _ h => h) (Or.inl ⟨by rfl, ?_⟩) (by assumption) ?_
      rotate_left
      · intro w hSw; (try dsimp only at hSw); go_simp; try (with_reducible rfl)
      (try simp only [Act.put])
      refine wpAnyH_take (i := 11) (v := ?_) rfl (by kernel_rfl) (by kernel_rfl) (by kernel_rfl) (fun _ _ _ h => h) (Or.inl ⟨by rfl, ?_⟩) (by assumption) ?_
      rotate_left
      · intro w hSw; (try dsimp only at hSw); go_simp; try (with_reducible rfl)
      (try simp only [Act.put])
      refine wpAnyH_take (i := 12) (v := ?_) rfl (by kernel_rfl) (by kernel_rfl) (by kernel_rfl) (fun _ _ _ h => h) (Or.inl ⟨by rfl, ?_⟩) (by assumption) ?_
      rotate_left
      · intro w hSw; (try dsimp only at hSw); go_simp; try (with_reducible rfl)
      (try simp only [Act.put])
      refine wpAnyH_take (i := 13) (v := ?_) rfl (by kernel_rfl) (by kernel_rfl) (by kernel_rfl) (fun _ _ _ h => h) (Or.inl ⟨by rfl, ?_⟩) (by assumption) ?_
      rotate_left
      · intro w hSw; (try dsimp only at hSw); go_simp; try (with_reducible rfl)
      (try simp only [Act.put])
      refine wpAnyH_take (i := 14) (v := ?_) rfl (by kernel_rfl) (by kernel_rfl) (by kernel_rfl) (fun _ _ _ h => h) (Or.inl ⟨by rfl, ?_⟩) (by assumption) ?_
      rotate_left
      · intro w hSw; (try dsimp only at hSw); go_simp; try (with_reducible rfl)
      (try simp only [Act.put])
      refine wpAnyH_take (i := 15) (v := ?_) rfl (by kernel_rfl) (by kernel_rfl) (by kernel_rfl) (fun _ _ _ h => h) (Or.inl ⟨by rfl, ?_⟩) (by assumption) ?_
      rotate_left
      · intro w hSw; (try dsimp only at hSw); go_simp; try (with_reducible rfl)
      (try simp only [Act.put])
      refine wpAnyH_take (i := 16) (v := ?_) rfl (by kernel_rfl) (by kernel_rfl) (by kernel_rfl) (fun _ _ _ h => h) (Or.inl ⟨by rfl, ?_⟩) (by assumption) ?_
      rotate_left
      · intro w hSw; (try dsimp only at hSw); go_simp; try (with_reducible rfl)
      (try simp only [Act.put])
      refine wpAnyH_take (i := 17) (v := ?_) rfl (by kernel_rfl) (by kernel_rfl) (by kernel_rfl) (fun _ _ _ h => h) (Or.inl ⟨by rfl, ?_⟩) (by assumption) ?_
      rotate_left
      · intro w hSw; (try dsimp only at hSw); go_simp; try (with_reducible rfl)
      (try simp only [Act.put])
      refine wpAnyH_take (i := 18) (v := ?_) rfl (by kernel_rfl) (by kernel_rfl) (by kernel_rfl) (fun _ _ _ h => h) (Or.inl ⟨by rfl, ?_⟩) (by assumption) ?_
      rotate_left
      · intro w hSw; (try dsimp only at hSw); go_simp; try (with_reducible rfl)
      (try simp only [Act.put])
      refine wpAnyH_take (i := 19) (v := ?_) rfl (by kernel_rfl) (by kernel_rfl) (by kernel_rfl) (fun _ _ _ h => h) (Or.inl ⟨by rfl, ?_⟩) (by assumption) ?_
      rotate_left
      · intro w hSw; (try dsimp only at hSw); go_simp; try (with_reducible rfl)
      (try simp only [Act.put])
      refine wpAnyH_take (i := 20) (v := ?_) rfl (by kernel_rfl) (by kernel_rfl) (by kernel_rfl) (fun _ _ _ h => h) (Or.inl ⟨by rfl, ?_⟩) (by assumption) ?_
      rotate_left
      · intro w hSw; (try dsimp only at hSw); go_simp; try (with_reducible rfl)
      (try simp only [Act.put])
      refine wpAnyH_take (i := 21) (v := ?_) rfl (by kernel_rfl) (by kernel_rfl) (by kernel_rfl) (fun _ _ _ h => h) (Or.inl ⟨by rfl, ?_⟩) (by assumption) ?_
      rotate_left
      · intro w hSw; (try dsimp only at hSw); go_simp; try (with_reducible rfl)
      (try simp only [Act.put])
      refine wpAnyH_take (i := 22) (v := ?_) rfl (by kernel_rfl) (by kernel_rfl) (by kernel_rfl) (fun _ _ _ h => h) (Or.inl ⟨by rfl, ?_⟩) (by assumption) ?_
      rotate_left
      · intro w hSw; (try dsimp only at hSw); go_simp; try (with_reducible rfl)
      (try simp only [Act.put])
      refine wpAnyH_take (i := 23) (v := ?_) rfl (by kernel_rfl) (by kernel_rfl) (by kernel_rfl) (fun _ _ _ h => h) (Or.inl ⟨by rfl, ?_⟩) (by assumption) ?_
      rotate_left
      · intro w hSw; (try dsimp only at hSw); go_simp; try (with_reducible rfl)
      (try simp only [Act.put])
      refine wpAnyH_take (i := 24) (v := ?_) rfl (by kernel_rfl) (by kernel_rfl) (by kernel_rfl) (fun _ _ _ h => h) (Or.inl ⟨by rfl, ?_⟩) (by assumption) ?_
      rotate_left
      · intro w hSw; (try dsimp only at hSw); go_simp; try (with_reducible rfl)
      (try simp only [Act.put])
      refine wpAnyH_ready (rs := [25, 29]) (by kernel_rfl) (by simp) ?_
      refine AllReadyH.cons rfl (fun K hK => ?_) (AllReadyH.cons rfl (fun K hK => ?_) AllReadyH.nil)
      · go_simp
        refine (HK.out _ _ (by rw [byteAt_of s m e1, byteAt_of s (m + 1) e2, byteAt_of s (m + 2) e3, byteAt_of s (m + 3) h3]; exact HE.out)).mono ?_
        rintro e wc ⟨rfl, hbc⟩
        go_wp2_with fail
        refine hK.out _ _ ?_ (fun hHeld => ?_)
        · exact bthen ((Below.refl _ _).drew) hbc
        clear hK K
        (try simp only [Act.put])
        refine wpAnyH_take (i := 26) (v := ?_) rfl (by kernel_rfl) (by kernel_rfl) (by kernel_rfl) (fun _ _ _ h => h) (Or.inl ⟨by rfl, ?_⟩) (by assumption) ?_
        rotate_left
        · intro w hSw; (try dsimp only at hSw); go_simp; try (with_reducible rfl)
        (try simp only [Act.put])
        refine wpAnyH_take (i := 27) (v := ?_) rfl (by kernel_rfl) (by kernel_rfl) (by kernel_rfl) (fun _ _ _ h => h) (Or.inl ⟨by rfl, ?_⟩) (by assumption) ?_
        rotate_left
        · intro w hSw; (try dsimp only at hSw); go_simp; try (with_reducible rfl)
        (try simp only [Act.put])
        refine wpAnyH_take (i := 28) (v := ?_) rfl (by kernel_rfl) (by kernel_rfl) (by kernel_rfl) (fun _ _ _ h => h) (Or.inl ⟨by rfl, ?_⟩) (by assumption) ?_
        rotate_left
        · intro w hSw; (try dsimp only at hSw); go_simp; try (with_reducible rfl)
        (try simp only [Act.put])
        refine wpAnyH_ready (rs := [29]) (by kernel_rfl) (by simp) ?_
        refine AllReadyH.cons rfl (fun K hK => ?_) AllReadyH.nil
        go_simp
        refine hK.out _ _ ?_ (fun hHeld => ?_)
        · exact balloc (bthen ((Below.refl _ _).drew) hbc) _
        clear hK K
        (try simp only [Act.put])
        refine wpAnyH_ready (rs := [30]) (by kernel_rfl) (by simp) ?_
        refine AllReadyH.cons rfl (fun K hK => ?_) AllReadyH.nil
        go_simp
        refine hK.out _ _ ?_ (fun hHeld => ?_)
        · exact (Five.made hbc q0 q1 q2 q3 q4).2
        clear hK K
        (try simp only [Act.put])
        refine wpAnyH_take (i := 31) (v := ?_) rfl (by kernel_rfl) (by kernel_rfl) (by kernel_rfl) (fun _ _ _ h => h) (Or.inl ⟨by rfl, ?_⟩) (by assumption) ?_
        rotate_left
        · intro w hSw; (try dsimp only at hSw); go_simp; try (with_reducible rfl)
        (try simp only [Act.put])
        refine wpAnyH_done (by kernel_rfl) ?_ _
        refine NoPanic.normal ?_
        have FB := Lib.hid (Five.made hbc q0 q1 q2 q3 q4)
        clear hbc hHeld
        generalize (wc.alloc (.cells #[.int .i64 q0, .int .i64 q1, .int .i64 q2, .int .i64 q3, .int .i64 q4] 23)) = U at *
        generalize wc.heap.size = g at *
        have FU := Lib.hid FB.out.1
        have BU := Lib.hid (bthen HB.out FB.out.2)
        have OU := Lib.hid (own_next HO.out FB.out.2)
        clear FB
        obtain ⟨r0, r1, r2, r3, r4, ef, eb⟩ := FU.out
        clear ef
        have zU : w.heap.size ≤ U.heap.size := BU.out.size
        rcases HQ.out with ⟨hz, hg, hop⟩ | ⟨hz, hg⟩
        · have tz : (z != 0) = false := by rw [hz]; rfl
          have HOP := Lib.hid hop
          have HGO := Lib.hid hg
          clear hop hg hz
          go_wp2_with (at_builtin; refine wpList_append_own _ rfl _ _ 37 rfl w.heap.size 23 i0 (.agg #[.int .i64 0, .int .i64 0, .int .i64 0, .int .i64 0, .int .i64 0]) 5 40 Tryd.underlying37 hi hz0 hz1 hz2 rfl (by decide) _ _ _ rfl (OU.out.alloc _) ⟨U.heap.size, 0, none⟩ 1 1 [.int .i64 q0, .int .i64 q1, .int .i64 q2, .int .i64 q3, .int .i64 q4] rfl rfl (five_new1 _ _ _ _ _ _) (fun x hx => by simp at hx; rcases hx with rfl | rfl | rfl | rfl | rfl <;> rfl) (by unfold maxLen; omega) (by omega) (by simp; omega) ?_; intro v' w3 hown3 hgrow3 hnil3)
          have B3 := Lib.hid (below_grown (OU.out.alloc _) (balloc BU.out _) hgrow3)
          have O3 := Lib.hid hown3
          clear hgrow3 hnil3 hown3
          go_wp2_with fail
          go_roundw
          case rel =>
            refine ⟨m + 4, k + 1, by rw [HMK.out]; omega, by rw [HL.out]; omega, by go_num, fun j hj => ?_, ?_, B3.out⟩
            · by_cases e : j = k
              · subst e; rw [← HMK.out]; exact HGO.out
              · exact HG.out j (by omega)
            · rw [cellsTo_succ, ← HMK.out, HOP.out]; exact O3.out
          case measure => simp [intOf]; omega
        · have tz : (z != 0) = true := by rw [hz]; rfl
          have HZ := Lib.hid hz
          have HGO := Lib.hid hg
          clear hg hz
          go_wp2_with fail
          go_ret2
          refine ⟨.inr ⟨⟨k, by rw [HL.out]; omega, by rw [← HMK.out]; exact HGO.out⟩, ?_⟩, BU.out⟩
          rw [← HZ.out]
          rfl
      · go_simp
        refine hK.out _ _ ?_ (fun hHeld => ?_)
        · exact (balloc (Below.refl _ _) _).drew
        clear hK K
        (try simp only [Act.put])
        refine wpAnyH_ready (rs := [25]) (by kernel_rfl) (by simp) ?_
        refine AllReadyH.cons rfl (fun K hK => ?_) AllReadyH.nil
        go_simp
        refine (HK.out _ _ (by rw [byteAt_of s m e1, byteAt_of s (m + 1) e2, byteAt_of s (m + 2) e3, byteAt_of s (m + 3) h3]; exact HE.out)).mono ?_
        rintro e wc ⟨rfl, hbc⟩
        go_wp2_with fail
        obtain ⟨y0, y1, y2, y3, y4, yf, yb⟩ := Five.zero hbc
        have x0 := yf 0
        have x1 := yf 1
        have x2 := yf 2
        have x3 := yf 3
        have x4 := yf 4
        clear yf
        refine hK.out _ _ ?_ (fun hHeld => ?_)
        · exact bthen ((balloc (Below.refl _ _) _).drew) hbc
        clear hK K
        (try simp only [Act.put])
        refine wpAnyH_take (i := 26) (v := ?_) rfl (by kernel_rfl) (by kernel_rfl) (by kernel_rfl) (fun _ _ _ h => h) (Or.inl ⟨by rfl, ?_⟩) (by assumption) ?_
        rotate_left
        · intro w hSw; (try dsimp only at hSw); go_simp; try (with_reducible rfl)
        (try simp only [Act.put])
        refine wpAnyH_take (i := 27) (v := ?_) rfl (by kernel_rfl) (by kernel_rfl) (by kernel_rfl) (fun _ _ _ h => h) (Or.inl ⟨by rfl, ?_⟩) (by assumption) ?_
        rotate_left
        · intro w hSw; (try dsimp only at hSw); go_simp; try (with_reducible rfl)
        (try simp only [Act.put])
        refine wpAnyH_take (i := 28) (v := ?_) rfl (by kernel_rfl) (by kernel_rfl) (by kernel_rfl) (fun _ _ _ h => h) (Or.inl ⟨by rfl, ?_⟩) (by assumption) ?_
        rotate_left
        · intro w hSw; (try dsimp only at hSw); go_simp; try (with_reducible rfl)
        (try simp only [Act.put])
        refine wpAnyH_ready (rs := [30]) (by kernel_rfl) (by simp) ?_
        refine AllReadyH.cons rfl (fun K hK => ?_) AllReadyH.nil
        go_simp
        refine hK.out _ _ ?_ (fun hHeld => ?_)
        · exact (Five.set hbc q0 q1 q2 q3 q4).2
        clear hK K
        (try simp only [Act.put])
        refine wpAnyH_take (i := 31) (v := ?_) rfl (by kernel_rfl) (by kernel_rfl) (by kernel_rfl) (fun _ _ _ h => h) (Or.inl ⟨by rfl, ?_⟩) (by assumption) ?_
        rotate_left
        · intro w hSw; (try dsimp only at hSw); go_simp; try (with_reducible rfl)
        (try simp only [Act.put])
        refine wpAnyH_done (by kernel_rfl) ?_ _
        refine NoPanic.normal ?_
        have FB := Lib.hid (Five.set hbc q0 q1 q2 q3 q4)
        clear hbc hHeld y0 y1 y2 y3 y4 x0 x1 x2 x3 x4 yb
        generalize (((((wc.setCell ⟨wr.heap.size, 0, none⟩ (.int .i64 q0)).setCell ⟨wr.heap.size, 1, none⟩ (.int .i64 q1)).setCell ⟨wr.heap.size, 2, none⟩ (.int .i64 q2)).setCell ⟨wr.heap.size, 3, none⟩ (.int .i64 q3)).setCell ⟨wr.heap.size, 4, none⟩ (.int .i64 q4)) = U at *
        have FU := Lib.hid FB.out.1
        have BU := Lib.hid (bthen HB.out FB.out.2)
        have OU := Lib.hid (own_next HO.out FB.out.2)
        clear FB
        obtain ⟨r0, r1, r2, r3, r4, ef, eb⟩ := FU.out
        clear ef
        have zU : w.heap.size ≤ U.heap.size := BU.out.size
        rcases HQ.out with ⟨hz, hg, hop⟩ | ⟨hz, hg⟩
        · have tz : (z != 0) = false := by rw [hz]; rfl
          have HOP := Lib.hid hop
          have HGO := Lib.hid hg
          clear hop hg hz
          go_wp2_with (at_builtin; refine wpList_append_own _ rfl _ _ 37 rfl w.heap.size 23 i0 (.agg #[.int .i64 0, .int .i64 0, .int .i64 0, .int .i64 0, .int .i64 0]) 5 40 Tryd.underlying37 hi hz0 hz1 hz2 rfl (by decide) _ _ _ rfl (OU.out.alloc _) ⟨U.heap.size, 0, none⟩ 1 1 [.int .i64 q0, .int .i64 q1, .int .i64 q2, .int .i64 q3, .int .i64 q4] rfl rfl (five_new1 _ _ _ _ _ _) (fun x hx => by simp at hx; rcases hx with rfl | rfl | rfl | rfl | rfl <;> rfl) (by unfold maxLen; omega) (by omega) (by simp; omega) ?_; intro v' w3 hown3 hgrow3 hnil3)
          have B3 := Lib.hid (below_grown (OU.out.alloc _) (balloc BU.out _) hgrow3)
          have O3 := Lib.hid hown3
          clear hgrow3 hnil3 hown3
          go_wp2_with fail
          go_roundw
          case rel =>
            refine ⟨m + 4, k + 1, by rw [HMK.out]; omega, by rw [HL.out]; omega, by go_num, fun j hj => ?_, ?_, B3.out⟩
            · by_cases e : j = k
              · subst e; rw [← HMK.out]; exact HGO.out
              · exact HG.out j (by omega)
            · rw [cellsTo_succ, ← HMK.out, HOP.out]; exact O3.out
          case measure => simp [intOf]; omega
        · have tz : (z != 0) = true := by rw [hz]; rfl
          have HZ := Lib.hid hz
          have HGO := Lib.hid hg
          clear hg hz
          go_wp2_with fail
          go_ret2
          refine ⟨.inr ⟨⟨k, by rw [HL.out]; omega, by rw [← HMK.out]; exact HGO.out⟩, ?_⟩, BU.out⟩
          rw [← HZ.out]
          rfl
    · have hnlt : decide ((m : Int) + 3 < (s.size : Int)) = false := by simp; omega
      go_wp2_with fail
      go_ret2
      have hk : k = s.data.toList.length / 4 := by rw [HL.out]; have := HMK.out; omega
      refine ⟨.inl ⟨_, fun j hj => HG.out j (by omega), rfl, ?_⟩, HB.out⟩
      rw [← hk]
      exact HO.out
end Go.Proofs.YtmedlebepgobeaaDoor
