/- Package elf, read: a file's head. -/
import Derived.Test.YthaieajakdcodaaF18
namespace Go.Proofs.Ythaieajakdcodaa
open Go.RowKit

theorem Fl.parts {W : World} {B b : Nat} {l : List UInt8} (h : Fl W B b l) : ∃ p, B ≤ b ∧ ∃ v, W.heap[b]? = some (.cells #[p, v] 94 (0, 0)) ∧ W.ownsRow B 5 1 v (Lib.byteCells l).length (Lib.byteCells l) ∧ v.ownBlock ≠ some b := by
  rcases h with h | h
  · exact ⟨_, h⟩
  · exact ⟨_, h⟩
set_option maxRecDepth 100000 in
set_option maxHeartbeats 2000000 in
theorem fstringl_any (B b : Nat) (l : List UInt8) (w : World) (h : Fl w B b l) (h0 : l ≠ []) :
    Calls Try.prog 57 #[.pointer (some ⟨b, 0, none⟩)] w fun e w' => e = .returned (.string ⟨l.toArray⟩) ∧ Below B w w' := by
  obtain ⟨p, hB, v, hbk, hown, hne⟩ := h.parts
  have hl0 : l.length ≠ 0 := by simpa using h0
  rw [Lib.byteCells_length] at hown
  obtain ⟨g, cap, cur, rfl, hbg, hg, hnc, hcm, hcs, htake⟩ : ∃ g cap cur, v = .slice (some ⟨g, 0, none⟩) l.length cap ∧ B ≤ g ∧ w.heap[g]? = some (.cells cur 5 (0, 0)) ∧ l.length ≤ cap ∧ cap ≤ maxLen ∧ cur.size = cap * 1 ∧ cur.toList.take (l.length * 1) = Lib.byteCells l := by
    rcases hown.2 with ⟨_, hz⟩ | ⟨g, cap, cur, hv, r⟩
    · exact absurd hz hl0
    · exact ⟨g, cap, cur, hv, r⟩
  have c1 : w.drew.cell? ⟨b, 1, none⟩ = some (.slice (some ⟨g, 0, none⟩) l.length cap) := by
    have : w.drew.heap[b]? = some (.cells #[p, .slice (some ⟨g, 0, none⟩) l.length cap] 94 (0, 0)) := hbk
    rw [Lib.cell_of_heap this]; rfl
  have hSD : (Builtin.unsafeSliceData_ #[90] 141 #[.slice (some ⟨g, 0, none⟩) l.length cap]).run Try.prog w.drew = .ok (.pointer (some ⟨g, 0, none⟩)) w.drew :=
    Lib.run_unsafeSliceData_row _ _ _ _ _ _ (by omega)
  have hUS : (Builtin.unsafeString_ #[141, 3] 9 #[.pointer (some ⟨g, 0, none⟩), .int .i64 l.length]).run Try.prog w.drew = .ok (.string ⟨l.toArray⟩) (w.drew.freeze ⟨g, 0, none⟩ l.length) := by
    refine Lib.run_unsafeString_row w.drew 141 3 9 5 Try.underlying141 (by kernel_rfl) g cur.size (by have hg' : w.drew.heap[g]? = some (.cells cur 5 (0, 0)) := hg; simp [World.shape?, hg']) l h0 (by omega) (by unfold maxLen at hcm; omega) ?_
    intro j x hx
    exact hown.cells (g := g) rfl j (.int .u8 x.toNat) (by simp [Lib.byteCells, hx])
  have HR := Lib.hid (Lib.below_freeze (Below.drew (Below.refl B w)) (p := ⟨g, 0, none⟩) hbg l.length)
  clear h hbk hown hne htake hg hcs hcm hnc
  have mixed : Try.prog.follows .mixedOrders = true := by kernel_rfl
  go_enter Try.func57, Try.ntmps57
  go_wp2
  go_region_o
  all_goals (go_wp2; go_ret; exact ⟨rfl, HR.out⟩)
theorem taker_any (S : ByteArray) (w : World) : Calls Try.prog 98 #[.string S] w fun e w' => e = .returned (.func (.func 118) #[] #[.pointer (some ⟨w.heap.size, 0, none⟩)]) ∧ Left w' w.heap.size S ∧ Below w.heap.size w w' ∧ w'.heap.size = w.heap.size + 1 := by
  go_enter Try.func98, Try.ntmps98
  go_wp2_with fail
  go_ret
  exact ⟨rfl, heap_alloc_new _ _, balloc (Below.refl _ _) _, by simp⟩
/-- why there is no head there, or nought -/
def thE (S : ByteArray) : Int := if S.size < 64 then 2 else if S.extract 0 64 ≠ ⟨(headL (tkN S 24 8).toNat (tkN S 56 2).toNat).toArray⟩ then 3 else if tkN S 56 2 > 4 then 4 else if (S.size : Int) < 64 + 56 * tkN S 56 2 then 2 else 0
set_option maxRecDepth 100000 in
set_option maxHeartbeats 4000000 in
theorem takeHead_any (S : ByteArray) (w : World) (hs : S.size < 9223372036854775808) :
    Calls Try.prog 60 #[.string S] w fun e w' => e = .returned (.tuple #[.int .u64 (if thE S = 0 then tkN S 24 8 else 0), .int .u64 (if thE S = 0 then tkN S 56 2 else 0), .int .i64 (thE S)]) ∧ Below w.heap.size w w' := by
  obtain ⟨E, hE⟩ : ∃ E, thE S = E := ⟨_, rfl⟩
  rw [hE]
  unfold thE at hE
  obtain ⟨z, hz⟩ : ∃ z, S.size = z := ⟨_, rfl⟩
  by_cases h64 : z < 64
  · have e0 : decide ((z : Int) < 64) = true := by simp; omega
    rw [if_pos (by omega)] at hE
    subst hE
    rw [if_neg (by decide), if_neg (by decide)]
    go_enter Try.func60, Try.ntmps60
    go_wp2_with fail
    go_ret3
    exact ⟨rfl, Below.refl _ _⟩
  · have e0 : decide ((z : Int) < 64) = false := by simp; omega
    have i24 : (24 : Int) ≤ (z : Int) := by omega
    have i56 : (56 : Int) ≤ (z : Int) := by omega
    have i64 : (64 : Int) ≤ (z : Int) := by omega
    rw [if_neg (by omega)] at hE
    have HE := Lib.hid hE.symm
    have HT := Lib.hid (fun W => taker_any (S.extract 24 S.size) W)
    have HT2 := Lib.hid (fun W => taker_any (S.extract 56 S.size) W)
    have HN := Lib.hid (fun (W : World) (B : Nat) (h : Left W B (S.extract 24 S.size)) => nexto_any S 24 8 B W h (by omega) (by omega) (by omega))
    have HN2 := Lib.hid (fun (W : World) (B : Nat) (h : Left W B (S.extract 56 S.size)) => nexto_any S 56 2 B W h (by omega) (by omega) (by omega))
    have f1 := (tkN_ok (T := S) (o := 24) (n := 8) (by omega))
    have f2 := (tkN_ok (T := S) (o := 56) (n := 2) (by omega))
    obtain ⟨en, h1⟩ : ∃ x : Nat, tkN S 24 8 = (x : Int) := Int.eq_ofNat_of_zero_le f1.1
    obtain ⟨ct, h2⟩ : ∃ x : Nat, tkN S 56 2 = (x : Int) := Int.eq_ofNat_of_zero_le f2.1
    rw [h1] at f1 HE HN ⊢
    rw [h2] at f2 HE HN2 ⊢
    rw [Int.toNat_natCast, Int.toNat_natCast, hz] at HE
    have f1 : en < 18446744073709551616 := by omega
    have f2 : ct < 65536 := by omega
    clear hE h1 h2
    rw [hz] at HT HT2
    go_enter Try.func60, Try.ntmps60
    go_wp2_with fail
    refine (HT.out _).mono ?_
    rintro r w1 ⟨rfl, hl, hb, hz1⟩
    have HB := Lib.hid hb
    have HL := Lib.hid hl
    clear hl hb
    go_wp2_with fail
    refine (HN.out _ _ (by rw [hz]; exact HL.out)).mono ?_
    rintro r w2 ⟨rfl, ht⟩
    have HB := Lib.hid (HB.out.trans ht.bel)
    have hz2 : w2.heap.size = w.heap.size + 1 := by rw [ht.size, hz1]
    clear ht HL hz1
    go_wp2_with fail
    refine (HT2.out _).mono ?_
    rintro r w3 ⟨rfl, hl, hb, hz3⟩
    have HB := Lib.hid (HB.out.trans (hb.mono (by omega)))
    have HL := Lib.hid hl
    clear hl hb
    go_wp2_with fail
    refine (HN2.out _ _ (by rw [hz]; have h := HL.out; rwa [hz2] at h)).mono ?_
    rintro r w4 ⟨rfl, ht⟩
    have HB := Lib.hid (HB.out.trans (ht.bel.mono (by omega)))
    have hz4 : w4.heap.size = w.heap.size + 2 := by rw [ht.size, hz3, hz2]
    clear ht HL hz3 hz2 HT HT2 HN HN2
    obtain ⟨B, hB⟩ : ∃ B, w4.heap.size = B := ⟨_, rfl⟩
    obtain ⟨W, hW⟩ : ∃ W, w4.alloc (.cells #[.pointer none, .slice none 0 0] 94) = W := ⟨_, rfl⟩
    have hf := Fl.new w4
    rw [hB, hW] at hf
    have HBW := Lib.hid (show Below w.heap.size w W by rw [← hW]; exact HB.out.alloc (by omega) _)
    have hsz : B ≤ W.heap.size := Nat.le_of_lt hf.lt
    have HL0 := Lib.hid (show Lies B B W [] W from ⟨hf, Keep.refl _ _ _, hsz⟩)
    have HBI := Lib.hid (show w.heap.size ≤ B by omega)
    clear hf hsz HB
    go_upto_region 6 with fail
    try rw [← hz4]
    try rw [hB]
    try rw [hW]
    clear hW hz4 hB
    go_wp2_with fail
    refine (head_any B B en ct [] W W HL0.out ⟨f1, by omega⟩ (by simp)).mono ?_
    rintro r w5 ⟨rfl, hL⟩
    have HL := Lib.hid (show Lies B B W (headL en ct) w5 by simpa using hL)
    have hs5 := fstringl_any B B (headL en ct) w5.drew HL.out.f (by intro h; have := headL_length en ct; rw [h] at this; cases this)
    have HB5 := Lib.hid (show Below w.heap.size w w5 from HBW.out.trans (HL.out.k.below.mono HBI.out))
    obtain ⟨g, hg⟩ : ∃ g : ByteArray, ⟨(headL en ct).toArray⟩ = g := ⟨_, rfl⟩
    rw [hg] at hs5 HE
    have HS5 := Lib.hid hs5
    clear hL hg hs5 HL0 HBW HL
    go_upto_region 7 with fail
    refine wp_region_any rfl ?_
    refine wpAny_take (i := 0) (v := ?_) rfl (by kernel_rfl) (by kernel_rfl) (by kernel_rfl) (fun _ _ _ h => h) (Or.inl ⟨by rfl, ?_⟩) ?_
    rotate_left
    · intro w; go_simp; try (with_reducible rfl)
    (try simp only [Act.put])
    refine wpAny_take (i := 1) (v := ?_) rfl (by kernel_rfl) (by kernel_rfl) (by kernel_rfl) (fun _ _ _ h => h) (Or.inl ⟨by rfl, ?_⟩) ?_
    rotate_left
    · intro w; go_simp; try (with_reducible rfl)
    (try simp only [Act.put])
    refine wpAny_take (i := 2) (v := ?_) rfl (by kernel_rfl) (by kernel_rfl) (by kernel_rfl) (fun _ _ _ h => h) (Or.inl ⟨by rfl, ?_⟩) ?_
    rotate_left
    · intro w; go_simp; try (with_reducible rfl)
    (try simp only [Act.put])
    refine wpAny_ready (rs := [3]) (by kernel_rfl) (by simp) ?_
    refine AllReady.cons rfl (fun K hK => ?_) AllReady.nil
    go_simp
    refine HS5.out.mono ?_
    rintro e w6 ⟨rfl, hb6⟩
    have HB6 := Lib.hid (HB5.out.drew.trans (hb6.mono HBI.out))
    refine hK _ _ ?_
    clear hK K hb6 HS5 HB5
    (try simp only [Act.put])
    by_cases hsg : S.extract 0 64 = g
    · have q1 : (S.extract 0 64 == g) = true := (sba_beq _ _).2 hsg
      have q2 : (S.extract 0 64 != g) = false := by unfold bne; rw [q1]; rfl
      have q3 : ((S.extract 0 64).toList == g.toList) = true := by rw [← beq_toListBytes]; exact q1
      rw [if_neg (by simpa using hsg)] at HE
      clear hsg
      refine wpAny_ready (rs := [4]) (by kernel_rfl) (by simp) ?_
      refine AllReady.cons rfl (fun K hK => ?_) AllReady.nil
      go_simp
      refine hK _ _ ?_
      clear hK K
      (try simp only [Act.put])
      refine wpAny_ready (rs := [5]) (by kernel_rfl) (by simp) ?_
      refine AllReady.cons rfl (fun K hK => ?_) AllReady.nil
      go_simp
      refine hK _ _ ?_
      clear hK K
      (try simp only [Act.put])
      refine wpAny_done (by kernel_rfl) ?_ _
      by_cases h4 : (ct : Int) > 4
      · have e4 : decide ((4 : Int) < (ct : Int)) = true := decide_eq_true h4
        rw [if_pos h4] at HE
        have hE := HE.out
        subst hE
        clear HE
        go_wp2_with fail
        go_ret3
        exact ⟨rfl, HB6.out⟩
      · have e4 : decide ((4 : Int) < (ct : Int)) = false := decide_eq_false h4
        rw [if_neg h4] at HE
        have u0 : IntKind.u64.wrap (z : Int) = z := by rw [IntKind.wrap_u64]; omega
        have u1 : IntKind.u64.wrap (56 * (ct : Int)) = 56 * ct := by rw [IntKind.wrap_u64]; omega
        have u2 : IntKind.u64.wrap (64 + 56 * (ct : Int)) = 64 + 56 * ct := by rw [IntKind.wrap_u64]; omega
        by_cases h5 : (z : Int) < 64 + 56 * (ct : Int)
        · have e5 : decide ((z : Int) < 64 + 56 * (ct : Int)) = true := decide_eq_true h5
          rw [if_pos h5] at HE
          clear h4 h5
          have hE := HE.out
          subst hE
          clear HE
          go_wp2_with fail
          go_ret3
          exact ⟨rfl, HB6.out⟩
        · have e5 : decide ((z : Int) < 64 + 56 * (ct : Int)) = false := decide_eq_false h5
          rw [if_neg h5] at HE
          clear h4 h5
          have hE := HE.out
          subst hE
          clear HE
          go_wp2_with fail
          go_ret3
          exact ⟨rfl, HB6.out⟩
    · have q1 : (S.extract 0 64 == g) = false := by
        cases h : (S.extract 0 64 == g) with
        | false => rfl
        | true => exact absurd ((sba_beq _ _).1 h) hsg
      have q2 : (S.extract 0 64 != g) = true := by unfold bne; rw [q1]; rfl
      have q3 : ((S.extract 0 64).toList == g.toList) = false := by rw [← beq_toListBytes]; exact q1
      rw [if_pos (by simpa using hsg)] at HE
      clear hsg
      refine wpAny_ready (rs := [4]) (by kernel_rfl) (by simp) ?_
      refine AllReady.cons rfl (fun K hK => ?_) AllReady.nil
      go_simp
      refine hK _ _ ?_
      clear hK K
      (try simp only [Act.put])
      refine wpAny_ready (rs := [5]) (by kernel_rfl) (by simp) ?_
      refine AllReady.cons rfl (fun K hK => ?_) AllReady.nil
      go_simp
      refine hK _ _ ?_
      clear hK K
      (try simp only [Act.put])
      refine wpAny_done (by kernel_rfl) ?_ _
      have hE := HE.out
      subst hE
      clear HE
      go_wp2_with fail
      go_ret3
      exact ⟨rfl, HB6.out⟩
end Go.Proofs.Ythaieajakdcodaa
