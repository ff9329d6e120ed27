/- Map. -/
import Derived.Test.YtdlbhkdjcegbfaaP18
import Derived.Test.YtdlbhkdjcegbfaaP20
import Derived.Test.YtdlbhkdjcegbfaaP21
import Derived.Test.YtdlbhkdjcegbfaaP22
import Derived.Deep.RegionWith
namespace Go.Proofs.Ytdlbhkdjcegbfaa
open Go.RowKit

def Cap (v : Value) : Prop := ∃ A n cap, v = .slice A n cap ∧ n ≤ cap ∧ cap ≤ maxLen
theorem Pages.take {W : World} {A : Option Addr} {nv cap i : Nat} {m : List M.Pg} (h : Pages W (.slice A nv cap) m) (hi : i ≤ nv) : Pages W (.slice A i cap) (m.take i) := by
  rcases h with ⟨rfl, h | ⟨a, c, h⟩⟩ | ⟨h0, b, off, c, h, hp⟩
  · cases h
    obtain rfl : i = 0 := by omega
    exact .inl ⟨by simp, .inl rfl⟩
  · cases h
    obtain rfl : i = 0 := by omega
    exact .inl ⟨by simp, .inr ⟨_, _, rfl⟩⟩
  · cases h
    by_cases hi0 : i = 0
    · subst hi0
      exact .inl ⟨by simp, .inr ⟨_, _, rfl⟩⟩
    · have hl : (m.take i).length = i := by rw [List.length_take]; omega
      refine .inr ⟨by omega, b, off, cap, by rw [hl], hp.1, fun j hj => ?_⟩
      rw [List.getElem_take]
      exact hp.2 j (by omega)
theorem Pages.drop {W : World} {A : Option Addr} {nv cap i : Nat} {m : List M.Pg} (h : Pages W (.slice A nv cap) m) (hi : i ≤ nv) (hc : nv ≤ cap) :
    Pages W (.slice (if cap = i then A else Option.map (fun x => x.add (i * 3)) A) (nv - i) (cap - i)) (m.drop i) := by
  rcases h with ⟨rfl, h | ⟨a, c, h⟩⟩ | ⟨h0, b, off, c, h, hp⟩
  · cases h
    obtain rfl : i = 0 := by omega
    exact .inl ⟨by simp, .inl rfl⟩
  · cases h
    obtain rfl : i = 0 := by omega
    refine .inl ⟨by simp, .inr ?_⟩
    split <;> exact ⟨_, _, rfl⟩
  · cases h
    by_cases hi0 : i = m.length
    · subst hi0
      refine .inl ⟨by simp, .inr ?_⟩
      rw [Nat.sub_self]
      split <;> exact ⟨_, _, rfl⟩
    · have hl : (m.drop i).length = m.length - i := by rw [List.length_drop]
      rw [if_neg (by omega)]
      refine .inr ⟨by omega, b, off + i * 3, cap - i, by rw [hl, Option.map_some, pg_add], hp.1, fun j hj => ?_⟩
      rw [List.getElem_drop]
      have := hp.2 (i + j) (by omega)
      rw [show off + i * 3 + j * 3 = off + (i + j) * 3 by omega]
      exact this
def sel {α : Type} (x y z : α) : Nat → α | 0 => x | 1 => y | _ => z
theorem cat_sel (x y z : List M.Pg) : cat (sel x y z) 3 = x ++ (y ++ z) := cat_three _

theorem concat_at {x y z : List M.Pg} (w3 : World) {A0 A1 A2 : Option Addr} {n0 n1 n2 c0 c1 c2 : Nat} (h0 : Pages w3 (.slice A0 n0 c0) x) (h1 : Pages w3 (.slice A1 n1 c1) y) (h2 : Pages w3 (.slice A2 n2 c2) z)
    (hy : 1 ≤ n1) (hn : (n0 + n1 + n2) * 32 ≤ 140737488355328) :
    Calls Try.prog 110 #[.slice (some ⟨w3.heap.size, 0, none⟩) 3 3] (w3.alloc (.cells #[.slice A0 n0 c0, .slice A1 n1 c1, .slice A2 n2 c2] 28))
      (NewPages (x ++ (y ++ z)) (w3.alloc (.cells #[.slice A0 n0 c0, .slice A1 n1 c1, .slice A2 n2 c2] 28))) := by
  have e0 := h0.len
  have e1 := h1.len
  have e2 := h2.len
  rw [← cat_sel]
  have hh := heap_alloc_new w3 (.cells #[.slice A0 n0 c0, .slice A1 n1 c1, .slice A2 n2 c2] 28)
  have hb : Below w3.heap.size w3 (w3.alloc (.cells #[.slice A0 n0 c0, .slice A1 n1 c1, .slice A2 n2 c2] 28)) := balloc (Below.refl _ _) _
  refine concat_three w3.heap.size (sel A0 A1 A2) (sel c0 c1 c2) (sel x y z) _ (by simp) ?_ ?_ (by show 1 ≤ y.length; omega) (by rw [cat_sel]; simp only [List.length_append]; omega)
  · intro i hi
    match i, hi with
    | 0, _ => show _ = some (Value.slice A0 x.length c0); rw [← e0]; simp only [World.cell?]; rw [hh]; rfl
    | 1, _ => show _ = some (Value.slice A1 y.length c1); rw [← e1]; simp only [World.cell?]; rw [hh]; rfl
    | 2, _ => show _ = some (Value.slice A2 z.length c2); rw [← e2]; simp only [World.cell?]; rw [hh]; rfl
  · intro i hi
    match i, hi with
    | 0, _ => exact e0 ▸ h0.next hb
    | 1, _ => exact e1 ▸ h1.next hb
    | 2, _ => exact e2 ▸ h2.next hb

set_option maxRecDepth 100000 in
set_option maxHeartbeats 4000000 in
theorem map_any {m : List M.Pg} {v : Value} (a n perm : Int) {w : World} (hP : Pages w v m) (hw : Wf m) (hn : m.length * 32 ≤ 140737488355328) (hc : Cap v) (a0 : 0 ≤ a) (a1 : a ≤ 18446744073709551615) :
    Calls Try.prog 62 #[v, .int .u64 a, .int .i64 n, .int .i64 perm] w (NewPagesE (mapM m a n perm) (mapErr m a n perm) w) := by
  have HE := Lib.hid (mapErr_any a n perm hP hw a0 a1)
  have HP := Lib.hid hP
  obtain ⟨A, nv, cap, hv, hc1, hc2⟩ := hc
  have hnv : m.length = nv := by
    obtain ⟨A', cap', e⟩ := hP.slice
    rw [hv] at e; cases e; rfl
  have HNV := Lib.hid hnv
  by_cases h0 : mapErr m a n perm = 0
  · have HV := Lib.hid (show mapM m a n perm = m.take (M.low m a) ++ ((M.strs a (n * 256)).map (mkPg perm noughts) ++ m.drop (M.low m a)) by unfold mapM; rw [if_pos h0])
    obtain ⟨hr, hm, n1, n64, hpm, hby, hany, hlen⟩ := mapErr_zero h0
    have hR := Right.of hr hw.a0 hw.a1
    obtain ⟨N, rfl⟩ := Int.eq_ofNat_of_zero_le (show 0 ≤ n by omega)
    have HF := Lib.hid (fun (W : World) (hb : Below w.heap.size w W) => find_any a (hP.next hb) (by have := hR.len; omega) hR.up)
    have HBL := Lib.hid (fun W => blank_in a N perm W a0 a1 (by omega) (by omega) (by omega))
    have hlow := M.low_le m a
    rw [HV.out]
    rw [h0] at HE ⊢
    obtain ⟨i, hi⟩ : ∃ i, M.low m a = i := ⟨_, rfl⟩
    obtain ⟨th, hth⟩ : ∃ t, M.there m a = t := ⟨_, rfl⟩
    rw [hi] at hlow HF ⊢
    rw [hth] at HF
    rw [hnv] at hlow
    have hc3 : i ≤ cap := by omega
    have hc4 : nv ≤ cap := hc1
    subst hv
    have HC := Lib.hid hc2
    clear hP hw hn hnv h0 hr hm hany HV hR hi hth hc2 hc1
    go_enter Try.func62, Try.ntmps62
    go_wp2_with fail
    refine HE.out.mono ?_
    rintro e w1 ⟨rfl, hb1⟩
    have HB1 := Lib.hid hb1
    clear hb1
    go_wp2_with fail
    refine (HF.out _ HB1.out).mono ?_
    rintro e w2 ⟨rfl, hb2⟩
    have HB2 := Lib.hid (bthen HB1.out hb2)
    clear hb2
    go_wp2_with fail
    refine wp_region_any rfl ?_
    refine wpAny_take (i := 0) (v := ?_) rfl (by kernel_rfl) (by kernel_rfl) (by kernel_rfl) (fun _ _ _ h => h) (Or.inl ⟨by rfl, ?_⟩) ?_
    rotate_left
    · intro w; go_simp; try (with_reducible rfl)
    (try simp only [Act.put])
    refine wpAny_take (i := 1) (v := ?_) rfl (by kernel_rfl) (by kernel_rfl) (by kernel_rfl) (fun _ _ _ h => h) (Or.inl ⟨by rfl, ?_⟩) ?_
    rotate_left
    · intro w; go_simp; try (with_reducible rfl)
    (try simp only [Act.put])
    refine wpAny_take (i := 2) (v := ?_) rfl (by kernel_rfl) (by kernel_rfl) (by kernel_rfl) (fun _ _ _ h => h) (Or.inl ⟨by rfl, ?_⟩) ?_
    rotate_left
    · intro w; go_simp; try (with_reducible rfl)
    (try simp only [Act.put])
    refine wpAny_take (i := 3) (v := ?_) rfl (by kernel_rfl) (by kernel_rfl) (by kernel_rfl) (fun _ _ _ h => h) (Or.inl ⟨by rfl, ?_⟩) ?_
    rotate_left
    · intro w; go_simp; try (with_reducible rfl)
    (try simp only [Act.put])
    refine wpAny_take (i := 4) (v := ?_) rfl (by kernel_rfl) (by kernel_rfl) (by kernel_rfl) (fun _ _ _ h => h) (Or.inl ⟨by rfl, ?_⟩) ?_
    rotate_left
    · intro w; go_simp; try (with_reducible rfl)
    (try simp only [Act.put])
    refine wpAny_take (i := 5) (v := ?_) rfl (by kernel_rfl) (by kernel_rfl) (by kernel_rfl) (fun _ _ _ h => h) (Or.inl ⟨by rfl, ?_⟩) ?_
    rotate_left
    · intro w; go_simp; try (with_reducible rfl)
    (try simp only [Act.put])
    refine wpAny_take (i := 7) (v := ?_) rfl (by kernel_rfl) (by kernel_rfl) (by kernel_rfl) (fun _ _ _ h => h) (Or.inl ⟨by rfl, ?_⟩) ?_
    rotate_left
    · intro w; go_simp; try (with_reducible rfl)
    (try simp only [Act.put])
    refine wpAny_take (i := 8) (v := ?_) rfl (by kernel_rfl) (by kernel_rfl) (by kernel_rfl) (fun _ _ _ h => h) (Or.inl ⟨by rfl, ?_⟩) ?_
    rotate_left
    · intro w; go_simp; try (with_reducible rfl)
    (try simp only [Act.put])
    refine wpAny_take (i := 9) (v := ?_) rfl (by kernel_rfl) (by kernel_rfl) (by kernel_rfl) (fun _ _ _ h => h) (Or.inl ⟨by rfl, ?_⟩) ?_
    rotate_left
    · intro w; go_simp; try (with_reducible rfl)
    (try simp only [Act.put])
    refine wpAny_ready (rs := [6]) (by kernel_rfl) (by simp) ?_
    refine AllReady.cons rfl (fun K hK => ?_) AllReady.nil
    go_simp
    refine (HBL.out _).mono ?_
    rintro e w3 ⟨ov, rfl, hown3, hb3⟩
    refine hK _ _ ?_
    clear hK K
    (try simp only [Act.put])
    have HB3 := Lib.hid (show Below w.heap.size w w3 from bthen HB2.out.drew hb3)
    have P2 := hown3.pages
    obtain ⟨Ao, co, ho⟩ := P2.slice
    obtain ⟨bl, hbl⟩ : ∃ bl, List.map (mkPg perm noughts) (M.strs a ((N : Int) * 256)) = bl := ⟨_, rfl⟩
    have HBE0 := Lib.hid hbl
    have hbn : bl.length ≤ 16384 := by
      rw [← hbl, List.length_map]; exact Nat.le_trans M.strs_len (by omega)
    have hb1 : 1 ≤ bl.length := by
      rw [← hbl, List.length_map, M.strs_cons (by omega), List.length_cons]; omega
    rw [hbl] at ho P2
    obtain ⟨bn, hbe⟩ : ∃ bn, bl.length = bn := ⟨_, rfl⟩
    rw [hbe] at hbn hb1 ho
    subst ho
    have HPO := Lib.hid P2
    clear hown3 hb3 P2 hbl hbe
    obtain ⟨A2, hA2⟩ : ∃ A2, (if cap = i then A else Option.map (fun x => x.add (i * 3)) A) = A2 := ⟨_, rfl⟩
    have HP1 := Lib.hid (HP.out.take hlow)
    have HP2 := Lib.hid (HP.out.drop hlow hc4)
    rw [hA2] at HP2 ⊢
    clear hA2
    refine wpAny_ready (rs := [10]) (by kernel_rfl) (by simp) ?_
    refine AllReady.cons rfl (fun K hK => ?_) AllReady.nil
    go_simp
    refine hK _ _ ?_
    clear hK K
    (try simp only [Act.put])
    refine wpAny_ready (rs := [11]) (by kernel_rfl) (by simp) ?_
    refine AllReady.cons rfl (fun K hK => ?_) AllReady.nil
    go_simp
    have HLN := Lib.hid (show nv + N ≤ 64 by have := HNV.out; omega)
    refine (concat_at w3 ((HP1.out).next (HB3.out.mono (Nat.le_refl _))) HPO.out ((HP2.out).next (HB3.out.mono (Nat.le_refl _))) hb1 (by have := HLN.out; omega)).mono ?_
    rintro e w4 ⟨rv, rfl, hown4, hb4⟩
    refine hK _ _ ?_
    clear hK K
    (try simp only [Act.put])
    have HB4 := Lib.hid (bthen (balloc HB3.out _) hb4)
    have HO4 := Lib.hid (ownsP_base hown4 (show w.heap.size ≤ _ by have := HB3.out.size; simp; omega))
    obtain ⟨A4, c4, hr4⟩ := hown4.pages.slice
    obtain ⟨n4, hn4⟩ : ∃ n4, (m.take i ++ (bl ++ m.drop i)).length = n4 := ⟨_, rfl⟩
    rw [hn4] at hr4
    subst hr4
    clear hown4 hb4 hn4
    refine wpAny_ready (rs := [12]) (by kernel_rfl) (by simp) ?_
    refine AllReady.cons rfl (fun K hK => ?_) AllReady.nil
    go_simp
    refine hK _ _ ?_
    clear hK K
    (try simp only [Act.put])
    refine wpAny_ready (rs := [13]) (by kernel_rfl) (by simp) ?_
    refine AllReady.cons rfl (fun K hK => ?_) AllReady.nil
    go_simp
    refine hK _ _ ?_
    clear hK K
    (try simp only [Act.put])
    refine wpAny_done (by kernel_rfl) ?_ _
    go_wp2_with fail
    go_ret2
    exact ⟨_, rfl, by rw [HBE0.out]; exact HO4.out, HB4.out⟩
  · have HV := Lib.hid (show mapM m a n perm = m by unfold mapM; rw [if_neg h0])
    have HC := Lib.hid (fun (W : World) (hb : Below w.heap.size w W) => clone_any (hP.next hb) hn)
    rw [HV.out]
    obtain ⟨r, hr⟩ : ∃ r, mapErr m a n perm = r := ⟨_, rfl⟩
    rw [hr] at h0 HE ⊢
    have t0 : (r != 0) = true := by simpa using h0
    subst hv
    clear hP hw hn hnv hr h0 HV hc1 hc2
    go_enter Try.func62, Try.ntmps62
    go_wp2_with fail
    refine HE.out.mono ?_
    rintro e w1 ⟨rfl, hb1⟩
    have HB1 := Lib.hid hb1
    clear hb1
    go_wp2_with fail
    refine (HC.out _ HB1.out).mono ?_
    rintro e w3 ⟨ov, rfl, hown, hb3⟩
    have HB3 := Lib.hid (bthen HB1.out hb3)
    have HO := Lib.hid (ownsP_base hown HB1.out.size)
    obtain ⟨A2, cap2, hv2⟩ := hown.pages.slice
    rw [HNV.out] at hv2
    subst hv2
    clear hb3 hown
    go_wp2_with fail
    go_ret2
    exact ⟨_, rfl, HO.out, HB3.out⟩
end Go.Proofs.Ytdlbhkdjcegbfaa
