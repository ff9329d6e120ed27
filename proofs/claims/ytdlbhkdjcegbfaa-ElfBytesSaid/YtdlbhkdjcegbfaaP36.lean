/- The reference's Load of one byte, asking nothing of the page. -/
import Derived.Test.YtdlbhkdjcegbfaaP35
namespace Go.Proofs.Ytdlbhkdjcegbfaa
open Go.RowKit

attribute [local go_sem] Oper.semAt_some

set_option maxRecDepth 100000 in
set_option maxHeartbeats 4000000 in
theorem refLoad_one {m : List M.Pg} {v : Value} {w : World} (t : Int) (hP : Pages w v m) (hR : M.Right m) (t0 : 0 ≤ t) (t1 : t ≤ 18446744073709551615) :
    Calls Try.prog 24 #[v, .int .u64 t, .int .i64 1, .int .i64 0] w fun e w' => e = .returned (.tuple #[.int .u64 (loadV m t 1 0), .int .i64 (numErr m t 1 0)]) ∧ Below w.heap.size w w' := by
  obtain ⟨f1, f2⟩ := one_num hR t0 t1
  have HQ := Lib.hid (fun (W : World) (hb : Below w.heap.size w W) => (refRight_any (hP.next hb) hR.ge).mono fun e w' h => (by rw [Right.rb hR] at h; exact h : e = .returned (.bool true) ∧ Below W.heap.size W w'))
  have HA := Lib.hid (fun (W : World) (hb : Below w.heap.size w W) => refAt_any t (hP.next hb) hR t0 t1)
  have w0 : IntKind.u64.wrap t = t := by rw [IntKind.wrap_u64]; omega
  rw [f1, f2]
  cases hc : M.there m (t - t % 256)
  · have hA : atI m t = -1 := by unfold atI; rw [hc]; rfl
    rw [hA] at HA
    obtain ⟨A, cap, hv⟩ := hP.slice
    obtain ⟨nv, hnv⟩ : ∃ n, m.length = n := ⟨_, rfl⟩
    rw [hnv] at hv
    subst hv
    clear hP hR hc hA f1 f2 hnv
    go_enter Try.func24, Try.ntmps24
    go_wp2_with fail
    refine (HQ.out _ (Below.refl _ _)).mono ?_
    rintro e w1 ⟨rfl, hb1⟩
    have HB1 := Lib.hid hb1
    clear hb1
    go_wp2_with fail
    go_loopw [11, 12, 13] (fun x f i wr => i = .int .i64 0 ∧ x = .int .u64 0 ∧ f = .int .u64 1 ∧ Below w.heap.size w wr) (fun _ _ _ _ => 0)
    case atStart => exact ⟨rfl, rfl, rfl, HB1.out⟩
    case round =>
      obtain ⟨rfl, rfl, rfl, hb⟩ := hrel
      have HB := Lib.hid hb
      clear hb
      go_wp2_with fail
      refine (HA.out _ HB.out).mono ?_
      rintro e w2 ⟨rfl, rfl⟩
      go_wp2_with fail
      go_ret2
      exact ⟨rfl, HB.out⟩
  · obtain ⟨hi, he⟩ := (M.there_iff hR.up _).1 hc
    have hA : atI m t = M.low m (t - t % 256) := by unfold atI; rw [hc]; rfl
    rw [hA] at HA
    obtain ⟨i, hie⟩ : ∃ i, M.low m (t - t % 256) = i := ⟨_, rfl⟩
    have hby : (M.byteAt m t) = (m[M.low m (t - t % 256)]).d.data.toList.getD (t % 256).toNat 0 := by
      unfold M.byteAt M.dataAt
      rw [List.getElem?_eq_getElem hi]
      rfl
    have hsz := hR.size hi
    have hpl : m.length ≤ 64 := hR.len
    obtain ⟨b, off, cap, rfl, hPI⟩ : ∃ b off cap, v = .slice (some ⟨b, off, none⟩) m.length cap ∧ PagesIn w b off m := by
      rcases hP with ⟨rfl, _⟩ | ⟨_, b, off, c, e, h⟩
      · simp at hi
      · exact ⟨b, off, c, e, h⟩
    have HPI := Lib.hid hPI
    have cells := (fun (W : World) (hb : Below w.heap.size w W) => (HPI.out.next hb).2 _ hi)
    have G := Lib.hid (fun W => refGrants_any m[M.low m (t - t % 256)] 0 W)
    rw [okBits_zero] at G
    obtain ⟨pa, hpa⟩ : ∃ x, (m[M.low m (t - t % 256)]).a = x := ⟨_, rfl⟩
    obtain ⟨pp, hpp⟩ : ∃ x, (m[M.low m (t - t % 256)]).p = x := ⟨_, rfl⟩
    obtain ⟨pd, hpd⟩ : ∃ x, (m[M.low m (t - t % 256)]).d = x := ⟨_, rfl⟩
    simp only [hpa, hpp, hpd] at cells G hby hsz he
    rw [hie] at HA
    have hil : i < m.length := by rw [← hie]; exact hi
    obtain ⟨q, hq⟩ := Int.eq_ofNat_of_zero_le (show 0 ≤ t % 256 by omega)
    have hq1 : q < pd.size := by omega
    have hq2 : IntKind.u64.wrap (t - pa) = (q : Int) := by rw [IntKind.wrap_u64]; omega
    rw [hq, show ((q : Int)).toNat = q by omega, List.getD_eq_getElem?_getD, List.getElem?_eq_getElem (by simpa using hq1)] at hby
    have HY := Lib.hid (show (M.byteAt m t).toNat = (pd[q]).toNat by rw [hby]; rfl)
    have cells' : ∀ W : World, Below w.heap.size w W → W.cell? ⟨b, off + i * 3, none⟩ = some (.int .u64 pa) ∧ W.cell? ⟨b, off + i * 3 + 1, none⟩ = some (.int .i64 pp) ∧ W.cell? ⟨b, off + i * 3 + 2, none⟩ = some (.string pd) := by
      intro W hb
      have h := cells W hb
      rw [hie] at h
      exact h
    have HC := Lib.hid cells'
    obtain ⟨nv, hnv⟩ : ∃ n, m.length = n := ⟨_, rfl⟩
    rw [hnv] at hil hpl HQ HA ⊢
    have HLT := Lib.hid hPI.1
    rw [HY.out]
    have z1 := (pd[q]).toNat_lt
    obtain ⟨Z, hZ⟩ : ∃ Z, pd[q] = Z := ⟨_, rfl⟩
    rw [hZ] at z1 ⊢
    have z2 : IntKind.u64.wrap (Z.toNat : Int) = (Z.toNat : Int) := by rw [IntKind.wrap_u64]; omega
    have i0 : (0 : Int) ≤ (i : Int) := Int.natCast_nonneg _
    have i1 : (i : Int) < (nv : Int) := by omega
    clear hP hR hc f1 f2 hi he hA hie hby hsz hPI cells cells' hpa hpp hpd HY hnv hq
    go_enter Try.func24, Try.ntmps24
    go_wp2_with fail
    refine (HQ.out _ (Below.refl _ _)).mono ?_
    rintro e w1 ⟨rfl, hb1⟩
    have HB1 := Lib.hid hb1
    clear hb1
    go_wp2_with fail
    go_loopw [11, 12, 13] (fun x f i wr => ((i = .int .i64 0 ∧ x = .int .u64 0 ∧ f = .int .u64 1) ∨ (i = .int .i64 1 ∧ x = .int .u64 (Z.toNat : Int) ∧ f = .int .u64 256)) ∧ Below w.heap.size w wr) (fun _ _ i _ => 2 - (intOf i).toNat)
    case atStart => exact ⟨.inl ⟨rfl, rfl, rfl⟩, HB1.out⟩
    case round =>
      obtain ⟨⟨rfl, rfl, rfl⟩ | ⟨rfl, rfl, rfl⟩, hb⟩ := hrel
      · have HB := Lib.hid hb
        clear hb
        go_wp2_with fail
        refine (HA.out _ HB.out).mono ?_
        rintro e w2 ⟨rfl, rfl⟩
        obtain ⟨e0, e1, e2⟩ := HC.out _ HB.out
        go_wp2_with fail
        refine (G.out _).mono ?_
        rintro e w3 ⟨rfl, hb3⟩
        have HB3 := Lib.hid (bthen HB.out hb3)
        clear hb3 e0 e1 e2
        obtain ⟨e0, -, e2⟩ := HC.out _ HB3.out
        have fb : b < w3.heap.size := by have := HLT.out; have := HB3.out.size; omega
        go_wp2_with fail
        have f0 := fun p => Past.cell fb e0 p
        have f1 := fun p => Past.cell fb e2 p
        refine wp_region_past (by kernel_rfl) (by kernel_rfl) ?_
        repeat (go_big_quiet_step (fail))
        refine wpQuiet_nil ?_
        rintro _ ⟨⟨W1, hb1⟩, rfl⟩
        clear f0 f1 fb e0 e2
        have HB4 := Lib.hid (bthen HB3.out hb1)
        clear hb1
        go_wp2_with fail
        go_roundw
        case rel => exact ⟨.inr ⟨by go_num, rfl, by go_num⟩, HB4.out⟩
        case measure => simp [intOf]
      · have HB := Lib.hid hb
        clear hb
        go_wp2_with fail
        go_ret2
        exact ⟨rfl, HB.out⟩
end Go.Proofs.Ytdlbhkdjcegbfaa
