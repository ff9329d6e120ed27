/- The reference's Right. -/
import Derived.Test.YtdlbhkdjcegbfaaPA
import Derived.Test.YtdlbhkdjcegbfaaQ
namespace Go.Proofs.Ytdlbhkdjcegbfaa
open Go.RowKit

attribute [local go_sem] Oper.semAt_some

theorem refRight_long (A : Option Addr) (n cap : Nat) (w : World) (hn : 64 < n) :
    Calls Try.prog 59 #[.slice A n cap] w fun e w' => e = .returned (.bool false) ∧ Below w.heap.size w w' := by
  have t1 : decide ((64 : Int) < (n : Int)) = true := by simp; omega
  go_enter Try.func59, Try.ntmps59
  go_wp2_with fail
  go_ret
  exact ⟨rfl, Below.refl _ _⟩
theorem refRight_none (A : Option Addr) (cap : Nat) (w : World) :
    Calls Try.prog 59 #[.slice A 0 cap] w fun e w' => e = .returned (.bool true) ∧ Below w.heap.size w w' := by
  go_enter Try.func59, Try.ntmps59
  go_wp2_with fail
  go_loop [3] (fun i => i = .int .i64 0) (fun _ => 0)
  case atStart => rfl
  case round =>
    subst hrel
    go_wp2_with fail
    go_ret
    exact ⟨rfl, Below.refl _ _⟩

set_option maxRecDepth 100000 in
set_option maxHeartbeats 4000000 in
theorem refRight_some (m : List M.Pg) (b off cap n : Nat) (w : World) (hn : m.length = n) (hl : n ≤ 64) (h0 : ∀ x ∈ m, 0 ≤ x.a) (hP : PagesIn w b off m) :
    Calls Try.prog 59 #[.slice (some ⟨b, off, none⟩) n cap] w fun e w' => e = .returned (.bool (rightB m)) ∧ Below w.heap.size w w' := by
  have HP := Lib.hid hP
  have H0 := Lib.hid h0
  have HN := Lib.hid hn
  have HL := Lib.hid hl
  have hd64 : decide ((64 : Int) < (n : Int)) = false := by simp; omega
  clear hP h0 hn
  go_enter Try.func59, Try.ntmps59
  go_wp2_with fail
  clear hd64
  go_loopw [3] (fun i wr => ∃ i' : Nat, i = .int .i64 i' ∧ i' ≤ n ∧ (∀ j (h : j < m.length), j < i' → okAt m j h = true) ∧ Below w.heap.size w wr) (fun i _ => n - (intOf i).toNat)
  case atStart => exact ⟨0, rfl, by omega, fun j _ h => by omega, Below.refl _ _⟩
  case round =>
    obtain ⟨i, rfl, h1, h2, hb⟩ := hrel
    have H2 := Lib.hid h2
    have HB := Lib.hid hb
    clear h2 hb
    by_cases hlt : i < n
    · have hm : i < m.length := by rw [HN.out]; omega
      obtain ⟨e0, e1, e2⟩ := (HP.out.next HB.out).2 i hm
      obtain ⟨pa, hpa⟩ : ∃ pa, m[i].a = pa := ⟨_, rfl⟩
      obtain ⟨pp, hpp⟩ : ∃ pa, m[i].p = pa := ⟨_, rfl⟩
      obtain ⟨pd, hpd⟩ : ∃ pa, m[i].d = pa := ⟨_, rfl⟩
      have HO := Lib.hid (show M.okPg m[i] = M.okPg ⟨pa, pp, pd⟩ by rw [← hpa, ← hpp, ← hpd])
      rw [hpa] at e0
      rw [hpp] at e1
      rw [hpd] at e2
      have p0 : 0 ≤ pa := hpa ▸ H0.out _ (List.getElem_mem hm)
      have HPA := Lib.hid hpa
      clear hpa hpp hpd
      have hi0 : (0 : Int) ≤ (i : Int) := Int.natCast_nonneg _
      have hi1 : (i : Int) < (n : Int) := by omega
      by_cases k1 : pa % 256 = 0
      · have t1 : (pa % 256 != 0) = false := by simp [k1]
        by_cases k2 : pp < 0
        · have HF := Lib.hid (right_no (m := m) hm (by unfold okAt; rw [HO.out, show M.okPg ⟨pa, pp, pd⟩ = false by simp [M.okPg, M.okPerm]; intros; omega]; rfl))
          go_wp2_with fail
          go_ret
          exact ⟨by rw [HF.out]; rfl, HB.out⟩
        · by_cases k3 : 7 < pp
          · have HF := Lib.hid (right_no (m := m) hm (by unfold okAt; rw [HO.out, show M.okPg ⟨pa, pp, pd⟩ = false by simp [M.okPg, M.okPerm]; intros; omega]; rfl))
            go_wp2_with fail
            go_ret
            exact ⟨by rw [HF.out]; rfl, HB.out⟩
          · by_cases k4 : (pd.size : Int) = 256
            · have t4 : ((pd.size : Int) != 256) = false := by simp [k4]
              have HG := Lib.hid (show M.okPg ⟨pa, pp, pd⟩ = true by simp [M.okPg, M.okPerm, k1]; omega)
              by_cases hz : i = 0
              · have HS := Lib.hid (show okAt m i hm = true by unfold okAt; rw [HO.out, HG.out]; simp [hz])
                have hd0 : decide (0 < i) = false := by simp; omega
                clear hz
                go_wp2_with fail
                have fb := (HP.out.next HB.out).1
                refine wp_region_past (by kernel_rfl) (by kernel_rfl) ?_
                repeat (go_big_quiet_step (fail))
                refine wpQuiet_nil ?_
                rintro _ ⟨⟨W1, hb1⟩, rfl⟩
                clear fb
                have HB1 := Lib.hid (bthen HB.out hb1)
                clear hb1
                go_wp2_with fail
                go_roundw
                case rel => exact ⟨i + 1, by go_num, by omega, fun j h hj => by
                  by_cases e : j = i
                  · subst e; exact HS.out
                  · exact H2.out j h (by omega), HB1.out⟩
                case measure => simp [intOf]; omega
              · have hd0 : decide (0 < i) = true := by simp; omega
                have hm1 : i - 1 < m.length := by omega
                have g0 := ((HP.out.next HB.out).2 (i - 1) hm1).1
                obtain ⟨qa, hqa⟩ : ∃ qa, m[i - 1].a = qa := ⟨_, rfl⟩
                rw [hqa] at g0
                have i1 : IntKind.i64.wrap ((i : Int) - 1) = (i : Int) - 1 := by rw [IntKind.wrap_i64]; have := HL.out; omega
                have i2 : (0 : Int) ≤ (i : Int) - 1 := by omega
                have i3 : (i : Int) - 1 < (n : Int) := by omega
                have i4 : ((i : Int) - 1).toNat = i - 1 := by omega
                by_cases hlt2 : qa < pa
                · have hd2 : decide (pa ≤ qa) = false := by simp; omega
                  have HS := Lib.hid (show okAt m i hm = true by unfold okAt; rw [HO.out, HG.out, hqa, HPA.out]; simp [hlt2])
                  clear hz hqa hlt2
                  go_wp2_with fail
                  have fb := (HP.out.next HB.out).1
                  have f0 := fun p => Past.cell fb e0 p
                  have f1 := fun p => Past.cell fb g0 p
                  refine wp_region_past (by kernel_rfl) (by kernel_rfl) ?_
                  repeat (go_big_quiet_step (fail))
                  refine wpQuiet_nil ?_
                  rintro _ ⟨⟨W1, hb1⟩, rfl⟩
                  clear f0 f1 fb
                  have HB1 := Lib.hid (bthen HB.out hb1)
                  clear hb1
                  go_wp2_with fail
                  go_roundw
                  case rel => exact ⟨i + 1, by go_num, by omega, fun j h hj => by
                    by_cases e : j = i
                    · subst e; exact HS.out
                    · exact H2.out j h (by omega), HB1.out⟩
                  case measure => simp [intOf]; omega
                · have hd2 : decide (pa ≤ qa) = true := by simp; omega
                  have HF := Lib.hid (right_no (m := m) hm (by unfold okAt; rw [HO.out, HG.out, hqa, HPA.out]; simp [hz]; omega))
                  clear hz hqa hlt2
                  go_wp2_with fail
                  have fb := (HP.out.next HB.out).1
                  have f0 := fun p => Past.cell fb e0 p
                  have f1 := fun p => Past.cell fb g0 p
                  refine wp_region_past (by kernel_rfl) (by kernel_rfl) ?_
                  repeat (go_big_quiet_step (fail))
                  refine wpQuiet_nil ?_
                  rintro _ ⟨⟨W1, hb1⟩, rfl⟩
                  clear f0 f1 fb
                  have HB1 := Lib.hid (bthen HB.out hb1)
                  clear hb1
                  go_wp2_with fail
                  go_ret
                  exact ⟨by rw [HF.out]; rfl, HB1.out⟩
            · have t4 : ((pd.size : Int) != 256) = true := by simpa using k4
              have HF := Lib.hid (right_no (m := m) hm (by unfold okAt; rw [HO.out, show M.okPg ⟨pa, pp, pd⟩ = false by simp [M.okPg, M.okPerm]; intros; omega]; rfl))
              go_wp2_with fail
              go_ret
              exact ⟨by rw [HF.out]; rfl, HB.out⟩
      · have t1 : (pa % 256 != 0) = true := by simpa using k1
        have HF := Lib.hid (right_no (m := m) hm (by unfold okAt; rw [HO.out, show M.okPg ⟨pa, pp, pd⟩ = false by simp [M.okPg, M.okPerm]; intros; omega]; rfl))
        go_wp2_with fail
        go_ret
        exact ⟨by rw [HF.out]; rfl, HB.out⟩
    · have hnlt : decide ((i : Int) < (n : Int)) = false := by simp; omega
      have HT := Lib.hid (show rightB m = true by
        unfold rightB
        rw [decide_eq_true_eq]
        exact ⟨by rw [HN.out]; exact HL.out, fun j h => H2.out j h (by have := HN.out; omega)⟩)
      go_wp2_with fail
      go_ret
      exact ⟨by rw [HT.out]; rfl, HB.out⟩
theorem refRight_any {m : List M.Pg} {v : Value} {w : World} (hP : Pages w v m) (h0 : ∀ x ∈ m, 0 ≤ x.a) :
    Calls Try.prog 59 #[v] w fun e w' => e = .returned (.bool (rightB m)) ∧ Below w.heap.size w w' := by
  by_cases hl : m.length ≤ 64
  · rcases hP with ⟨rfl, h⟩ | ⟨_, b, off, cap, rfl, h⟩
    · rw [right_nil]
      rcases h with rfl | ⟨a, cap, rfl⟩
      · exact refRight_none _ _ w
      · exact refRight_none _ _ w
    · exact refRight_some m b off cap _ w rfl hl h0 h
  · have hf : rightB m = false := by unfold rightB; rw [decide_eq_false_iff_not]; exact fun h => hl h.1
    obtain ⟨A, cap, rfl⟩ := hP.slice
    rw [hf]
    exact refRight_long A _ cap w (by omega)
end Go.Proofs.Ytdlbhkdjcegbfaa
