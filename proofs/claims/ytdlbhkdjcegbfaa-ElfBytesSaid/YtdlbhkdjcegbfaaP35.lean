/- The reference's At and grants. -/
import Derived.Test.YtdlbhkdjcegbfaaPB
import Derived.Test.YtdlbhkdjcegbfaaP29
namespace Go.Proofs.Ytdlbhkdjcegbfaa
open Go.RowKit

attribute [local go_sem] Oper.semAt_some

/-- the page that has a place -/
def atI (m : List M.Pg) (t : Int) : Int := if M.there m (t - t % 256) = true then (M.low m (t - t % 256) : Int) else -1
theorem atI_hit {m : List M.Pg} (hR : M.Right m) {t : Int} {i : Nat} (hi : i < m.length) (h : m[i].a = t - t % 256) : atI m t = i := by
  obtain ⟨h1, h2⟩ := low_at hR hi
  unfold atI
  rw [← h, h1, h2]
  rfl
theorem atI_miss {m : List M.Pg} {t : Int} (h : ∀ j (hj : j < m.length), m[j].a ≠ t - t % 256) : atI m t = -1 := by
  have : M.there m (t - t % 256) = false := by
    cases hc : M.there m (t - t % 256)
    · rfl
    · unfold M.there at hc
      rw [List.any_eq_true] at hc
      obtain ⟨x, hx, e⟩ := hc
      obtain ⟨j, hj, rfl⟩ := List.mem_iff_getElem.1 hx
      exact absurd (by simpa using e) (h j hj)
  unfold atI
  rw [this]
  rfl

theorem refAt_none (A : Option Addr) (cap : Nat) (t : Int) (w : World) :
    Calls Try.prog 60 #[.slice A 0 cap, .int .u64 t] w fun e w' => e = .returned (.int .i64 (-1)) ∧ w = w' := by
  go_enter Try.func60, Try.ntmps60
  go_wp2_with fail
  go_loop [5] (fun i => i = .int .i64 0) (fun _ => 0)
  case atStart => rfl
  case round =>
    subst hrel
    go_wp2_with fail
    go_ret
    exact ⟨rfl, rfl⟩

set_option maxRecDepth 100000 in
set_option maxHeartbeats 4000000 in
theorem refAt_some (m : List M.Pg) (b off cap n : Nat) (t : Int) (w : World) (hn : m.length = n) (hR : M.Right m) (hP : PagesIn w b off m) (t0 : 0 ≤ t) (t1 : t ≤ 18446744073709551615) :
    Calls Try.prog 60 #[.slice (some ⟨b, off, none⟩) n cap, .int .u64 t] w fun e w' => e = .returned (.int .i64 (atI m t)) ∧ w = w' := by
  have HP := Lib.hid hP
  have HR := Lib.hid hR
  have HN := Lib.hid hn
  have hl : n ≤ 64 := by have := hR.len; omega
  clear hP hn hR
  go_enter Try.func60, Try.ntmps60
  go_wp2_with fail
  go_loop [5] (fun i => ∃ i' : Nat, i = .int .i64 i' ∧ i' ≤ n ∧ (∀ j (h : j < m.length), j < i' → m[j].a ≠ t - t % 256)) (fun i => n - (intOf i).toNat)
  case atStart => exact ⟨0, rfl, by omega, fun j _ h => by omega⟩
  case round =>
    obtain ⟨i, rfl, h1, h2⟩ := hrel
    have H2 := Lib.hid h2
    clear h2
    by_cases hlt : i < n
    · have hm : i < m.length := by rw [HN.out]; omega
      obtain ⟨e0, -, -⟩ := HP.out.2 i hm
      obtain ⟨pa, hpa⟩ : ∃ pa, m[i].a = pa := ⟨_, rfl⟩
      have p0 : 0 ≤ pa := hpa ▸ HR.out.ge _ (List.getElem_mem hm)
      have p1 : pa % 256 = 0 := hpa ▸ HR.out.at_mod hm
      rw [hpa] at e0
      have HPA := Lib.hid hpa
      clear hpa
      have hi0 : (0 : Int) ≤ (i : Int) := Int.natCast_nonneg _
      have hi1 : (i : Int) < (n : Int) := by omega
      by_cases k1 : pa = t - t % 256
      · have HF := Lib.hid (atI_hit HR.out hm (HPA.out.trans k1))
        have c1 : pa ≤ t := by omega
        have c2 : IntKind.u64.wrap (t - pa) = t - pa := by rw [IntKind.wrap_u64]; omega
        have c3 : t - pa < 256 := by omega
        clear k1
        go_wp2_with fail
        go_ret
        exact ⟨by rw [HF.out]; rfl, rfl⟩
      · have HS := Lib.hid (fun (j : Nat) (h : j < m.length) (hj : j < i + 1) => (show m[j].a ≠ t - t % 256 from by
          by_cases e : j = i
          · subst e; rw [HPA.out]; exact k1
          · exact H2.out j h (by omega)))
        by_cases c1 : pa ≤ t
        · have c2 : IntKind.u64.wrap (t - pa) = t - pa := by rw [IntKind.wrap_u64]; omega
          have c3 : ¬ (t - pa < 256) := by omega
          clear k1
          go_wp2_with fail
          go_round
          case rel => exact ⟨i + 1, by go_num, by omega, HS.out⟩
          case measure => simp [intOf]; omega
        · clear k1
          go_wp2_with fail
          go_round
          case rel => exact ⟨i + 1, by go_num, by omega, HS.out⟩
          case measure => simp [intOf]; omega
    · have hnlt : decide ((i : Int) < (n : Int)) = false := by simp; omega
      have HT := Lib.hid (atI_miss (m := m) (t := t) fun j h => H2.out j h (by have := HN.out; omega))
      go_wp2_with fail
      go_ret
      exact ⟨by rw [HT.out]; rfl, rfl⟩
theorem refAt_any {m : List M.Pg} {v : Value} {w : World} (t : Int) (hP : Pages w v m) (hR : M.Right m) (t0 : 0 ≤ t) (t1 : t ≤ 18446744073709551615) :
    Calls Try.prog 60 #[v, .int .u64 t] w fun e w' => e = .returned (.int .i64 (atI m t)) ∧ w = w' := by
  rcases hP with ⟨rfl, h⟩ | ⟨_, b, off, cap, rfl, h⟩
  · have e : atI [] t = -1 := by simp [atI, M.there]
    rw [e]
    rcases h with rfl | ⟨a, cap, rfl⟩
    · exact refAt_none _ _ t w
    · exact refAt_none _ _ t w
  · exact refAt_some m b off cap _ t w rfl hR h t0 t1
theorem refGrants_any (x : M.Pg) (perm : Int) (w : World) :
    Calls Try.prog 61 #[.agg #[.int .u64 x.a, .int .i64 x.p, .string x.d], .int .i64 perm] w fun e w' => e = .returned (.bool (okBits x.p perm)) ∧ Below w.heap.size w w' := by
  go_enter Try.func61, Try.ntmps61
  go_wp2_with fail
  go_ret
  exact ⟨rfl, balloc (Below.refl _ _) _⟩
end Go.Proofs.Ytdlbhkdjcegbfaa
