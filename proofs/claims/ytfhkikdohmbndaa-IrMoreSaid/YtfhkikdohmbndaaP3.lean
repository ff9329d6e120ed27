/- The search by halves among pages, and find. -/
import Derived.Test.YtfhkikdohmbndaaP2
namespace Go.Proofs.Ytfhkikdohmbndaa
open Go.RowKit

theorem cmpI_lt {x y : Int} (h : x < y) : cmpI x y = -1 := by simp [cmpI, h]
theorem cmpI_ge {x y : Int} (h : ¬ x < y) : 0 ≤ cmpI x y := by simp only [cmpI, if_neg h]; split <;> omega
theorem cmpI_eq {x y : Int} : (cmpI x y == 0) = (x == y) := by rw [Bool.eq_iff_iff]; simp [cmpI]; split <;> (try split) <;> simp <;> omega

set_option maxHeartbeats 1000000 in
theorem search_none (A : Option Addr) (cap : Nat) (x : Int) (w : World) :
    Calls Try.prog 146 #[.slice A 0 cap, .int .u64 x, .func (.func 147) #[] #[]] w fun e w' => e = .returned (.tuple #[.int .i64 0, .bool false]) ∧ Below w.heap.size w w' := by
  go_enter Try.func146, Try.ntmps146
  go_wp2_with fail
  go_loop [9, 10] (fun i j => i = .int .i64 0 ∧ j = .int .i64 0) (fun _ _ => 0)
  case atStart => exact ⟨rfl, rfl⟩
  case round =>
    obtain ⟨rfl, rfl⟩ := hrel
    go_wp2_with fail
    go_ret2
    exact ⟨rfl, Below.refl _ _⟩

set_option maxHeartbeats 2000000 in
theorem search_some (m : List M.Pg) (b off cap : Nat) (x : Int) (w : World) (hl : m.length ≤ 1000000) (hu : m.Pairwise (fun x y => x.a < y.a)) (hP : PagesIn w b off m) :
    Calls Try.prog 146 #[.slice (some ⟨b, off, none⟩) m.length cap, .int .u64 x, .func (.func 147) #[] #[]] w fun e w' => e = .returned (.tuple #[.int .i64 (M.low m x), .bool (M.there m x)]) ∧ Below w.heap.size w w' := by
  have HL := Lib.hid (fun i hi => M.lt_low hu x (i := i) hi)
  have HT := Lib.hid (M.there_iff hu x)
  have HP := Lib.hid hP
  have HB0 := Lib.hid hP.1
  have hlow := M.low_le m x
  obtain ⟨n, hn⟩ : ∃ n, m.length = n := ⟨_, rfl⟩
  obtain ⟨t, ht⟩ : ∃ t, M.low m x = t := ⟨_, rfl⟩
  rw [hn] at hl
  rw [ht, hn] at hlow
  have HN := Lib.hid hn
  have HTT := Lib.hid ht
  rw [hn, ht]
  clear hu hP hn ht
  go_enter Try.func146, Try.ntmps146
  go_wp2_with fail
  go_loopw [9, 10] (fun i j wr => ∃ i' j' : Nat, i = .int .i64 i' ∧ j = .int .i64 j' ∧ i' ≤ t ∧ t ≤ j' ∧ j' ≤ n ∧ Below w.heap.size w wr) (fun i j _ => (intOf j).toNat - (intOf i).toNat)
  case atStart => exact ⟨0, n, rfl, rfl, by omega, by omega, by omega, Below.refl _ _⟩
  case round =>
    obtain ⟨i, j, rfl, rfl, h1, h2, h3, hb⟩ := hrel
    by_cases hij : i < j
    · have hm : (i + j) / 2 < m.length := by rw [HN.out]; omega
      obtain ⟨e0, e1, e2⟩ := (HP.out.next hb).2 ((i + j) / 2) hm
      have HK := Lib.hid (HL.out _ hm)
      obtain ⟨pa, hpa⟩ : ∃ pa, m[(i + j) / 2].a = pa := ⟨_, rfl⟩
      obtain ⟨pp, hpp⟩ : ∃ pa, m[(i + j) / 2].p = pa := ⟨_, rfl⟩
      obtain ⟨pd, hpd⟩ : ∃ pa, m[(i + j) / 2].d = pa := ⟨_, rfl⟩
      rw [hpa] at e0 HK
      rw [hpp] at e1
      rw [hpd] at e2
      clear hpa hpp hpd
      have HB := Lib.hid hb
      clear hb hm
      have hs : (((i : Int) + (j : Int)).toNat : Nat) >>> 1 = (i + j) / 2 := by
        rw [Nat.shiftRight_eq_div_pow]; omega
      have hcast : ((i : Int) + (j : Int)) / 2 = (((i + j) / 2 : Nat) : Int) := by omega
      have HC := Lib.hid hcast
      clear hcast
      go_wp2_with fail
      refine (cmpp_any _ _ _ _ _).mono ?_
      rintro e w1 ⟨rfl, hb1⟩
      have HB1 := Lib.hid hb1
      clear hb1
      by_cases hx : pa < x
      · rw [cmpI_lt hx]
        have hk := HK.out.1 hx
        rw [HTT.out] at hk
        clear hx
        go_wp2_with fail
        go_roundw
        case rel => exact ⟨(i + j) / 2 + 1, j, by rw [HC.out]; go_num, rfl, by omega, h2, h3, bthen HB.out HB1.out⟩
        case measure => simp [intOf]; omega
      · have hg := cmpI_ge hx
        obtain ⟨c, hc⟩ : ∃ c, cmpI pa x = c := ⟨_, rfl⟩
        rw [hc] at hg ⊢
        have hk : ¬ ((i + j) / 2 < M.low m x) := fun h => hx (HK.out.2 h)
        rw [HTT.out] at hk
        clear hx hc
        have hcz : decide (c < 0) = false := by simp; omega
        go_wp2_with fail
        go_roundw
        case rel => exact ⟨i, (i + j) / 2, rfl, by rw [HC.out], h1, by omega, by omega, bthen HB.out HB1.out⟩
        case measure => simp [intOf]; omega
    · obtain rfl : i = t := by omega
      by_cases hin : i < n
      · have hm : i < m.length := by rw [HN.out]; omega
        obtain ⟨e0, e1, e2⟩ := (HP.out.next hb).2 i hm
        have HTH := Lib.hid (show M.there m x = (m[i].a == x) by
          rw [Bool.eq_iff_iff, HT.out]
          have h := HTT.out
          constructor
          · rintro ⟨h1, h2⟩
            simp only [h] at h2
            simp [h2]
          · intro h3
            simp at h3
            exact ⟨by rw [h]; exact hm, by simp only [h]; exact h3⟩)
        obtain ⟨pa, hpa⟩ : ∃ pa, m[i].a = pa := ⟨_, rfl⟩
        obtain ⟨pp, hpp⟩ : ∃ pa, m[i].p = pa := ⟨_, rfl⟩
        obtain ⟨pd, hpd⟩ : ∃ pa, m[i].d = pa := ⟨_, rfl⟩
        rw [hpa] at e0 HTH
        rw [hpp] at e1
        rw [hpd] at e2
        clear hpa hpp hpd
        have HB := Lib.hid hb
        clear hb hm
        have HE := Lib.hid (cmpI_eq (x := pa) (y := x))
        obtain ⟨c, hc⟩ : ∃ c, cmpI pa x = c := ⟨_, rfl⟩
        have HCP := Lib.hid (cmpp_any pa pp pd x wr)
        rw [hc] at HE HCP
        clear hc
        go_wp2_with fail
        refine HCP.out.mono ?_
        rintro e w1 ⟨rfl, hb1⟩
        have HB1 := Lib.hid hb1
        clear hb1
        go_wp2_with fail
        go_ret2
        exact ⟨by rw [HTH.out, ← HE.out]; rfl, bthen HB.out HB1.out⟩
      · have hth : M.there m x = false := by
          cases h : M.there m x
          · rfl
          · obtain ⟨h1, _⟩ := HT.out.1 h
            rw [HTT.out, HN.out] at h1
            omega
        have HTH := Lib.hid hth
        have HB := Lib.hid hb
        clear hth hb
        have hnlt : decide ((i : Int) < (n : Int)) = false := by simp; omega
        go_wp2_with fail
        go_ret2
        exact ⟨by rw [HTH.out]; rfl, HB.out⟩

/-- where the page at x stands, or would stand, and whether it is there -/
theorem find_any {m : List M.Pg} {v : Value} (x : Int) {w : World} (hP : Pages w v m) (hl : m.length ≤ 1000000) (hu : m.Pairwise (fun x y => x.a < y.a)) :
    Calls Try.prog 109 #[v, .int .u64 x] w fun e w' => e = .returned (.tuple #[.int .i64 (M.low m x), .bool (M.there m x)]) ∧ Below w.heap.size w w' := by
  have HC := Lib.hid (show Calls Try.prog 146 #[v, .int .u64 x, .func (.func 147) #[] #[]] w fun e w' => e = .returned (.tuple #[.int .i64 (M.low m x), .bool (M.there m x)]) ∧ Below w.heap.size w w' by
    rcases hP with ⟨rfl, rfl | ⟨a, cap, rfl⟩⟩ | ⟨_, b, off, cap, rfl, h⟩
    · exact search_none _ _ x w
    · exact search_none _ _ x w
    · exact search_some m b off cap x w hl hu h)
  clear hP hl hu
  obtain ⟨t, ht⟩ : ∃ t, M.low m x = t := ⟨_, rfl⟩
  obtain ⟨q, hq⟩ : ∃ q, M.there m x = q := ⟨_, rfl⟩
  rw [ht, hq] at HC ⊢
  clear ht hq
  go_enter Try.func109, Try.ntmps109
  go_wp2_with fail
  refine HC.out.mono ?_
  rintro e w1 ⟨rfl, hb1⟩
  have HB1 := Lib.hid hb1
  clear hb1
  go_wp2_with fail
  go_ret2
  exact ⟨rfl, HB1.out⟩
end Go.Proofs.Ytfhkikdohmbndaa
