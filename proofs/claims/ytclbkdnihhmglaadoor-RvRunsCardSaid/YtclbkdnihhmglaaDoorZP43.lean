/- Same of any two memories: the reference's, and package page's. -/
import Derived.Test.YtclbkdnihhmglaaDoorZH
import Derived.Laws.StructEq
import Derived.BigQuiet
import Derived.Deep.QuietTactic
namespace Go.Proofs.YtclbkdnihhmglaaDoor
open Go.RowKit

def eqPg (x y : M.Pg) : Bool := x.a == y.a && (x.p == y.p && x.d == y.d)
theorem ba_beq (x y : ByteArray) : (x == y) = true ↔ x = y := by
  rw [beq_toListBytes, beq_iff_eq, ByteArray.toList_eq, ByteArray.toList_eq]
  constructor
  · intro h
    obtain ⟨x⟩ := x
    obtain ⟨y⟩ := y
    congr 1
    exact Array.toList_inj.1 h
  · rintro rfl; rfl
theorem ba_ne {x y : ByteArray} (h : x ≠ y) : (x == y) = false := by
  cases hc : x == y
  · rfl
  · exact absurd ((ba_beq x y).1 hc) h
theorem eqPg_iff (x y : M.Pg) : eqPg x y = true ↔ x = y := by
  obtain ⟨xa, xp, xd⟩ := x
  obtain ⟨ya, yp, yd⟩ := y
  simp [eqPg, ba_beq]
def sameB (m k : List M.Pg) : Bool := decide (m.length = k.length ∧ ∀ i (h : i < m.length) (h' : i < k.length), eqPg m[i] k[i] = true)
theorem sameB_iff (m k : List M.Pg) : sameB m k = true ↔ m = k := by
  unfold sameB
  rw [decide_eq_true_eq]
  constructor
  · rintro ⟨hl, h⟩
    exact List.ext_getElem hl (fun i h1 h2 => (eqPg_iff _ _).1 (h i h1 h2))
  · rintro rfl
    exact ⟨rfl, fun i h _ => (eqPg_iff _ _).2 rfl⟩
theorem same_no {m k : List M.Pg} {i : Nat} (h : i < m.length) (h' : i < k.length) (hf : m[i] ≠ k[i]) : sameB m k = false := by
  cases hc : sameB m k
  · rfl
  · have := (sameB_iff m k).1 hc
    subst this
    exact absurd rfl hf
theorem same_len {m k : List M.Pg} (h : m.length ≠ k.length) : sameB m k = false := by
  cases hc : sameB m k
  · rfl
  · have := (sameB_iff m k).1 hc
    subst this
    exact absurd rfl h

theorem rsame_far (A A' : Option Addr) (n n' cap cap' : Nat) (w : World) (hne : n ≠ n') : Calls Tryd.prog 12 #[.slice A n cap, .slice A' n' cap'] w fun e w' => e = .returned (.bool false) ∧ Below w.heap.size w w' := by
  have t : ((n : Int) != (n' : Int)) = true := by simp; omega
  go_enter Tryd.func12, Tryd.ntmps12
  go_wp2_with fail
  go_ret
  exact ⟨rfl, Below.refl _ _⟩
theorem rsame_none (A A' : Option Addr) (cap cap' : Nat) (w : World) : Calls Tryd.prog 12 #[.slice A 0 cap, .slice A' 0 cap'] w fun e w' => e = .returned (.bool true) ∧ Below w.heap.size w w' := by
  go_enter Tryd.func12, Tryd.ntmps12
  go_wp2_with fail
  go_loopw [5] (fun i wr => i = .int .i64 0 ∧ Below w.heap.size w wr) (fun _ _ => 0)
  case atStart => exact ⟨rfl, Below.refl _ _⟩
  case round =>
    obtain ⟨rfl, hb⟩ := hrel
    have HB := Lib.hid hb
    clear hb
    go_wp2_with fail
    go_ret
    exact ⟨rfl, HB.out⟩


set_option maxRecDepth 100000 in
set_option maxHeartbeats 4000000 in
theorem rsame_two (b off b' off' n cap cap' : Nat) (m k : List M.Pg) (w : World) (hn : m.length = n) (hn' : k.length = n) (n1 : n ≤ 1000000) (hO : PagesIn w b off m) (hO' : PagesIn w b' off' k) :
    Calls Tryd.prog 12 #[.slice (some ⟨b, off, none⟩) n cap, .slice (some ⟨b', off', none⟩) n cap'] w fun e w' => e = .returned (.bool (sameB m k)) ∧ Below w.heap.size w w' := by
  have HO := Lib.hid hO
  have HO' := Lib.hid hO'
  have HN := Lib.hid hn
  have HN' := Lib.hid hn'
  clear hO hO' hn hn'
  go_enter Tryd.func12, Tryd.ntmps12
  go_wp2_with fail
  go_loopw [5] (fun i wr => ∃ i' : Nat, i' ≤ n ∧ i = .int .i64 i' ∧ (∀ j (h : j < m.length) (h' : j < k.length), j < i' → m[j] = k[j]) ∧ Below w.heap.size w wr) (fun i _ => n - (intOf i).toNat)
  case atStart => exact ⟨0, Nat.zero_le _, rfl, fun j _ _ h => absurd h (Nat.not_lt_zero _), Below.refl _ _⟩
  case round =>
    obtain ⟨i, hk, rfl, hs, hb⟩ := hrel
    have HB := Lib.hid hb
    have HS := Lib.hid hs
    have OR := Lib.hid (HO.out.next hb)
    have OR' := Lib.hid (HO'.out.next hb)
    clear hb hs
    by_cases hlt : i < n
    · have hm : i < m.length := by rw [HN.out]; exact hlt
      have hm' : i < k.length := by rw [HN'.out]; exact hlt
      obtain ⟨e0, e1, e2⟩ := OR.out.2 i hm
      obtain ⟨g0, g1, g2⟩ := OR'.out.2 i hm'
      obtain ⟨⟨xa, xp, xd⟩, hx⟩ : ∃ x, m[i] = x := ⟨_, rfl⟩
      obtain ⟨⟨ya, yp, yd⟩, hy⟩ : ∃ x, k[i] = x := ⟨_, rfl⟩
      rw [hx] at e0 e1 e2
      rw [hy] at g0 g1 g2
      simp only at e0 e1 e2 g0 g1 g2
      have HX := Lib.hid hx
      have HY := Lib.hid hy
      clear hx hy
      have hk0 : (0 : Int) ≤ (i : Int) := Int.natCast_nonneg _
      have hk1 : (i : Int) < (n : Int) := by omega
      by_cases ha : xa = ya
      · by_cases hp : xp = yp
        · by_cases hd : xd = yd
          · subst ha hp hd
            have HSS := Lib.hid (fun (j : Nat) (h : j < m.length) (h' : j < k.length) (hj : j < i + 1) => (show m[j] = k[j] from by
              by_cases e : j = i
              · subst e; rw [HX.out, HY.out]
              · exact HS.out j h h' (by omega)))
            go_wp2_with fail
            go_quiet (fail)
            go_wp2_with fail
            go_roundw
            case rel => exact ⟨i + 1, by omega, by go_num, HSS.out, bthen HB.out ⟨rfl, rfl, rfl, Nat.le_refl _, fun _ _ => rfl⟩⟩
            case measure => simp [intOf]; omega
          · subst ha hp
            have HF := Lib.hid (same_no hm hm' (by rw [HX.out, HY.out]; simpa using hd))
            have t1 : (xd == yd) = false := ba_ne hd
            have t2 : (xd.toList == yd.toList) = false := by rw [← beq_toListBytes]; exact t1
            clear hd
            go_wp2_with fail
            go_quiet (fail)
            go_wp2_with fail
            go_ret
            exact ⟨by rw [HF.out]; rfl, bthen HB.out ⟨rfl, rfl, rfl, Nat.le_refl _, fun _ _ => rfl⟩⟩
        · subst ha
          have HF := Lib.hid (same_no hm hm' (by rw [HX.out, HY.out]; simp [hp]))
          have t1 : (xp == yp) = false := by simpa using hp
          go_wp2_with fail
          go_quiet (fail)
          go_wp2_with fail
          go_ret
          exact ⟨by rw [HF.out]; rfl, bthen HB.out ⟨rfl, rfl, rfl, Nat.le_refl _, fun _ _ => rfl⟩⟩
      · have HF := Lib.hid (same_no hm hm' (by rw [HX.out, HY.out]; simp [ha]))
        have t1 : (xa == ya) = false := by simpa using ha
        go_wp2_with fail
        go_quiet (fail)
        go_wp2_with fail
        go_ret
        exact ⟨by rw [HF.out]; rfl, bthen HB.out ⟨rfl, rfl, rfl, Nat.le_refl _, fun _ _ => rfl⟩⟩
    · have hnlt : decide ((i : Int) < (n : Int)) = false := by simp; omega
      have HT := Lib.hid (show sameB m k = true from (sameB_iff m k).2 (List.ext_getElem (by rw [HN.out, HN'.out]) (fun j h h' => HS.out j h h' (by have := HN.out; omega))))
      go_wp2_with fail
      go_ret
      exact ⟨by rw [HT.out]; rfl, HB.out⟩
theorem rsame_any {v v' : Value} {m k : List M.Pg} {w : World} (hO : Pages w v m) (hO' : Pages w v' k) (n1 : m.length ≤ 1000000) :
    Calls Tryd.prog 12 #[v, v'] w fun e w' => e = .returned (.bool (sameB m k)) ∧ Below w.heap.size w w' := by
  by_cases hl : m.length = k.length
  · rcases hO with ⟨rfl, h⟩ | ⟨h0, b, off, cap, rfl, h⟩
    · rcases hO' with ⟨rfl, h'⟩ | ⟨h0, _⟩
      · obtain ⟨A, cap, rfl⟩ : ∃ A cap, v = .slice A 0 cap := by rcases h with rfl | ⟨a, cap, rfl⟩ <;> exact ⟨_, _, rfl⟩
        obtain ⟨A', cap', rfl⟩ : ∃ A cap, v' = .slice A 0 cap := by rcases h' with rfl | ⟨a, cap, rfl⟩ <;> exact ⟨_, _, rfl⟩
        rw [show sameB [] [] = true from (sameB_iff _ _).2 rfl]
        exact rsame_none A A' cap cap' w
      · simp at hl; omega
    · rcases hO' with ⟨h1, _⟩ | ⟨_, b', off', cap', rfl, h'⟩
      · rw [h1] at hl; simp at hl; rw [hl] at h0; simp at h0
      · rw [← hl]
        exact rsame_two b off b' off' _ cap cap' m k w rfl hl.symm n1 h h'
  · rw [same_len hl]
    obtain ⟨A, cap, rfl⟩ := hO.slice
    obtain ⟨A', cap', rfl⟩ := hO'.slice
    exact rsame_far _ _ _ _ _ _ w hl
end Go.Proofs.YtclbkdnihhmglaaDoor
