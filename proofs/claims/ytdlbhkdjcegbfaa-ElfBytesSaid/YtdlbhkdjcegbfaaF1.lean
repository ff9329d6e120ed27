/- Package elf: segments as they lie, and which may be. -/
import Derived.Test.YtdlbhkdjcegbfaaP2
import Derived.IntWalk
namespace Go.Proofs.Ytdlbhkdjcegbfaa
open Go.RowKit

/-- a segment: where it lies, what may be done, its bytes, its size -/
structure Sg where
  a : Int
  p : Int
  d : ByteArray
  z : Int
def sgV (s : Sg) : Value := .agg #[.int .u64 s.a, .int .i64 s.p, .string s.d, .int .u64 s.z]
/-- segments that lie from a place on -/
def SegsIn (W : World) (b off : Nat) (l : List Sg) : Prop :=
  b < W.heap.size ∧ ∀ (i : Nat) (h : i < l.length), W.cell? ⟨b, off + i * 4, none⟩ = some (.int .u64 l[i].a) ∧ W.cell? ⟨b, off + i * 4 + 1, none⟩ = some (.int .i64 l[i].p) ∧ W.cell? ⟨b, off + i * 4 + 2, none⟩ = some (.string l[i].d) ∧ W.cell? ⟨b, off + i * 4 + 3, none⟩ = some (.int .u64 l[i].z)
theorem SegsIn.next {W W' : World} {b off : Nat} {l : List Sg} (h : SegsIn W b off l) (hb : Below W.heap.size W W') : SegsIn W' b off l := by
  refine ⟨Nat.lt_of_lt_of_le h.1 hb.size, fun i hi => ?_⟩
  obtain ⟨h0, h1, h2, h3⟩ := h.2 i hi
  have hc := (bcell hb).1
  exact ⟨(hc _ _ h.1).trans h0, (hc _ _ h.1).trans h1, (hc _ _ h.1).trans h2, (hc _ _ h.1).trans h3⟩
/-- a slice of segments -/
def Segs (W : World) (v : Value) (l : List Sg) : Prop :=
  (l = [] ∧ (v = .slice none 0 0 ∨ ∃ a cap, v = .slice (some a) 0 cap)) ∨ (0 < l.length ∧ ∃ b off cap, v = .slice (some ⟨b, off, none⟩) l.length cap ∧ SegsIn W b off l)
theorem Segs.next {W W' : World} {v : Value} {l : List Sg} (h : Segs W v l) (hb : Below W.heap.size W W') : Segs W' v l := by
  rcases h with h | ⟨h1, b, off, cap, rfl, h2⟩
  · exact .inl h
  · exact .inr ⟨h1, b, off, cap, rfl, h2.next hb⟩
theorem Segs.slice {W : World} {v : Value} {l : List Sg} (h : Segs W v l) : ∃ A cap, v = .slice A l.length cap := by
  rcases h with ⟨rfl, rfl | ⟨a, cap, rfl⟩⟩ | ⟨_, b, off, cap, rfl, _⟩
  · exact ⟨none, 0, rfl⟩
  · exact ⟨some a, cap, rfl⟩
  · exact ⟨_, cap, rfl⟩
theorem Segs.at_ {W : World} {A : Option Addr} {n cap : Nat} {l : List Sg} (h : Segs W (.slice A n cap) l) {i : Nat} (hi : i < l.length) :
    ∃ b off, A = some ⟨b, off, none⟩ ∧ W.cell? ⟨b, off + i * 4, none⟩ = some (.int .u64 l[i].a) ∧ W.cell? ⟨b, off + i * 4 + 1, none⟩ = some (.int .i64 l[i].p) ∧ W.cell? ⟨b, off + i * 4 + 2, none⟩ = some (.string l[i].d) ∧ W.cell? ⟨b, off + i * 4 + 3, none⟩ = some (.int .u64 l[i].z) := by
  rcases h with ⟨rfl, _⟩ | ⟨_, b, off, c, e, h2⟩
  · simp at hi
  · exact ⟨b, off, (Value.slice.inj e).1, h2.2 i hi⟩
theorem Segs.len {W : World} {A : Option Addr} {n cap : Nat} {l : List Sg} (h : Segs W (.slice A n cap) l) : l.length = n := by
  obtain ⟨A', c', e⟩ := h.slice
  exact (Value.slice.inj e).2.1.symm
/-- what is so of a segment's numbers, whatever it is -/
def SgIn (s : Sg) : Prop := (0 ≤ s.a ∧ s.a ≤ 18446744073709551615) ∧ (-9223372036854775808 ≤ s.p ∧ s.p ≤ 9223372036854775807) ∧ (0 ≤ s.z ∧ s.z ≤ 18446744073709551615) ∧ s.d.size ≤ 9223372036854775807

theorem drewN_below (w : World) (n : Nat) : Below w.heap.size w (w.drewN n) := ⟨rfl, rfl, rfl, Nat.le_refl _, fun _ _ => rfl⟩
/-- the next multiple of 256 -/
def upI (v : Int) : Int := (v + 255) % 18446744073709551616 / 256 * 256
theorem up_any (v : Int) (_h0 : 0 ≤ v) (_h1 : v ≤ 18446744073709551615) (w : World) : Calls Try.prog 102 #[.int .u64 v] w fun e w' => e = .returned (.int .u64 (upI v)) ∧ w = w' := by
  obtain ⟨x, hx⟩ : ∃ x, IntKind.u64.wrap (IntKind.u64.wrap (v + 256) - 1) = x := ⟨_, rfl⟩
  have hx2 : x = (v + 255) % 18446744073709551616 := by rw [← hx, IntKind.wrap_u64, IntKind.wrap_u64]; omega
  have x0 : 0 ≤ x ∧ x < 18446744073709551616 := by omega
  have t1 : Int.tdiv x 256 = x / 256 := Int.tdiv_eq_ediv_of_nonneg x0.1
  have t2 : IntKind.u64.wrap (x / 256) = x / 256 := by rw [IntKind.wrap_u64]; omega
  have t3 : IntKind.u64.wrap (x / 256 * 256) = x / 256 * 256 := by rw [IntKind.wrap_u64]; omega
  have HE := Lib.hid (show upI v = x / 256 * 256 by unfold upI; rw [hx2])
  clear x0 hx2
  go_enter Try.func102, Try.ntmps102
  go_wp2_with fail
  go_ret
  exact ⟨ret_int (by rw [HE.out]), rfl⟩
theorem upI_in (v : Int) (h0 : 0 ≤ v) (h1 : v ≤ 18446744073709551360) : v ≤ upI v ∧ upI v ≤ v + 255 ∧ upI v % 256 = 0 := by unfold upI; omega
/-- may that be done with a segment? -/
def permB (p : Int) : Bool := decide (1 ≤ p ∧ p ≤ 7 ∧ p % 4 ≠ 3)
theorem eperm_any (p : Int) (w : World) : Calls Try.prog 172 #[.int .i64 p] w fun e w' => e = .returned (.bool (permB p)) ∧ w = w' := by
  by_cases h1 : 1 ≤ p
  · by_cases h7 : p ≤ 7
    · have : p = 1 ∨ p = 2 ∨ p = 3 ∨ p = 4 ∨ p = 5 ∨ p = 6 ∨ p = 7 := by omega
      rcases this with rfl | rfl | rfl | rfl | rfl | rfl | rfl
      all_goals
        clear h1 h7
        go_enter Try.func172, Try.ntmps172
        go_wp2
        go_ret
        exact ⟨ret_bool (by decide +kernel), rfl⟩
    · have t1 : decide (1 ≤ p) = true := decide_eq_true h1
      have t7 : decide (p ≤ 7) = false := decide_eq_false h7
      have HE := Lib.hid (show permB p = false by unfold permB; exact decide_eq_false (by omega))
      clear h1 h7
      go_enter Try.func172, Try.ntmps172
      go_wp2
      go_ret
      exact ⟨ret_bool (by rw [HE.out]), rfl⟩
  · have t1 : decide (1 ≤ p) = false := decide_eq_false h1
    have HE := Lib.hid (show permB p = false by unfold permB; exact decide_eq_false (by omega))
    clear h1
    go_enter Try.func172, Try.ntmps172
    go_wp2
    go_ret
    exact ⟨ret_bool (by rw [HE.out]), rfl⟩
/-- may a segment be, by itself? -/
def segB (s : Sg) : Bool := decide (s.a % 256 = 0 ∧ s.a < 1099511627776) && (permB s.p && decide (1 ≤ s.z ∧ s.z ≤ 16384 ∧ (s.d.size : Int) ≤ s.z))
set_option maxHeartbeats 2000000 in
theorem eseg_any (s : Sg) (hs : SgIn s) (w : World) : Calls Try.prog 140 #[sgV s] w fun e w' => e = .returned (.bool (segB s)) ∧ Below w.heap.size w w' := by
  obtain ⟨a, p, d, z⟩ := s
  obtain ⟨⟨a0, a1⟩, ⟨p0, p1⟩, ⟨z0, z1⟩, dz⟩ := hs
  simp only at a0 a1 p0 p1 z0 z1 dz
  have hm : a.tmod 256 = a % 256 := Int.tmod_eq_emod_of_nonneg a0
  have hdw : IntKind.u64.wrap (d.size : Int) = d.size := by rw [IntKind.wrap_u64]; omega
  have HP := Lib.hid (fun W => eperm_any p W)
  have G : ∀ c : Bool, segB ⟨a, p, d, z⟩ = c → (Calls Try.prog 140 #[sgV ⟨a, p, d, z⟩] w fun e w' => e = .returned (.bool c) ∧ Below w.heap.size w w') := by
    intro c hc
    unfold segB at hc
    simp only at hc
    unfold sgV
    simp only
    by_cases h1 : a % 256 = 0
    · have t1 : (a % 256 == 0) = true := by simpa using h1
      by_cases h2 : a < 1099511627776
      · have t2 : decide (a < 1099511627776) = true := decide_eq_true h2
        cases h3 : permB p with
        | false =>
          have hcf : c = false := by rw [← hc, h3]; simp
          subst hcf
          rw [h3] at HP
          clear hc h1 h2 h3
          go_enter Try.func140, Try.ntmps140
          go_wp2_with (go_at_call 172; refine (HP.out _).mono ?_; rintro e w' ⟨rfl, rfl⟩)
          go_ret
          exact ⟨rfl, balloc (Below.refl _ _) _⟩
        | true =>
          rw [h3] at HP
          by_cases h4 : 1 ≤ z
          · have t4 : decide (1 ≤ z) = true := decide_eq_true h4
            by_cases h5 : z ≤ 16384
            · have t5 : decide (z ≤ 16384) = true := decide_eq_true h5
              obtain ⟨q, hq⟩ : ∃ q, decide ((d.size : Int) ≤ z) = q := ⟨_, rfl⟩
              have hcq : c = q := by
                rw [← hc, h3, ← hq]
                simp [h1, h2, h4, h5]
              subst hcq
              have HQ := Lib.hid hq
              clear hc h1 h2 h3 h4 h5
              go_enter Try.func140, Try.ntmps140
              go_wp2_with (go_at_call 172; refine (HP.out _).mono ?_; rintro e w' ⟨rfl, rfl⟩)
              go_ret
              exact ⟨rfl, balloc (Below.refl _ _) _⟩
            · have t5 : decide (z ≤ 16384) = false := decide_eq_false h5
              have hcf : c = false := by rw [← hc]; simp [h5]
              subst hcf
              clear hc h1 h2 h3 h4 h5
              go_enter Try.func140, Try.ntmps140
              go_wp2_with (go_at_call 172; refine (HP.out _).mono ?_; rintro e w' ⟨rfl, rfl⟩)
              go_ret
              exact ⟨rfl, balloc (Below.refl _ _) _⟩
          · have t4 : decide (1 ≤ z) = false := decide_eq_false h4
            have hcf : c = false := by rw [← hc]; simp [h4]
            subst hcf
            clear hc h1 h2 h3 h4
            go_enter Try.func140, Try.ntmps140
            go_wp2_with (go_at_call 172; refine (HP.out _).mono ?_; rintro e w' ⟨rfl, rfl⟩)
            go_ret
            exact ⟨rfl, balloc (Below.refl _ _) _⟩
      · have t2 : decide (a < 1099511627776) = false := decide_eq_false h2
        have hcf : c = false := by rw [← hc]; simp [h2]
        subst hcf
        clear hc h1 h2
        go_enter Try.func140, Try.ntmps140
        go_wp2_with fail
        go_ret
        exact ⟨rfl, balloc (Below.refl _ _) _⟩
    · have t1 : (a % 256 == 0) = false := by simpa using h1
      have hcf : c = false := by rw [← hc]; simp [h1]
      subst hcf
      clear hc h1
      go_enter Try.func140, Try.ntmps140
      go_wp2_with fail
      go_ret
      exact ⟨rfl, balloc (Below.refl _ _) _⟩
  exact G _ rfl
end Go.Proofs.Ytdlbhkdjcegbfaa
