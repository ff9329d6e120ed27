/- Plain facts of memory in pages: pages, where one stands, stretches of places, bytes and numbers. Nothing of the program. -/
namespace Go.Proofs.Ytkalgiaapkjplaa.M

/-- a page: its place, what may be done with it, its bytes -/
structure Pg where
  a : Int
  p : Int
  d : ByteArray

def okPerm (p : Int) : Bool := decide (0 ≤ p ∧ p ≤ 7)
def okPg (x : Pg) : Bool := decide (x.a % 256 = 0) && (okPerm x.p && decide (x.d.size = 256))

/-- right memory -/
structure Right (m : List Pg) : Prop where
  len : m.length ≤ 64
  ok : ∀ x ∈ m, okPg x = true
  up : m.Pairwise (fun x y => x.a < y.a)
  ge : ∀ x ∈ m, 0 ≤ x.a
  le : ∀ x ∈ m, x.a ≤ 18446744073709551615

theorem Right.at_lt {m : List Pg} (h : Right m) {i j : Nat} (hij : i < j) (hj : j < m.length) : m[i].a < m[j].a :=
  List.pairwise_iff_getElem.1 h.up i j (by omega) hj hij
theorem Right.at_le {m : List Pg} (h : Right m) {i j : Nat} (hij : i ≤ j) (hj : j < m.length) : m[i].a ≤ m[j].a := by
  rcases Nat.lt_or_eq_of_le hij with h1 | rfl
  · exact Int.le_of_lt (h.at_lt h1 hj)
  · exact Int.le_refl _
theorem Right.at_mod {m : List Pg} (h : Right m) {i : Nat} (hi : i < m.length) : m[i].a % 256 = 0 := by
  have := h.ok _ (List.getElem_mem hi)
  simp [okPg] at this; exact this.1
theorem Right.size {m : List Pg} (h : Right m) {i : Nat} (hi : i < m.length) : m[i].d.size = 256 := by
  have := h.ok _ (List.getElem_mem hi)
  simp [okPg] at this; exact this.2.2
theorem Right.perm {m : List Pg} (h : Right m) {i : Nat} (hi : i < m.length) : 0 ≤ m[i].p ∧ m[i].p ≤ 7 := by
  have := h.ok _ (List.getElem_mem hi)
  simp [okPg, okPerm] at this; exact this.2.1

/-- how many pages stand below x -/
def low (m : List Pg) (x : Int) : Nat := m.countP (fun q => decide (q.a < x))
theorem low_le (m : List Pg) (x : Int) : low m x ≤ m.length := List.countP_le_length
/-- is there one at x? -/
def there (m : List Pg) (x : Int) : Bool := m.any (fun q => q.a == x)

theorem low_cons (q : Pg) (m : List Pg) (x : Int) : low (q :: m) x = low m x + (if q.a < x then 1 else 0) := by
  unfold low; rw [List.countP_cons]; simp

theorem low_zero {m : List Pg} {x : Int} (h : ∀ q ∈ m, x ≤ q.a) : low m x = 0 := by
  unfold low; rw [List.countP_eq_zero]; intro q hq; have := h q hq; simp; omega

theorem lt_low {m : List Pg} (hu : m.Pairwise (fun x y => x.a < y.a)) (x : Int) : ∀ {i : Nat} (hi : i < m.length), (m[i].a < x ↔ i < low m x) := by
  induction m with
  | nil => intro i hi; simp at hi
  | cons q m ih =>
    rw [List.pairwise_cons] at hu
    intro i hi
    rw [low_cons]
    by_cases hq : q.a < x
    · rw [if_pos hq]
      cases i with
      | zero => simp [hq]
      | succ i =>
        have := ih hu.2 (i := i) (by simpa using hi)
        simp only [List.getElem_cons_succ]; omega
    · rw [if_neg hq, low_zero (fun r hr => by have := hu.1 r hr; omega)]
      cases i with
      | zero => simp; omega
      | succ i =>
        have := hu.1 (m[i]'(by simpa using hi)) (List.getElem_mem _)
        simp only [List.getElem_cons_succ]; omega

theorem there_iff {m : List Pg} (hu : m.Pairwise (fun x y => x.a < y.a)) (x : Int) : there m x = true ↔ ∃ h : low m x < m.length, m[low m x].a = x := by
  unfold there
  rw [List.any_eq_true]
  constructor
  · rintro ⟨q, hq, he⟩
    simp at he
    obtain ⟨i, hi, rfl⟩ := List.getElem_of_mem hq
    have h1 : ¬ i < low m x := fun h => by have := (lt_low hu x hi).2 h; omega
    have h2 : ¬ low m x < i := fun h => by
      have h3 : ¬ low m x < low m x := Nat.lt_irrefl _
      have := List.pairwise_iff_getElem.1 hu (low m x) i (by omega) hi h
      exact h3 ((lt_low hu x (by omega)).1 (by omega))
    obtain rfl : i = low m x := by omega
    exact ⟨hi, he⟩
  · rintro ⟨h, he⟩
    exact ⟨_, List.getElem_mem h, by simp [he]⟩

/-- a row of places in one page -/
structure Str where
  pg : Int
  f : Int
  n : Int

/-- n places from a on, page by page -/
def strs (a n : Int) : List Str :=
  if _h : n ≤ 0 then [] else
    ⟨a - a % 256, a % 256, min n (256 - a % 256)⟩ :: strs (a + min n (256 - a % 256)) (n - min n (256 - a % 256))
termination_by n.toNat
decreasing_by omega

theorem strs_nil {a n : Int} (h : n ≤ 0) : strs a n = [] := by unfold strs; rw [dif_pos h]
theorem strs_cons {a n : Int} (h : 0 < n) : strs a n = ⟨a - a % 256, a % 256, min n (256 - a % 256)⟩ :: strs (a + min n (256 - a % 256)) (n - min n (256 - a % 256)) := by
  conv => lhs; unfold strs
  rw [dif_neg (by omega)]

/-- what a row is, wherever it came -/
structure Str.Ok (s : Str) : Prop where
  f0 : 0 ≤ s.f
  n1 : 1 ≤ s.n
  fn : s.f + s.n ≤ 256
  pg0 : 0 ≤ s.pg
  pg1 : s.pg ≤ 18446744073709551360
  md : s.pg % 256 = 0

theorem strs_ok {a n : Int} (a0 : 0 ≤ a) (h : a + n ≤ 18446744073709551616) : ∀ s ∈ strs a n, s.Ok ∧ a ≤ s.pg + s.f ∧ s.pg + s.f + s.n ≤ a + n := by
  by_cases hn : n ≤ 0
  · rw [strs_nil hn]; intro s hs; cases hs
  · rw [strs_cons (by omega)]
    intro s hs
    rw [List.mem_cons] at hs
    rcases hs with rfl | hs
    · refine ⟨⟨?_, ?_, ?_, ?_, ?_, ?_⟩, ?_, ?_⟩ <;> simp only <;> omega
    · have := strs_ok (a := a + min n (256 - a % 256)) (n := n - min n (256 - a % 256)) (by omega) (by omega) s hs
      exact ⟨this.1, by omega, by omega⟩
termination_by n.toNat
decreasing_by omega

/-- every place has its row -/
theorem strs_has {a n : Int} (a0 : 0 ≤ a) : ∀ t, a ≤ t → t < a + n → ∃ s ∈ strs a n, s.pg = t - t % 256 ∧ s.pg + s.f ≤ t ∧ t < s.pg + s.f + s.n := by
  intro t h1 h2
  rw [strs_cons (by omega)]
  by_cases h : t < a + min n (256 - a % 256)
  · refine ⟨_, List.mem_cons_self, ?_, ?_, ?_⟩ <;> simp only <;> omega
  · obtain ⟨s, hs, h3⟩ := strs_has (a := a + min n (256 - a % 256)) (n := n - min n (256 - a % 256)) (by omega) t (by omega) (by omega)
    exact ⟨s, by simp [hs], h3⟩
termination_by n.toNat
decreasing_by omega

theorem strs_len {a n : Int} : (strs a n).length ≤ n.toNat := by
  by_cases hn : n ≤ 0
  · rw [strs_nil hn]; simp
  · rw [strs_cons (by omega), List.length_cons]
    have := strs_len (a := a + min n (256 - a % 256)) (n := n - min n (256 - a % 256))
    omega
termination_by n.toNat
decreasing_by omega
end Go.Proofs.Ytkalgiaapkjplaa.M
