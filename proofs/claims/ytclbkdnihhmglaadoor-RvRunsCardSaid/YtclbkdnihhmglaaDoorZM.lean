/- Plain facts of memory in pages: pages, where one stands, stretches of places, bytes and numbers. Nothing of the program. Plain facts of bytes and numbers, the lowest byte first; what stands at places of memory; memory with bytes laid into it. Nothing of the program. -/

namespace Go.Proofs.YtclbkdnihhmglaaDoor.M

/-- a page: its place, what may be done with it, its bytes -/
structure Pg where
  a : Int
  p : Int
  d : ByteArray

def okPerm (p : Int) : Bool := decide (0 ≤ p ∧ p ≤ 7)
def okPg (x : Pg) : Bool := decide (x.a % 256 = 0) && (okPerm x.p && decide (x.d.size = 256))

/-- right memory -/
structure Right (m : List Pg) : Prop where
  len : m.length ≤ 64
  ok : ∀ x ∈ m, okPg x = true
  up : m.Pairwise (fun x y => x.a < y.a)
  ge : ∀ x ∈ m, 0 ≤ x.a
  le : ∀ x ∈ m, x.a ≤ 18446744073709551615

theorem Right.at_lt {m : List Pg} (h : Right m) {i j : Nat} (hij : i < j) (hj : j < m.length) : m[i].a < m[j].a :=
  List.pairwise_iff_getElem.1 h.up i j (by omega) hj hij
theorem Right.at_le {m : List Pg} (h : Right m) {i j : Nat} (hij : i ≤ j) (hj : j < m.length) : m[i].a ≤ m[j].a := by
  rcases Nat.lt_or_eq_of_le hij with h1 | rfl
  · exact Int.le_of_lt (h.at_lt h1 hj)
  · exact Int.le_refl _
theorem Right.at_mod {m : List Pg} (h : Right m) {i : Nat} (hi : i < m.length) : m[i].a % 256 = 0 := by
  have := h.ok _ (List.getElem_mem hi)
  simp [okPg] at this; exact this.1
theorem Right.size {m : List Pg} (h : Right m) {i : Nat} (hi : i < m.length) : m[i].d.size = 256 := by
  have := h.ok _ (List.getElem_mem hi)
  simp [okPg] at this; exact this.2.2
theorem Right.perm {m : List Pg} (h : Right m) {i : Nat} (hi : i < m.length) : 0 ≤ m[i].p ∧ m[i].p ≤ 7 := by
  have := h.ok _ (List.getElem_mem hi)
  simp [okPg, okPerm] at this; exact this.2.1

/-- how many pages stand below x -/
def low (m : List Pg) (x : Int) : Nat := m.countP (fun q => decide (q.a < x))
theorem low_le (m : List Pg) (x : Int) : low m x ≤ m.length := List.countP_le_length
/-- is there one at x? -/
def there (m : List Pg) (x : Int) : Bool := m.any (fun q => q.a == x)

theorem low_cons (q : Pg) (m : List Pg) (x : Int) : low (q :: m) x = low m x + (if q.a < x then 1 else 0) := by
  unfold low; rw [List.countP_cons]; simp

theorem low_zero {m : List Pg} {x : Int} (h : ∀ q ∈ m, x ≤ q.a) : low m x = 0 := by
  unfold low; rw [List.countP_eq_zero]; intro q hq; have := h q hq; simp; omega

theorem lt_low {m : List Pg} (hu : m.Pairwise (fun x y => x.a < y.a)) (x : Int) : ∀ {i : Nat} (hi : i < m.length), (m[i].a < x ↔ i < low m x) := by
  induction m with
  | nil => intro i hi; simp at hi
  | cons q m ih =>
    rw [List.pairwise_cons] at hu
    intro i hi
    rw [low_cons]
    by_cases hq : q.a < x
    · rw [if_pos hq]
      cases i with
      | zero => simp [hq]
      | succ i =>
        have := ih hu.2 (i := i) (by simpa using hi)
        simp only [List.getElem_cons_succ]; omega
    · rw [if_neg hq, low_zero (fun r hr => by have := hu.1 r hr; omega)]
      cases i with
      | zero => simp; omega
      | succ i =>
        have := hu.1 (m[i]'(by simpa using hi)) (List.getElem_mem _)
        simp only [List.getElem_cons_succ]; omega

theorem there_iff {m : List Pg} (hu : m.Pairwise (fun x y => x.a < y.a)) (x : Int) : there m x = true ↔ ∃ h : low m x < m.length, m[low m x].a = x := by
  unfold there
  rw [List.any_eq_true]
  constructor
  · rintro ⟨q, hq, he⟩
    simp at he
    obtain ⟨i, hi, rfl⟩ := List.getElem_of_mem hq
    have h1 : ¬ i < low m x := fun h => by have := (lt_low hu x hi).2 h; omega
    have h2 : ¬ low m x < i := fun h => by
      have h3 : ¬ low m x < low m x := Nat.lt_irrefl _
      have := List.pairwise_iff_getElem.1 hu (low m x) i (by omega) hi h
      exact h3 ((lt_low hu x (by omega)).1 (by omega))
    obtain rfl : i = low m x := by omega
    exact ⟨hi, he⟩
  · rintro ⟨h, he⟩
    exact ⟨_, List.getElem_mem h, by simp [he]⟩

/-- a row of places in one page -/
structure Str where
  pg : Int
  f : Int
  n : Int

/-- n places from a on, page by page -/
def strs (a n : Int) : List Str :=
  if _h : n ≤ 0 then [] else
    ⟨a - a % 256, a % 256, min n (256 - a % 256)⟩ :: strs (a + min n (256 - a % 256)) (n - min n (256 - a % 256))
termination_by n.toNat
decreasing_by omega

theorem strs_nil {a n : Int} (h : n ≤ 0) : strs a n = [] := by unfold strs; rw [dif_pos h]
theorem strs_cons {a n : Int} (h : 0 < n) : strs a n = ⟨a - a % 256, a % 256, min n (256 - a % 256)⟩ :: strs (a + min n (256 - a % 256)) (n - min n (256 - a % 256)) := by
  conv => lhs; unfold strs
  rw [dif_neg (by omega)]

/-- what a row is, wherever it came -/
structure Str.Ok (s : Str) : Prop where
  f0 : 0 ≤ s.f
  n1 : 1 ≤ s.n
  fn : s.f + s.n ≤ 256
  pg0 : 0 ≤ s.pg
  pg1 : s.pg ≤ 18446744073709551360
  md : s.pg % 256 = 0

theorem strs_ok {a n : Int} (a0 : 0 ≤ a) (h : a + n ≤ 18446744073709551616) : ∀ s ∈ strs a n, s.Ok ∧ a ≤ s.pg + s.f ∧ s.pg + s.f + s.n ≤ a + n := by
  by_cases hn : n ≤ 0
  · rw [strs_nil hn]; intro s hs; cases hs
  · rw [strs_cons (by omega)]
    intro s hs
    rw [List.mem_cons] at hs
    rcases hs with rfl | hs
    · refine ⟨⟨?_, ?_, ?_, ?_, ?_, ?_⟩, ?_, ?_⟩ <;> simp only <;> omega
    · have := strs_ok (a := a + min n (256 - a % 256)) (n := n - min n (256 - a % 256)) (by omega) (by omega) s hs
      exact ⟨this.1, by omega, by omega⟩
termination_by n.toNat
decreasing_by omega

/-- every place has its row -/
theorem strs_has {a n : Int} (a0 : 0 ≤ a) : ∀ t, a ≤ t → t < a + n → ∃ s ∈ strs a n, s.pg = t - t % 256 ∧ s.pg + s.f ≤ t ∧ t < s.pg + s.f + s.n := by
  intro t h1 h2
  rw [strs_cons (by omega)]
  by_cases h : t < a + min n (256 - a % 256)
  · refine ⟨_, List.mem_cons_self, ?_, ?_, ?_⟩ <;> simp only <;> omega
  · obtain ⟨s, hs, h3⟩ := strs_has (a := a + min n (256 - a % 256)) (n := n - min n (256 - a % 256)) (by omega) t (by omega) (by omega)
    exact ⟨s, by simp [hs], h3⟩
termination_by n.toNat
decreasing_by omega

theorem strs_len {a n : Int} : (strs a n).length ≤ n.toNat := by
  by_cases hn : n ≤ 0
  · rw [strs_nil hn]; simp
  · rw [strs_cons (by omega), List.length_cons]
    have := strs_len (a := a + min n (256 - a % 256)) (n := n - min n (256 - a % 256))
    omega
termination_by n.toNat
decreasing_by omega
end Go.Proofs.YtclbkdnihhmglaaDoor.M

namespace Go.Proofs.YtclbkdnihhmglaaDoor.M

/-- the number of bytes, the lowest first -/
def num : List UInt8 → Int
  | [] => 0
  | b :: l => (b.toNat : Int) + 256 * num l

theorem num_nonneg : ∀ l, 0 ≤ num l
  | [] => by simp [num]
  | b :: l => by have := num_nonneg l; simp only [num]; omega
theorem num_lt : ∀ l, num l < 256 ^ l.length
  | [] => by simp [num]
  | b :: l => by
    have := num_lt l
    have hb := b.toNat_lt
    simp only [num, List.length_cons, Int.pow_succ]
    omega
theorem num_snoc : ∀ (l : List UInt8) (b : UInt8), num (l ++ [b]) = num l + (b.toNat : Int) * 256 ^ l.length
  | [], b => by simp [num]
  | c :: l, b => by
    have := num_snoc l b
    simp only [num, List.cons_append, List.length_cons, Int.pow_succ, this]
    rw [Int.mul_add]
    have : 256 * ((b.toNat : Int) * 256 ^ l.length) = (b.toNat : Int) * (256 ^ l.length * 256) := by
      rw [← Int.mul_assoc, Int.mul_comm 256, Int.mul_assoc, Int.mul_comm (256 ^ l.length)]
    omega

/-- the lowest n bytes of v -/
def lowest (v : Nat) : Nat → List UInt8
  | 0 => []
  | n + 1 => UInt8.ofNat (v % 256) :: lowest (v / 256) n
theorem lowest_length : ∀ (n v : Nat), (lowest v n).length = n
  | 0, _ => rfl
  | n + 1, v => by simp [lowest, lowest_length n]
theorem num_lowest : ∀ (n v : Nat), num (lowest v n) = ((v % 256 ^ n : Nat) : Int)
  | 0, v => by simp [lowest, num, Nat.mod_one]
  | n + 1, v => by
    have := num_lowest n (v / 256)
    simp only [lowest, num, this]
    have h1 : (UInt8.ofNat (v % 256)).toNat = v % 256 := by simp
    rw [h1]
    have h2 : v % 256 ^ (n + 1) = v % 256 + 256 * (v / 256 % 256 ^ n) := by
      rw [Nat.pow_succ, Nat.mul_comm, Nat.mod_mul]
    omega
theorem lowest_snoc : ∀ (n v : Nat), lowest v (n + 1) = lowest v n ++ [UInt8.ofNat (v / 256 ^ n % 256)]
  | 0, v => by simp [lowest]
  | n + 1, v => by
    rw [lowest, lowest_snoc n (v / 256), lowest]
    simp [Nat.pow_succ, Nat.div_div_eq_div_mul, Nat.mul_comm]

/-- the page at x -/
def pageAt (m : List Pg) (x : Int) : Option Pg := if there m x then m[low m x]? else none
/-- the bytes of the page at x -/
def dataAt (m : List Pg) (x : Int) : ByteArray := (m[low m x]?.map Pg.d).getD .empty
/-- the bytes of a row -/
def rowBytes (m : List Pg) (s : Str) : List UInt8 := ((dataAt m s.pg).data.toList.drop s.f.toNat).take s.n.toNat
/-- the byte at a place -/
def byteAt (m : List Pg) (t : Int) : UInt8 := (dataAt m (t - t % 256)).data.toList.getD (t % 256).toNat 0
/-- n bytes from a on -/
def bytesOf (m : List Pg) (a : Int) : Nat → List UInt8
  | 0 => []
  | n + 1 => byteAt m a :: bytesOf m (a + 1) n
theorem bytesOf_length (m : List Pg) : ∀ (n : Nat) (a : Int), (bytesOf m a n).length = n
  | 0, _ => rfl
  | n + 1, a => by simp [bytesOf, bytesOf_length m n]
theorem bytesOf_add (m : List Pg) : ∀ (j k : Nat) (a : Int), bytesOf m a (j + k) = bytesOf m a j ++ bytesOf m (a + j) k
  | 0, k, a => by simp [bytesOf]
  | j + 1, k, a => by
    have := bytesOf_add m j k (a + 1)
    rw [show j + 1 + k = (j + k) + 1 by omega]
    simp only [bytesOf, List.cons_append, this]
    rw [show a + 1 + (j : Int) = a + ((j + 1 : Nat) : Int) by omega]
theorem bytesOf_get (m : List Pg) : ∀ (n : Nat) (a : Int) (i : Nat), i < n → (bytesOf m a n)[i]? = some (byteAt m (a + i))
  | 0, _, _, h => by omega
  | n + 1, a, 0, _ => by simp [bytesOf]
  | n + 1, a, i + 1, h => by
    simp only [bytesOf, List.getElem?_cons_succ]
    rw [bytesOf_get m n (a + 1) i (by omega)]
    congr 2; omega

/-- within one page -/
theorem bytesOf_page (m : List Pg) (a : Int) (n : Nat) (h : a % 256 + n ≤ 256) (hs : (dataAt m (a - a % 256)).size = 256) :
    bytesOf m a n = ((dataAt m (a - a % 256)).data.toList.drop (a % 256).toNat).take n := by
  apply List.ext_getElem?
  intro i
  by_cases hi : i < n
  · rw [bytesOf_get m n a i hi, List.getElem?_take_of_lt hi, List.getElem?_drop]
    unfold byteAt
    rw [show a + (i : Int) - (a + i) % 256 = a - a % 256 by omega, show ((a + (i : Int)) % 256).toNat = (a % 256).toNat + i by omega]
    rw [List.getD_eq_getElem?_getD, List.getElem?_eq_getElem (by simp at hs ⊢; omega)]
    simp
  · rw [List.getElem?_eq_none (by rw [bytesOf_length]; omega), List.getElem?_eq_none (by simp; omega)]

/-- the bytes of all rows are those of all places -/
theorem rows_bytes (m : List Pg) {a n : Int} (a0 : 0 ≤ a) (h : ∀ s ∈ strs a n, (dataAt m s.pg).size = 256) : (strs a n).flatMap (rowBytes m) = bytesOf m a n.toNat := by
  by_cases hn : n ≤ 0
  · rw [strs_nil hn, show n.toNat = 0 by omega]; rfl
  · have hc := strs_cons (a := a) (n := n) (by omega)
    rw [hc] at h
    rw [hc, List.flatMap_cons, rows_bytes m (by omega) (fun s hs => h s (List.mem_cons_of_mem _ hs))]
    have h0 := h _ List.mem_cons_self
    simp only at h0
    have h1 : rowBytes m ⟨a - a % 256, a % 256, min n (256 - a % 256)⟩ = bytesOf m a (min n (256 - a % 256)).toNat := by
      rw [bytesOf_page m a _ (by omega) h0]; rfl
    rw [h1, show n.toNat = (min n (256 - a % 256)).toNat + (n - min n (256 - a % 256)).toNat by omega, bytesOf_add]
    congr 2; omega
termination_by n.toNat
decreasing_by omega
end Go.Proofs.YtclbkdnihhmglaaDoor.M
