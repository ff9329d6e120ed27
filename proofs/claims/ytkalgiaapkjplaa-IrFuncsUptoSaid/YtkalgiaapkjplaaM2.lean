/- Plain facts of bytes and numbers, the lowest byte first; what stands at places of memory; memory with bytes laid into it. Nothing of the program. -/
import Derived.Test.YtkalgiaapkjplaaM1
namespace Go.Proofs.Ytkalgiaapkjplaa.M

/-- the number of bytes, the lowest first -/
def num : List UInt8 → Int
  | [] => 0
  | b :: l => (b.toNat : Int) + 256 * num l

theorem num_nonneg : ∀ l, 0 ≤ num l
  | [] => by simp [num]
  | b :: l => by have := num_nonneg l; simp only [num]; omega
theorem num_lt : ∀ l, num l < 256 ^ l.length
  | [] => by simp [num]
  | b :: l => by
    have := num_lt l
    have hb := b.toNat_lt
    simp only [num, List.length_cons, Int.pow_succ]
    omega
theorem num_snoc : ∀ (l : List UInt8) (b : UInt8), num (l ++ [b]) = num l + (b.toNat : Int) * 256 ^ l.length
  | [], b => by simp [num]
  | c :: l, b => by
    have := num_snoc l b
    simp only [num, List.cons_append, List.length_cons, Int.pow_succ, this]
    rw [Int.mul_add]
    have : 256 * ((b.toNat : Int) * 256 ^ l.length) = (b.toNat : Int) * (256 ^ l.length * 256) := by
      rw [← Int.mul_assoc, Int.mul_comm 256, Int.mul_assoc, Int.mul_comm (256 ^ l.length)]
    omega

/-- the lowest n bytes of v -/
def lowest (v : Nat) : Nat → List UInt8
  | 0 => []
  | n + 1 => UInt8.ofNat (v % 256) :: lowest (v / 256) n
theorem lowest_length : ∀ (n v : Nat), (lowest v n).length = n
  | 0, _ => rfl
  | n + 1, v => by simp [lowest, lowest_length n]
theorem num_lowest : ∀ (n v : Nat), num (lowest v n) = ((v % 256 ^ n : Nat) : Int)
  | 0, v => by simp [lowest, num, Nat.mod_one]
  | n + 1, v => by
    have := num_lowest n (v / 256)
    simp only [lowest, num, this]
    have h1 : (UInt8.ofNat (v % 256)).toNat = v % 256 := by simp
    rw [h1]
    have h2 : v % 256 ^ (n + 1) = v % 256 + 256 * (v / 256 % 256 ^ n) := by
      rw [Nat.pow_succ, Nat.mul_comm, Nat.mod_mul]
    omega
theorem lowest_snoc : ∀ (n v : Nat), lowest v (n + 1) = lowest v n ++ [UInt8.ofNat (v / 256 ^ n % 256)]
  | 0, v => by simp [lowest]
  | n + 1, v => by
    rw [lowest, lowest_snoc n (v / 256), lowest]
    simp [Nat.pow_succ, Nat.div_div_eq_div_mul, Nat.mul_comm]

/-- the page at x -/
def pageAt (m : List Pg) (x : Int) : Option Pg := if there m x then m[low m x]? else none
/-- the bytes of the page at x -/
def dataAt (m : List Pg) (x : Int) : ByteArray := (m[low m x]?.map Pg.d).getD .empty
/-- the bytes of a row -/
def rowBytes (m : List Pg) (s : Str) : List UInt8 := ((dataAt m s.pg).data.toList.drop s.f.toNat).take s.n.toNat
/-- the byte at a place -/
def byteAt (m : List Pg) (t : Int) : UInt8 := (dataAt m (t - t % 256)).data.toList.getD (t % 256).toNat 0
/-- n bytes from a on -/
def bytesOf (m : List Pg) (a : Int) : Nat → List UInt8
  | 0 => []
  | n + 1 => byteAt m a :: bytesOf m (a + 1) n
theorem bytesOf_length (m : List Pg) : ∀ (n : Nat) (a : Int), (bytesOf m a n).length = n
  | 0, _ => rfl
  | n + 1, a => by simp [bytesOf, bytesOf_length m n]
theorem bytesOf_add (m : List Pg) : ∀ (j k : Nat) (a : Int), bytesOf m a (j + k) = bytesOf m a j ++ bytesOf m (a + j) k
  | 0, k, a => by simp [bytesOf]
  | j + 1, k, a => by
    have := bytesOf_add m j k (a + 1)
    rw [show j + 1 + k = (j + k) + 1 by omega]
    simp only [bytesOf, List.cons_append, this]
    rw [show a + 1 + (j : Int) = a + ((j + 1 : Nat) : Int) by omega]
theorem bytesOf_get (m : List Pg) : ∀ (n : Nat) (a : Int) (i : Nat), i < n → (bytesOf m a n)[i]? = some (byteAt m (a + i))
  | 0, _, _, h => by omega
  | n + 1, a, 0, _ => by simp [bytesOf]
  | n + 1, a, i + 1, h => by
    simp only [bytesOf, List.getElem?_cons_succ]
    rw [bytesOf_get m n (a + 1) i (by omega)]
    congr 2; omega

/-- within one page -/
theorem bytesOf_page (m : List Pg) (a : Int) (n : Nat) (h : a % 256 + n ≤ 256) (hs : (dataAt m (a - a % 256)).size = 256) :
    bytesOf m a n = ((dataAt m (a - a % 256)).data.toList.drop (a % 256).toNat).take n := by
  apply List.ext_getElem?
  intro i
  by_cases hi : i < n
  · rw [bytesOf_get m n a i hi, List.getElem?_take_of_lt hi, List.getElem?_drop]
    unfold byteAt
    rw [show a + (i : Int) - (a + i) % 256 = a - a % 256 by omega, show ((a + (i : Int)) % 256).toNat = (a % 256).toNat + i by omega]
    rw [List.getD_eq_getElem?_getD, List.getElem?_eq_getElem (by simp at hs ⊢; omega)]
    simp
  · rw [List.getElem?_eq_none (by rw [bytesOf_length]; omega), List.getElem?_eq_none (by simp; omega)]

/-- the bytes of all rows are those of all places -/
theorem rows_bytes (m : List Pg) {a n : Int} (a0 : 0 ≤ a) (h : ∀ s ∈ strs a n, (dataAt m s.pg).size = 256) : (strs a n).flatMap (rowBytes m) = bytesOf m a n.toNat := by
  by_cases hn : n ≤ 0
  · rw [strs_nil hn, show n.toNat = 0 by omega]; rfl
  · have hc := strs_cons (a := a) (n := n) (by omega)
    rw [hc] at h
    rw [hc, List.flatMap_cons, rows_bytes m (by omega) (fun s hs => h s (List.mem_cons_of_mem _ hs))]
    have h0 := h _ List.mem_cons_self
    simp only at h0
    have h1 : rowBytes m ⟨a - a % 256, a % 256, min n (256 - a % 256)⟩ = bytesOf m a (min n (256 - a % 256)).toNat := by
      rw [bytesOf_page m a _ (by omega) h0]; rfl
    rw [h1, show n.toNat = (min n (256 - a % 256)).toNat + (n - min n (256 - a % 256)).toNat by omega, bytesOf_add]
    congr 2; omega
termination_by n.toNat
decreasing_by omega
end Go.Proofs.Ytkalgiaapkjplaa.M
