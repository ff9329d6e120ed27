/- Plain facts about bits of 32: a cut is a quotient and a rest, an or of numbers that share no bit is their sum. -/
import Derived.Test.YtmedlebepgobeaaDoorMath
import Derived.WalkKit
namespace Go.Proofs.YtmedlebepgobeaaDoor
open Go.RowKit
namespace M

theorem and1 {x : Int} (h0 : 0 ≤ x) (h1 : x < 4294967296) : bits .and .u32 x 1 = x % 2 := by
  rw [u32_and x 1 h0 h1 (by omega) (by omega)]; simp only [Int.reduceToNat, nat_mask1]; omega
theorem and7 {x : Int} (h0 : 0 ≤ x) (h1 : x < 4294967296) : bits .and .u32 x 7 = x % 8 := by
  rw [u32_and x 7 h0 h1 (by omega) (by omega)]; simp only [Int.reduceToNat, nat_mask3]; omega
theorem and15 {x : Int} (h0 : 0 ≤ x) (h1 : x < 4294967296) : bits .and .u32 x 15 = x % 16 := by
  rw [u32_and x 15 h0 h1 (by omega) (by omega)]; simp only [Int.reduceToNat, nat_mask4]; omega
theorem and31 {x : Int} (h0 : 0 ≤ x) (h1 : x < 4294967296) : bits .and .u32 x 31 = x % 32 := by
  rw [u32_and x 31 h0 h1 (by omega) (by omega)]; simp only [Int.reduceToNat, nat_mask5]; omega
theorem and63 {x : Int} (h0 : 0 ≤ x) (h1 : x < 4294967296) : bits .and .u32 x 63 = x % 64 := by
  rw [u32_and x 63 h0 h1 (by omega) (by omega)]; simp only [Int.reduceToNat, nat_mask6]; omega
theorem and127 {x : Int} (h0 : 0 ≤ x) (h1 : x < 4294967296) : bits .and .u32 x 127 = x % 128 := by
  rw [u32_and x 127 h0 h1 (by omega) (by omega)]; simp only [Int.reduceToNat, nat_mask7]; omega
theorem and255 {x : Int} (h0 : 0 ≤ x) (h1 : x < 4294967296) : bits .and .u32 x 255 = x % 256 := by
  rw [u32_and x 255 h0 h1 (by omega) (by omega)]; simp only [Int.reduceToNat, nat_mask8]; omega
theorem and1023 {x : Int} (h0 : 0 ≤ x) (h1 : x < 4294967296) : bits .and .u32 x 1023 = x % 1024 := by
  rw [u32_and x 1023 h0 h1 (by omega) (by omega)]; simp only [Int.reduceToNat, nat_mask10]; omega
theorem and4095 {x : Int} (h0 : 0 ≤ x) (h1 : x < 4294967296) : bits .and .u32 x 4095 = x % 4096 := by
  rw [u32_and x 4095 h0 h1 (by omega) (by omega)]; simp only [Int.reduceToNat, nat_mask12]; omega
theorem and1048575 {x : Int} (h0 : 0 ≤ x) (h1 : x < 4294967296) : bits .and .u32 x 1048575 = x % 1048576 := by
  rw [u32_and x 1048575 h0 h1 (by omega) (by omega)]; simp only [Int.reduceToNat, nat_mask20]; omega

/-- the upper one first, or behind -/
theorem or_hi (i : Nat) (S : Nat) (hS : 2 ^ i = S) {x y : Int} (x0 : 0 ≤ x) (x1 : x < 4294967296) (hx : x % (S : Int) = 0) (y0 : 0 ≤ y) (y1 : y < (S : Int)) (y2 : y < 4294967296) : bits .or .u32 x y = x + y := by
  obtain ⟨X, rfl⟩ := Int.eq_ofNat_of_zero_le x0
  obtain ⟨Y, rfl⟩ := Int.eq_ofNat_of_zero_le y0
  rw [u32_or_nat X Y (by omega) (by omega), nat_join i X Y (by rw [hS]; omega) (by rw [hS]; omega)]; omega
theorem or_lo (i : Nat) (S : Nat) (hS : 2 ^ i = S) {x y : Int} (x0 : 0 ≤ x) (x1 : x < 4294967296) (hx : x % (S : Int) = 0) (y0 : 0 ≤ y) (y1 : y < (S : Int)) (y2 : y < 4294967296) : bits .or .u32 y x = y + x := by
  obtain ⟨X, rfl⟩ := Int.eq_ofNat_of_zero_le x0
  obtain ⟨Y, rfl⟩ := Int.eq_ofNat_of_zero_le y0
  rw [u32_or_nat Y X (by omega) (by omega), Nat.or_comm, nat_join i X Y (by rw [hS]; omega) (by rw [hS]; omega)]; omega
theorem or_zero {x : Int} (x0 : 0 ≤ x) (x1 : x < 4294967296) : bits .or .u32 x 0 = x := by
  rw [u32_or x 0 x0 x1 (by omega) (by omega)]; simp; omega

/-- the fields that all forms have -/
theorem or_six {o f g d a b : Int} (o0 : 0 ≤ o) (o1 : o < 128) (f0 : 0 ≤ f) (f1 : f < 8) (g0 : 0 ≤ g) (g1 : g < 128) (d0 : 0 ≤ d) (d1 : d < 32) (a0 : 0 ≤ a) (a1 : a < 32) (b0 : 0 ≤ b) (b1 : b < 32) :
    bits .or .u32 (bits .or .u32 (bits .or .u32 o (f * 4096)) (g * 33554432)) (bits .or .u32 (bits .or .u32 (d * 128) (a * 32768)) (b * 1048576)) = o + f * 4096 + g * 33554432 + d * 128 + a * 32768 + b * 1048576 := by
  rw [or_lo 12 4096 rfl (x := f * 4096) (by omega) (by omega) (by omega) o0 (by omega) (by omega),
    or_lo 25 33554432 rfl (x := g * 33554432) (by omega) (by omega) (by omega) (by omega) (by omega) (by omega),
    or_lo 15 32768 rfl (x := a * 32768) (by omega) (by omega) (by omega) (by omega) (by omega) (by omega),
    or_lo 20 1048576 rfl (x := b * 1048576) (by omega) (by omega) (by omega) (by omega) (by omega) (by omega)]
  obtain ⟨o, rfl⟩ := Int.eq_ofNat_of_zero_le o0
  obtain ⟨f, rfl⟩ := Int.eq_ofNat_of_zero_le f0
  obtain ⟨g, rfl⟩ := Int.eq_ofNat_of_zero_le g0
  obtain ⟨d, rfl⟩ := Int.eq_ofNat_of_zero_le d0
  obtain ⟨a, rfl⟩ := Int.eq_ofNat_of_zero_le a0
  obtain ⟨b, rfl⟩ := Int.eq_ofNat_of_zero_le b0
  have e1 : ((o : Int) + f * 4096 + g * 33554432) = ((g * 33554432 + (f * 4096 + o) : Nat) : Int) := by omega
  have e2 : ((d : Int) * 128 + a * 32768 + b * 1048576) = ((b * 1048576 + (a * 32768 + d * 128) : Nat) : Int) := by omega
  conv => lhs; rw [e1, e2, u32_or_nat _ _ (by omega) (by omega), ← nat_join 25 (g * 33554432) (f * 4096 + o) (by omega) (by omega), ← nat_join 12 (f * 4096) o (by omega) (by omega), ← nat_join 20 (b * 1048576) (a * 32768 + d * 128) (by omega) (by omega), ← nat_join 15 (a * 32768) (d * 128) (by omega) (by omega)]
  have e3 : (g * 33554432 ||| (f * 4096 ||| o)) ||| (b * 1048576 ||| (a * 32768 ||| d * 128)) = g * 33554432 ||| (b * 1048576 ||| (a * 32768 ||| (f * 4096 ||| (d * 128 ||| o)))) := by ac_rfl
  rw [e3, nat_join 7 (d * 128) o (by omega) (by omega), nat_join 12 (f * 4096) _ (by omega) (by omega), nat_join 15 (a * 32768) _ (by omega) (by omega), nat_join 20 (b * 1048576) _ (by omega) (by omega), nat_join 25 (g * 33554432) _ (by omega) (by omega)]
  omega
/-- what stands between, of the forms S and B -/
theorem or_between {o h p q : Int} (o0 : 0 ≤ o) (o1 : o < 128) (h0 : 0 ≤ h) (h1 : h < 8192) (p0 : 0 ≤ p) (p1 : p < 32) (q0 : 0 ≤ q) (q1 : q < 128) :
    bits .or .u32 (o + h * 4096) (p * 128 + q * 33554432) = o + h * 4096 + (p * 128 + q * 33554432) := by
  obtain ⟨o, rfl⟩ := Int.eq_ofNat_of_zero_le o0
  obtain ⟨h, rfl⟩ := Int.eq_ofNat_of_zero_le h0
  obtain ⟨p, rfl⟩ := Int.eq_ofNat_of_zero_le p0
  obtain ⟨q, rfl⟩ := Int.eq_ofNat_of_zero_le q0
  have e1 : ((o : Int) + h * 4096) = ((h * 4096 + o : Nat) : Int) := by omega
  have e2 : ((p : Int) * 128 + q * 33554432) = ((q * 33554432 + p * 128 : Nat) : Int) := by omega
  conv => lhs; rw [e1, e2, u32_or_nat _ _ (by omega) (by omega), ← nat_join 12 (h * 4096) o (by omega) (by omega), ← nat_join 25 (q * 33554432) (p * 128) (by omega) (by omega)]
  have e3 : (h * 4096 ||| o) ||| (q * 33554432 ||| p * 128) = q * 33554432 ||| (h * 4096 ||| (p * 128 ||| o)) := by ac_rfl
  rw [e3, nat_join 7 (p * 128) o (by omega) (by omega), nat_join 12 (h * 4096) _ (by omega) (by omega), nat_join 25 (q * 33554432) _ (by omega) (by omega)]
  omega

theorem lay1 (n : Int) : bits .and .u32 (n % 4294967296) 4095 * 1048576 % 4294967296 = lay 1 n := by
  rw [and4095 (by omega) (by omega)]; simp only [lay]; omega
theorem lay3 (n : Int) : bits .or .u32 (bits .and .u32 (n % 4294967296) 31 * 128 % 4294967296) (bits .and .u32 (n % 4294967296 / 32) 127 * 33554432 % 4294967296) = lay 3 n := by
  rw [and31 (by omega) (by omega), and127 (by omega) (by omega)]
  have e1 : n % 4294967296 % 32 = n % 32 := by omega
  have e2 : n % 4294967296 / 32 % 128 = n / 32 % 128 := by omega
  rw [e1, e2]
  simp only [lay]
  have := Int.emod_nonneg n (b := 32) (by omega)
  have := Int.emod_lt_of_pos n (b := 32) (by omega)
  have := Int.emod_nonneg (n / 32) (b := 128) (by omega)
  have := Int.emod_lt_of_pos (n / 32) (b := 128) (by omega)
  generalize n % 32 = p at *
  generalize n / 32 % 128 = q at *
  rw [Int.emod_eq_of_lt (a := p * 128) (by omega) (by omega), Int.emod_eq_of_lt (a := q * 33554432) (by omega) (by omega), or_lo 25 33554432 rfl (x := q * 33554432) (by omega) (by omega) (by omega) (by omega) (by omega) (by omega)]
theorem lay4 (n : Int) : bits .or .u32 (bits .or .u32 (bits .or .u32 (bits .and .u32 (n % 4294967296 / 2048) 1 * 128 % 4294967296) (bits .and .u32 (n % 4294967296 / 2) 15 * 256 % 4294967296))
    (bits .and .u32 (n % 4294967296 / 32) 63 * 33554432 % 4294967296)) (bits .and .u32 (n % 4294967296 / 4096) 1 * 2147483648 % 4294967296) = lay 4 n := by
  rw [and1 (by omega) (by omega), and15 (by omega) (by omega), and63 (by omega) (by omega), and1 (by omega) (by omega)]
  have e1 : n % 4294967296 / 2048 % 2 = n / 2048 % 2 := by omega
  have e2 : n % 4294967296 / 2 % 16 = n / 2 % 16 := by omega
  have e3 : n % 4294967296 / 32 % 64 = n / 32 % 64 := by omega
  have e4 : n % 4294967296 / 4096 % 2 = n / 4096 % 2 := by omega
  rw [e1, e2, e3, e4]
  simp only [lay]
  have a1 := Int.emod_nonneg (n / 2048) (b := 2) (by omega)
  have a2 := Int.emod_lt_of_pos (n / 2048) (b := 2) (by omega)
  have a3 := Int.emod_nonneg (n / 2) (b := 16) (by omega)
  have a4 := Int.emod_lt_of_pos (n / 2) (b := 16) (by omega)
  have a5 := Int.emod_nonneg (n / 32) (b := 64) (by omega)
  have a6 := Int.emod_lt_of_pos (n / 32) (b := 64) (by omega)
  have a7 := Int.emod_nonneg (n / 4096) (b := 2) (by omega)
  have a8 := Int.emod_lt_of_pos (n / 4096) (b := 2) (by omega)
  clear e1 e2 e3 e4
  generalize n / 2048 % 2 = p at *
  generalize n / 2 % 16 = q at *
  generalize n / 32 % 64 = r at *
  generalize n / 4096 % 2 = s at *
  rw [Int.emod_eq_of_lt (a := p * 128) (by omega) (by omega), Int.emod_eq_of_lt (a := q * 256) (by omega) (by omega), Int.emod_eq_of_lt (a := r * 33554432) (by omega) (by omega), Int.emod_eq_of_lt (a := s * 2147483648) (by omega) (by omega),
    or_lo 8 256 rfl (x := q * 256) (by omega) (by omega) (by omega) (by omega) (by omega) (by omega), or_lo 25 33554432 rfl (x := r * 33554432) (by omega) (by omega) (by omega) (by omega) (by omega) (by omega), or_lo 31 2147483648 rfl (x := s * 2147483648) (by omega) (by omega) (by omega) (by omega) (by omega) (by omega)]
theorem lay5 (n : Int) : bits .and .u32 (n % 4294967296 / 4096) 1048575 * 4096 % 4294967296 = lay 5 n := by
  rw [and1048575 (by omega) (by omega)]; simp only [lay]; omega
theorem lay6 (n : Int) : bits .or .u32 (bits .or .u32 (bits .or .u32 (bits .and .u32 (n % 4294967296 / 4096) 255 * 4096 % 4294967296) (bits .and .u32 (n % 4294967296 / 2048) 1 * 1048576 % 4294967296))
    (bits .and .u32 (n % 4294967296 / 2) 1023 * 2097152 % 4294967296)) (bits .and .u32 (n % 4294967296 / 1048576) 1 * 2147483648 % 4294967296) = lay 6 n := by
  rw [and255 (by omega) (by omega), and1 (by omega) (by omega), and1023 (by omega) (by omega), and1 (by omega) (by omega)]
  have e1 : n % 4294967296 / 4096 % 256 = n / 4096 % 256 := by omega
  have e2 : n % 4294967296 / 2048 % 2 = n / 2048 % 2 := by omega
  have e3 : n % 4294967296 / 2 % 1024 = n / 2 % 1024 := by omega
  have e4 : n % 4294967296 / 1048576 % 2 = n / 1048576 % 2 := by omega
  rw [e1, e2, e3, e4]
  simp only [lay]
  have a1 := Int.emod_nonneg (n / 4096) (b := 256) (by omega)
  have a2 := Int.emod_lt_of_pos (n / 4096) (b := 256) (by omega)
  have a3 := Int.emod_nonneg (n / 2048) (b := 2) (by omega)
  have a4 := Int.emod_lt_of_pos (n / 2048) (b := 2) (by omega)
  have a5 := Int.emod_nonneg (n / 2) (b := 1024) (by omega)
  have a6 := Int.emod_lt_of_pos (n / 2) (b := 1024) (by omega)
  have a7 := Int.emod_nonneg (n / 1048576) (b := 2) (by omega)
  have a8 := Int.emod_lt_of_pos (n / 1048576) (b := 2) (by omega)
  clear e1 e2 e3 e4
  generalize n / 4096 % 256 = p at *
  generalize n / 2048 % 2 = q at *
  generalize n / 2 % 1024 = r at *
  generalize n / 1048576 % 2 = s at *
  rw [Int.emod_eq_of_lt (a := p * 4096) (by omega) (by omega), Int.emod_eq_of_lt (a := q * 1048576) (by omega) (by omega), Int.emod_eq_of_lt (a := r * 2097152) (by omega) (by omega), Int.emod_eq_of_lt (a := s * 2147483648) (by omega) (by omega),
    or_lo 20 1048576 rfl (x := q * 1048576) (by omega) (by omega) (by omega) (by omega) (by omega) (by omega), or_lo 21 2097152 rfl (x := r * 2097152) (by omega) (by omega) (by omega) (by omega) (by omega) (by omega), or_lo 31 2147483648 rfl (x := s * 2147483648) (by omega) (by omega) (by omega) (by omega) (by omega) (by omega)]

theorem imm_eq (n l h m : Int) (h1 : l ≤ n) (h2 : n ≤ h) : (n.tmod m == 0) = imm n l h m := by
  rw [Bool.eq_iff_iff]
  simp only [imm, beq_iff_eq, decide_eq_true_eq]
  constructor
  · intro h; exact ⟨h1, h2, Int.emod_eq_zero_of_dvd (Int.dvd_of_tmod_eq_zero h)⟩
  · intro h; exact Int.tmod_eq_zero_of_dvd (Int.dvd_of_emod_eq_zero h.2.2)

theorem or_mid {p q r : Int} (p0 : 0 ≤ p) (p1 : p < 2) (q0 : 0 ≤ q) (q1 : q < 16) (r0 : 0 ≤ r) (r1 : r < 64) : bits .or .u32 (p * 2048 + q * 2) (r * 32) = p * 2048 + q * 2 + r * 32 := by
  obtain ⟨p, rfl⟩ := Int.eq_ofNat_of_zero_le p0
  obtain ⟨q, rfl⟩ := Int.eq_ofNat_of_zero_le q0
  obtain ⟨r, rfl⟩ := Int.eq_ofNat_of_zero_le r0
  have e1 : ((p : Int) * 2048 + q * 2) = ((p * 2048 + q * 2 : Nat) : Int) := by omega
  have e2 : ((r : Int) * 32) = ((r * 32 : Nat) : Int) := by omega
  conv => lhs; rw [e1, e2, u32_or_nat _ _ (by omega) (by omega), ← nat_join 11 (p * 2048) (q * 2) (by omega) (by omega)]
  have e3 : (p * 2048 ||| q * 2) ||| r * 32 = p * 2048 ||| (r * 32 ||| q * 2) := by ac_rfl
  rw [e3, nat_join 5 (r * 32) (q * 2) (by omega) (by omega), nat_join 11 (p * 2048) _ (by omega) (by omega)]
  omega
theorem sg12 {v : Int} (h0 : 0 ≤ v) (h1 : v < 4096) : wrap64 (wrap32 (v * 1048576 % 4294967296) / 1048576) = sg v 2048 := by
  unfold wrap64 wrap32 sg; omega
theorem sg13 {v : Int} (h0 : 0 ≤ v) (h1 : v < 8192) : wrap64 (wrap32 (v * 524288 % 4294967296) / 524288) = sg v 4096 := by
  unfold wrap64 wrap32 sg; omega
theorem sg21 {v : Int} (h0 : 0 ≤ v) (h1 : v < 2097152) : wrap64 (wrap32 (v * 2048 % 4294967296) / 2048) = sg v 1048576 := by
  unfold wrap64 wrap32 sg; omega
theorem sg32 {v : Int} (h0 : 0 ≤ v) (h1 : v < 4294967296) : wrap64 (wrap32 v) = sg v 2147483648 := by
  unfold wrap64 wrap32 sg; omega
theorem timm1 {v : Int} (v0 : 0 ≤ v) (v1 : v < 4294967296) : wrap64 (wrap32 (bits .and .u32 (v / 1048576) 4095 * 1048576 % 4294967296) / 1048576) = takeImm 1 v := by
  rw [and4095 (by omega) (by omega), sg12 (by omega) (by omega)]; rfl
theorem timm3 {v : Int} (v0 : 0 ≤ v) (v1 : v < 4294967296) : wrap64 (wrap32 (bits .or .u32 (bits .and .u32 (v / 128) 31) (bits .and .u32 (v / 33554432) 127 * 32 % 4294967296) * 1048576 % 4294967296) / 1048576) = takeImm 3 v := by
  rw [and31 (by omega) (by omega), and127 (by omega) (by omega), Int.emod_eq_of_lt (a := v / 33554432 % 128 * 32) (by omega) (by omega),
    or_lo 5 32 rfl (x := v / 33554432 % 128 * 32) (by omega) (by omega) (by omega) (by omega) (by omega) (by omega), sg12 (by omega) (by omega)]; rfl
theorem timm4 {v : Int} (v0 : 0 ≤ v) (v1 : v < 4294967296) : wrap64 (wrap32 (bits .or .u32 (bits .or .u32 (bits .or .u32 (bits .and .u32 (v / 128) 1 * 2048 % 4294967296) (bits .and .u32 (v / 256) 15 * 2 % 4294967296))
    (bits .and .u32 (v / 33554432) 63 * 32 % 4294967296)) (bits .and .u32 (v / 2147483648) 1 * 4096 % 4294967296) * 524288 % 4294967296) / 524288) = takeImm 4 v := by
  rw [and1 (by omega) (by omega), and15 (by omega) (by omega), and63 (by omega) (by omega), and1 (by omega) (by omega)]
  simp only [takeImm]
  have a1 := Int.emod_nonneg (v / 128) (b := 2) (by omega)
  have a2 := Int.emod_lt_of_pos (v / 128) (b := 2) (by omega)
  have a3 := Int.emod_nonneg (v / 256) (b := 16) (by omega)
  have a4 := Int.emod_lt_of_pos (v / 256) (b := 16) (by omega)
  have a5 := Int.emod_nonneg (v / 33554432) (b := 64) (by omega)
  have a6 := Int.emod_lt_of_pos (v / 33554432) (b := 64) (by omega)
  have a7 := Int.emod_nonneg (v / 2147483648) (b := 2) (by omega)
  have a8 := Int.emod_lt_of_pos (v / 2147483648) (b := 2) (by omega)
  generalize v / 128 % 2 = p at *
  generalize v / 256 % 16 = q at *
  generalize v / 33554432 % 64 = r at *
  generalize v / 2147483648 % 2 = s at *
  rw [Int.emod_eq_of_lt (a := p * 2048) (by omega) (by omega), Int.emod_eq_of_lt (a := q * 2) (by omega) (by omega), Int.emod_eq_of_lt (a := r * 32) (by omega) (by omega), Int.emod_eq_of_lt (a := s * 4096) (by omega) (by omega),
    or_hi 11 2048 rfl (x := p * 2048) (by omega) (by omega) (by omega) (by omega) (by omega) (by omega), or_mid a1 a2 a3 a4 a5 a6, or_lo 12 4096 rfl (x := s * 4096) (by omega) (by omega) (by omega) (by omega) (by omega) (by omega), sg13 (by omega) (by omega)]
theorem timm5 {v : Int} (v0 : 0 ≤ v) (v1 : v < 4294967296) : wrap64 (wrap32 (bits .and .u32 (v / 4096) 1048575 * 4096 % 4294967296)) = takeImm 5 v := by
  rw [and1048575 (by omega) (by omega), Int.emod_eq_of_lt (a := v / 4096 % 1048576 * 4096) (by omega) (by omega), sg32 (by omega) (by omega)]; rfl
theorem timm6 {v : Int} (v0 : 0 ≤ v) (v1 : v < 4294967296) : wrap64 (wrap32 (bits .or .u32 (bits .or .u32 (bits .or .u32 (bits .and .u32 (v / 4096) 255 * 4096 % 4294967296) (bits .and .u32 (v / 1048576) 1 * 2048 % 4294967296))
    (bits .and .u32 (v / 2097152) 1023 * 2 % 4294967296)) (bits .and .u32 (v / 2147483648) 1 * 1048576 % 4294967296) * 2048 % 4294967296) / 2048) = takeImm 6 v := by
  rw [and255 (by omega) (by omega), and1 (by omega) (by omega), and1023 (by omega) (by omega), and1 (by omega) (by omega)]
  simp only [takeImm]
  have a1 := Int.emod_nonneg (v / 4096) (b := 256) (by omega)
  have a2 := Int.emod_lt_of_pos (v / 4096) (b := 256) (by omega)
  have a3 := Int.emod_nonneg (v / 1048576) (b := 2) (by omega)
  have a4 := Int.emod_lt_of_pos (v / 1048576) (b := 2) (by omega)
  have a5 := Int.emod_nonneg (v / 2097152) (b := 1024) (by omega)
  have a6 := Int.emod_lt_of_pos (v / 2097152) (b := 1024) (by omega)
  have a7 := Int.emod_nonneg (v / 2147483648) (b := 2) (by omega)
  have a8 := Int.emod_lt_of_pos (v / 2147483648) (b := 2) (by omega)
  generalize v / 4096 % 256 = p at *
  generalize v / 1048576 % 2 = q at *
  generalize v / 2097152 % 1024 = r at *
  generalize v / 2147483648 % 2 = s at *
  rw [Int.emod_eq_of_lt (a := p * 4096) (by omega) (by omega), Int.emod_eq_of_lt (a := q * 2048) (by omega) (by omega), Int.emod_eq_of_lt (a := r * 2) (by omega) (by omega), Int.emod_eq_of_lt (a := s * 1048576) (by omega) (by omega),
    or_hi 12 4096 rfl (x := p * 4096) (by omega) (by omega) (by omega) (by omega) (by omega) (by omega), or_hi 11 2048 rfl (x := p * 4096 + q * 2048) (by omega) (by omega) (by omega) (by omega) (by omega) (by omega),
    or_lo 20 1048576 rfl (x := s * 1048576) (by omega) (by omega) (by omega) (by omega) (by omega) (by omega), sg21 (by omega) (by omega)]

theorem regs_in {k : Nat} (hk : k < 32) {rd a b n : Int} (h : may k rd a b n = true) : (0 ≤ rd ∧ rd < 32) ∧ (0 ≤ a ∧ a < 32) ∧ (0 ≤ b ∧ b < 32) := by
  obtain ⟨h1, h2, h3, _⟩ := may_parts h
  rcases fm_cases hk with e | e | e | e | e | e | e | e <;>
  · simp [e, hasRd, hasA, hasB, reg] at h1 h2 h3
    omega
/-- the word, as it is put together -/
theorem word_or {k : Nat} (hk : k < 32) {rd a b n : Int} (h : may k rd a b n = true) :
    bits .or .u32 (bits .or .u32 (bits .or .u32 (bits .or .u32 (op k) (f3 k * 4096)) (f7 k * 33554432)) (bits .or .u32 (bits .or .u32 (rd * 128) (a * 32768)) (b * 1048576))) (lay (fm k) n) = word k rd a b n := by
  have o := op_in hk
  have e3 := f3_in hk
  have e7 := f7_in hk
  have n7 := f7_no hk
  have n3 := f3_no hk
  obtain ⟨⟨d0, d1⟩, ⟨a0, a1⟩, b0, b1⟩ := regs_in hk h
  rw [or_six o.1 o.2 e3.1 e3.2 e7.1 e7.2 d0 d1 a0 a1 b0 b1]
  unfold word
  rcases fm_cases hk with e | e | e | e | e | e | e | e
  all_goals
    simp only [may, e, hasRd, hasA, hasB, lo, hi, mu, reg, imm, List.getD_cons_zero, List.getD_cons_succ, Bool.and_eq_true, decide_eq_true_eq, if_true, Bool.false_eq_true, if_false] at h
    simp only [e, lay]
    simp only [e, hasF3] at n7 n3
    simp at n7 n3
  · rw [or_zero (by omega) (by omega), Int.add_zero]
  · exact or_lo 20 1048576 rfl (by omega) (by omega) (by omega) (by omega) (by omega) (by omega)
  · exact or_lo 20 1048576 rfl (by omega) (by omega) (by omega) (by omega) (by omega) (by omega)
  · have x := or_between (o := op k) (h := f3 k + a * 8 + b * 256) (p := n % 32) (q := n / 32 % 128) o.1 o.2 (by omega) (by omega) (by omega) (by omega) (by omega) (by omega)
    have y : op k + f3 k * 4096 + f7 k * 33554432 + rd * 128 + a * 32768 + b * 1048576 = op k + (f3 k + a * 8 + b * 256) * 4096 := by omega
    rw [y, x]
  · have x := or_between (o := op k) (h := f3 k + a * 8 + b * 256) (p := n / 2048 % 2 + n / 2 % 16 * 2) (q := n / 32 % 64 + n / 4096 % 2 * 64) o.1 o.2 (by omega) (by omega) (by omega) (by omega) (by omega) (by omega)
    have y : op k + f3 k * 4096 + f7 k * 33554432 + rd * 128 + a * 32768 + b * 1048576 = op k + (f3 k + a * 8 + b * 256) * 4096 := by omega
    have z : n / 2048 % 2 * 128 + n / 2 % 16 * 256 + n / 32 % 64 * 33554432 + n / 4096 % 2 * 2147483648 = (n / 2048 % 2 + n / 2 % 16 * 2) * 128 + (n / 32 % 64 + n / 4096 % 2 * 64) * 33554432 := by omega
    rw [y, z, x]
  · exact or_lo 12 4096 rfl (by omega) (by omega) (by omega) (by omega) (by omega) (by omega)
  · exact or_lo 12 4096 rfl (by omega) (by omega) (by omega) (by omega) (by omega) (by omega)
  · rw [or_zero (by omega) (by omega), Int.add_zero]
end M
end Go.Proofs.YtmedlebepgobeaaDoor
