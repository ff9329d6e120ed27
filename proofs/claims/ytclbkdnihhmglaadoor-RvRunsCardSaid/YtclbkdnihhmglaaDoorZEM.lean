/- Plain facts about instructions and their words, with no program in them: an instruction that may be is told by its word, and by no other one's. Plain facts about bits of 32: a cut is a quotient and a rest, an or of numbers that share no bit is their sum. -/
import Derived.Laws.BitsAllLaws
import Derived.WalkKit
namespace Go.Proofs.YtclbkdnihhmglaaDoor.E
namespace M

def fmL : List Nat := [0, 0, 0, 0, 0, 0, 0, 0, 0, 0, 0, 0, 1, 1, 1, 1, 1, 2, 2, 1, 1, 3, 3, 4, 4, 4, 4, 5, 5, 6, 1, 7]
def opL : List Int := [0, 51, 51, 51, 51, 51, 51, 51, 51, 51, 51, 51, 19, 19, 19, 19, 19, 19, 19, 3, 3, 35, 35, 99, 99, 99, 99, 55, 23, 111, 103, 115]
def f3L : List Int := [0, 0, 0, 1, 3, 4, 5, 6, 7, 0, 5, 7, 0, 3, 4, 6, 7, 1, 5, 3, 4, 3, 0, 0, 1, 6, 7, 0, 0, 0, 0, 0]
def f7L : List Int := [0, 0, 32, 0, 0, 0, 0, 0, 0, 1, 1, 1, 0, 0, 0, 0, 0, 0, 0, 0, 0, 0, 0, 0, 0, 0, 0, 0, 0, 0, 0, 0]
def fm (k : Nat) : Nat := fmL.getD k 0
def op (k : Nat) : Int := opL.getD k 0
def f3 (k : Nat) : Int := f3L.getD k 0
def f7 (k : Nat) : Int := f7L.getD k 0
def hasRd (f : Nat) : Bool := [true, true, true, false, false, true, true, false].getD f false
def hasA (f : Nat) : Bool := [true, true, true, true, true, false, false, false].getD f false
def hasB (f : Nat) : Bool := [true, false, false, true, true, false, false, false].getD f false
def lo (f : Nat) : Int := [0, -2048, 0, -2048, -4096, -2147483648, -1048576, 0].getD f 0
def hi (f : Nat) : Int := [0, 2047, 63, 2047, 4094, 2147479552, 1048574, 0].getD f 0
def mu (f : Nat) : Int := [1, 1, 1, 1, 2, 4096, 2, 1].getD f 1

def reg (r : Int) (has : Bool) : Bool := if has then decide (0 ≤ r ∧ r < 32) else decide (r = 0)
def imm (n l h m : Int) : Bool := decide (l ≤ n ∧ n ≤ h ∧ n % m = 0)
/-- may an instruction of kind k (1 to 31) be? -/
def may (k : Nat) (rd a b n : Int) : Bool :=
  reg rd (hasRd (fm k)) && (reg a (hasA (fm k)) && (reg b (hasB (fm k)) && imm n (lo (fm k)) (hi (fm k)) (mu (fm k))))

def lay (f : Nat) (n : Int) : Int :=
  match f with
  | 1 | 2 => n % 4096 * 1048576
  | 3 => n % 32 * 128 + n / 32 % 128 * 33554432
  | 4 => n / 2048 % 2 * 128 + n / 2 % 16 * 256 + n / 32 % 64 * 33554432 + n / 4096 % 2 * 2147483648
  | 5 => n / 4096 % 1048576 * 4096
  | 6 => n / 4096 % 256 * 4096 + n / 2048 % 2 * 1048576 + n / 2 % 1024 * 2097152 + n / 1048576 % 2 * 2147483648
  | _ => 0

def word (k : Nat) (rd a b n : Int) : Int := op k + f3 k * 4096 + f7 k * 33554432 + rd * 128 + a * 32768 + b * 1048576 + lay (fm k) n

def sg (v h : Int) : Int := if v < h then v else v - 2 * h
def takeImm (f : Nat) (w : Int) : Int :=
  match f with
  | 1 | 2 => sg (w / 1048576 % 4096) 2048
  | 3 => sg (w / 128 % 32 + w / 33554432 % 128 * 32) 2048
  | 4 => sg (w / 128 % 2 * 2048 + w / 256 % 16 * 2 + w / 33554432 % 64 * 32 + w / 2147483648 % 2 * 4096) 4096
  | 5 => sg (w / 4096 % 1048576 * 4096) 2147483648
  | 6 => sg (w / 4096 % 256 * 4096 + w / 1048576 % 2 * 2048 + w / 2097152 % 1024 * 2 + w / 2147483648 % 2 * 1048576) 1048576
  | _ => 0
def tRd (k : Nat) (w : Int) : Int := if hasRd (fm k) then w / 128 % 32 else 0
def tA (k : Nat) (w : Int) : Int := if hasA (fm k) then w / 32768 % 32 else 0
def tB (k : Nat) (w : Int) : Int := if hasB (fm k) then w / 1048576 % 32 else 0
def tI (k : Nat) (w : Int) : Int := takeImm (fm k) w
/-- w is the word of the instruction that it has when read as one of kind k, and that may be -/
def okAt (w : Int) (k : Nat) : Bool := may k (tRd k w) (tA k w) (tB k w) (tI k w) && decide (word k (tRd k w) (tA k w) (tB k w) (tI k w) = w)
def hasF3 (f : Nat) : Bool := f != 5 && f != 6
def tF3 (k : Nat) (w : Int) : Int := if hasF3 (fm k) then w / 4096 % 8 else 0
def tF7 (k : Nat) (w : Int) : Int := if fm k == 0 then w / 33554432 % 128 else 0
def kindOk (w : Int) (k : Nat) : Bool := decide (w % 128 = op k) && (decide (tF3 k w = f3 k) && decide (tF7 k w = f7 k))

theorem split {P : Nat → Prop} (h : ∀ k ∈ List.range 32, P k) {k : Nat} (hk : k < 32) : P k := h k (by simp [hk])
theorem fm_le {k : Nat} (hk : k < 32) : fm k ≤ 7 := split (P := fun k => fm k ≤ 7) (by decide) hk
theorem op_in {k : Nat} (hk : k < 32) : 0 ≤ op k ∧ op k < 128 := split (P := fun k => 0 ≤ op k ∧ op k < 128) (by decide) hk
theorem f3_in {k : Nat} (hk : k < 32) : 0 ≤ f3 k ∧ f3 k < 8 := split (P := fun k => 0 ≤ f3 k ∧ f3 k < 8) (by decide) hk
theorem f7_in {k : Nat} (hk : k < 32) : 0 ≤ f7 k ∧ f7 k < 128 := split (P := fun k => 0 ≤ f7 k ∧ f7 k < 128) (by decide) hk
theorem f7_no {k : Nat} (hk : k < 32) (h : fm k ≠ 0) : f7 k = 0 := split (P := fun k => fm k ≠ 0 → f7 k = 0) (by decide) hk h
theorem f3_no {k : Nat} (hk : k < 32) (h : hasF3 (fm k) = false) : f3 k = 0 := split (P := fun k => hasF3 (fm k) = false → f3 k = 0) (by decide) hk h
theorem op_low {k : Nat} (hk : k < 32) (h1 : 1 ≤ k) : op k % 4 = 3 := split (P := fun k => 1 ≤ k → op k % 4 = 3) (by decide) hk h1
theorem apart {k j : Nat} (hk : k < 32) (hj : j < 32) (k1 : 1 ≤ k) (j1 : 1 ≤ j) (h1 : op k = op j) (h2 : hasF3 (fm k) = true → f3 k = f3 j) (h3 : fm k = 0 → f7 k = f7 j) : k = j :=
  split (P := fun k => ∀ j ∈ List.range 32, 1 ≤ k → 1 ≤ j → op k = op j → (hasF3 (fm k) = true → f3 k = f3 j) → (fm k = 0 → f7 k = f7 j) → k = j) (by decide) hk j (by simp [hj]) k1 j1 h1 h2 h3

theorem fm_cases {k : Nat} (hk : k < 32) : fm k = 0 ∨ fm k = 1 ∨ fm k = 2 ∨ fm k = 3 ∨ fm k = 4 ∨ fm k = 5 ∨ fm k = 6 ∨ fm k = 7 := by
  have := fm_le hk; omega

theorem s_of {n : Int} (h1 : -2048 ≤ n) (h2 : n ≤ 2047) : ∃ p q : Int, n % 32 = p ∧ n / 32 % 128 = q ∧ 0 ≤ p ∧ p < 32 ∧ 0 ≤ q ∧ q < 128 ∧ sg (p + q * 32) 2048 = n :=
  ⟨_, _, rfl, rfl, by omega, by omega, by omega, by omega, by unfold sg; omega⟩
theorem b_of {n : Int} (h1 : -4096 ≤ n) (h2 : n ≤ 4094) (h3 : n % 2 = 0) : ∃ p q r s : Int, n / 2048 % 2 = p ∧ n / 2 % 16 = q ∧ n / 32 % 64 = r ∧ n / 4096 % 2 = s ∧
    0 ≤ p ∧ p < 2 ∧ 0 ≤ q ∧ q < 16 ∧ 0 ≤ r ∧ r < 64 ∧ 0 ≤ s ∧ s < 2 ∧ sg (p * 2048 + q * 2 + r * 32 + s * 4096) 4096 = n :=
  ⟨_, _, _, _, rfl, rfl, rfl, rfl, by omega, by omega, by omega, by omega, by omega, by omega, by omega, by omega, by unfold sg; omega⟩
theorem j_of {n : Int} (h1 : -1048576 ≤ n) (h2 : n ≤ 1048574) (h3 : n % 2 = 0) : ∃ p q r s : Int, n / 4096 % 256 = p ∧ n / 2048 % 2 = q ∧ n / 2 % 1024 = r ∧ n / 1048576 % 2 = s ∧
    0 ≤ p ∧ p < 256 ∧ 0 ≤ q ∧ q < 2 ∧ 0 ≤ r ∧ r < 1024 ∧ 0 ≤ s ∧ s < 2 ∧ sg (p * 4096 + q * 2048 + r * 2 + s * 1048576) 1048576 = n :=
  ⟨_, _, _, _, rfl, rfl, rfl, rfl, by omega, by omega, by omega, by omega, by omega, by omega, by omega, by omega, by unfold sg; omega⟩

/-- what the parts of a word of an instruction that may be come to -/
def Parts (k : Nat) (w rd a b n : Int) : Prop :=
  kindOk w k = true ∧ tRd k w = rd ∧ tA k w = a ∧ tB k w = b ∧ tI k w = n ∧ 0 ≤ w ∧ w < 4294967296
theorem cutf {w l x h : Int} (S M : Int) (hS : 0 < S) (hw : w = l + S * (x + M * h)) (l0 : 0 ≤ l) (l1 : l < S) (x0 : 0 ≤ x) (x1 : x < M) : w / S % M = x := by
  have e : w / S = x + M * h := by
    rw [hw, Int.add_mul_ediv_left _ _ (by omega), Int.ediv_eq_zero_of_lt l0 l1, Int.zero_add]
  rw [e, Int.add_mul_emod_self_left]
  exact Int.emod_eq_of_lt x0 x1
theorem low7 {w o h : Int} (hw : w = o + 128 * h) (o0 : 0 ≤ o) (o1 : o < 128) : w % 128 = o := by omega
theorem s_word {o f a b p q : Int} (o0 : 0 ≤ o) (o1 : o < 128) (f0 : 0 ≤ f) (f1 : f < 8) (a0 : 0 ≤ a) (a1 : a < 32) (b0 : 0 ≤ b) (b1 : b < 32) (p0 : 0 ≤ p) (p1 : p < 32) (q0 : 0 ≤ q) (q1 : q < 128)
    {w : Int} (hw : w = o + p * 128 + f * 4096 + a * 32768 + b * 1048576 + q * 33554432) :
    w % 128 = o ∧ w / 4096 % 8 = f ∧ w / 32768 % 32 = a ∧ w / 1048576 % 32 = b ∧ w / 128 % 32 = p ∧ w / 33554432 % 128 = q ∧ 0 ≤ w ∧ w < 4294967296 :=
  ⟨low7 (h := p + f * 32 + a * 256 + b * 8192 + q * 262144) (by omega) o0 o1,
   cutf 4096 8 (by decide) (l := o + p * 128) (h := a + b * 32 + q * 1024) (by omega) (by omega) (by omega) f0 f1,
   cutf 32768 32 (by decide) (l := o + p * 128 + f * 4096) (h := b + q * 32) (by omega) (by omega) (by omega) a0 a1,
   cutf 1048576 32 (by decide) (l := o + p * 128 + f * 4096 + a * 32768) (h := q) (by omega) (by omega) (by omega) b0 b1,
   cutf 128 32 (by decide) (l := o) (h := f + a * 8 + b * 256 + q * 8192) (by omega) o0 o1 p0 p1,
   cutf 33554432 128 (by decide) (l := o + p * 128 + f * 4096 + a * 32768 + b * 1048576) (h := 0) (by omega) (by omega) (by omega) q0 q1, by omega, by omega⟩
theorem b_word {o f a b p q r s : Int} (o0 : 0 ≤ o) (o1 : o < 128) (f0 : 0 ≤ f) (f1 : f < 8) (a0 : 0 ≤ a) (a1 : a < 32) (b0 : 0 ≤ b) (b1 : b < 32) (p0 : 0 ≤ p) (p1 : p < 2) (q0 : 0 ≤ q) (q1 : q < 16)
    (r0 : 0 ≤ r) (r1 : r < 64) (s0 : 0 ≤ s) (s1 : s < 2) {w : Int} (hw : w = o + p * 128 + q * 256 + f * 4096 + a * 32768 + b * 1048576 + r * 33554432 + s * 2147483648) :
    w % 128 = o ∧ w / 4096 % 8 = f ∧ w / 32768 % 32 = a ∧ w / 1048576 % 32 = b ∧ w / 128 % 2 = p ∧ w / 256 % 16 = q ∧ w / 33554432 % 64 = r ∧ w / 2147483648 % 2 = s ∧ 0 ≤ w ∧ w < 4294967296 :=
  ⟨low7 (h := p + q * 2 + f * 32 + a * 256 + b * 8192 + r * 262144 + s * 16777216) (by omega) o0 o1,
   cutf 4096 8 (by decide) (l := o + p * 128 + q * 256) (h := a + b * 32 + r * 1024 + s * 65536) (by omega) (by omega) (by omega) f0 f1,
   cutf 32768 32 (by decide) (l := o + p * 128 + q * 256 + f * 4096) (h := b + r * 32 + s * 2048) (by omega) (by omega) (by omega) a0 a1,
   cutf 1048576 32 (by decide) (l := o + p * 128 + q * 256 + f * 4096 + a * 32768) (h := r + s * 64) (by omega) (by omega) (by omega) b0 b1,
   cutf 128 2 (by decide) (l := o) (h := q + f * 16 + a * 128 + b * 4096 + r * 131072 + s * 8388608) (by omega) o0 o1 p0 p1,
   cutf 256 16 (by decide) (l := o + p * 128) (h := f + a * 8 + b * 256 + r * 8192 + s * 524288) (by omega) (by omega) (by omega) q0 q1,
   cutf 33554432 64 (by decide) (l := o + p * 128 + q * 256 + f * 4096 + a * 32768 + b * 1048576) (h := s) (by omega) (by omega) (by omega) r0 r1,
   cutf 2147483648 2 (by decide) (l := o + p * 128 + q * 256 + f * 4096 + a * 32768 + b * 1048576 + r * 33554432) (h := 0) (by omega) (by omega) (by omega) s0 s1, by omega, by omega⟩
theorem j_word {o d p q r s : Int} (o0 : 0 ≤ o) (o1 : o < 128) (d0 : 0 ≤ d) (d1 : d < 32) (p0 : 0 ≤ p) (p1 : p < 256) (q0 : 0 ≤ q) (q1 : q < 2)
    (r0 : 0 ≤ r) (r1 : r < 1024) (s0 : 0 ≤ s) (s1 : s < 2) {w : Int} (hw : w = o + d * 128 + p * 4096 + q * 1048576 + r * 2097152 + s * 2147483648) :
    w % 128 = o ∧ w / 128 % 32 = d ∧ w / 4096 % 256 = p ∧ w / 1048576 % 2 = q ∧ w / 2097152 % 1024 = r ∧ w / 2147483648 % 2 = s ∧ 0 ≤ w ∧ w < 4294967296 :=
  ⟨low7 (h := d + p * 32 + q * 8192 + r * 16384 + s * 16777216) (by omega) o0 o1,
   cutf 128 32 (by decide) (l := o) (h := p + q * 256 + r * 512 + s * 524288) (by omega) o0 o1 d0 d1,
   cutf 4096 256 (by decide) (l := o + d * 128) (h := q + r * 2 + s * 2048) (by omega) (by omega) (by omega) p0 p1,
   cutf 1048576 2 (by decide) (l := o + d * 128 + p * 4096) (h := r + s * 1024) (by omega) (by omega) (by omega) q0 q1,
   cutf 2097152 1024 (by decide) (l := o + d * 128 + p * 4096 + q * 1048576) (h := s) (by omega) (by omega) (by omega) r0 r1,
   cutf 2147483648 2 (by decide) (l := o + d * 128 + p * 4096 + q * 1048576 + r * 2097152) (h := 0) (by omega) (by omega) (by omega) s0 s1, by omega, by omega⟩

theorem parts_s {k : Nat} (hk : k < 32) (e : fm k = 3) {a b n : Int} (a0 : 0 ≤ a) (a1 : a < 32) (b0 : 0 ≤ b) (b1 : b < 32) (h1 : -2048 ≤ n) (h2 : n ≤ 2047) : Parts k (word k 0 a b n) 0 a b n := by
  have o := op_in hk
  have e3 := f3_in hk
  have n7 := f7_no hk (by omega)
  obtain ⟨p, q, hp, hq, p0, p1, q0, q1, hs⟩ := s_of h1 h2
  have hw : word k 0 a b n = op k + p * 128 + f3 k * 4096 + a * 32768 + b * 1048576 + q * 33554432 := by simp only [word, lay, e, n7, hp, hq]; omega
  obtain ⟨x1, x2, x3, x4, x5, x6, x7, x8⟩ := s_word o.1 o.2 e3.1 e3.2 a0 a1 b0 b1 p0 p1 q0 q1 hw
  refine ⟨?_, ?_, ?_, ?_, ?_, x7, x8⟩
  · simp [kindOk, tF3, tF7, e, hasF3, n7, x1, x2]
  · simp [tRd, e, hasRd]
  · simp [tA, e, hasA, x3]
  · simp [tB, e, hasB, x4]
  · simp only [tI, takeImm, e, x5, x6]; exact hs
theorem parts_b {k : Nat} (hk : k < 32) (e : fm k = 4) {a b n : Int} (a0 : 0 ≤ a) (a1 : a < 32) (b0 : 0 ≤ b) (b1 : b < 32) (h1 : -4096 ≤ n) (h2 : n ≤ 4094) (h3 : n % 2 = 0) : Parts k (word k 0 a b n) 0 a b n := by
  have o := op_in hk
  have e3 := f3_in hk
  have n7 := f7_no hk (by omega)
  obtain ⟨p, q, r, s, hp, hq, hr, hs, p0, p1, q0, q1, r0, r1, s0, s1, hx⟩ := b_of h1 h2 h3
  have hw : word k 0 a b n = op k + p * 128 + q * 256 + f3 k * 4096 + a * 32768 + b * 1048576 + r * 33554432 + s * 2147483648 := by simp only [word, lay, e, n7, hp, hq, hr, hs]; omega
  obtain ⟨x1, x2, x3, x4, x5, x6, x7, x8, x9, x10⟩ := b_word o.1 o.2 e3.1 e3.2 a0 a1 b0 b1 p0 p1 q0 q1 r0 r1 s0 s1 hw
  refine ⟨?_, ?_, ?_, ?_, ?_, x9, x10⟩
  · simp [kindOk, tF3, tF7, e, hasF3, n7, x1, x2]
  · simp [tRd, e, hasRd]
  · simp [tA, e, hasA, x3]
  · simp [tB, e, hasB, x4]
  · simp only [tI, takeImm, e, x5, x6, x7, x8]; exact hx
theorem parts_j {k : Nat} (hk : k < 32) (e : fm k = 6) {rd n : Int} (d0 : 0 ≤ rd) (d1 : rd < 32) (h1 : -1048576 ≤ n) (h2 : n ≤ 1048574) (h3 : n % 2 = 0) : Parts k (word k rd 0 0 n) rd 0 0 n := by
  have o := op_in hk
  have n3 := f3_no hk (by simp [e, hasF3])
  have n7 := f7_no hk (by omega)
  obtain ⟨p, q, r, s, hp, hq, hr, hs, p0, p1, q0, q1, r0, r1, s0, s1, hx⟩ := j_of h1 h2 h3
  have hw : word k rd 0 0 n = op k + rd * 128 + p * 4096 + q * 1048576 + r * 2097152 + s * 2147483648 := by simp only [word, lay, e, n3, n7, hp, hq, hr, hs]; omega
  obtain ⟨x1, x2, x3, x4, x5, x6, x7, x8⟩ := j_word o.1 o.2 d0 d1 p0 p1 q0 q1 r0 r1 s0 s1 hw
  refine ⟨?_, ?_, ?_, ?_, ?_, x7, x8⟩
  · simp [kindOk, tF3, tF7, e, hasF3, n3, n7, x1]
  · simp [tRd, e, hasRd, x2]
  · simp [tA, e, hasA]
  · simp [tB, e, hasB]
  · simp only [tI, takeImm, e, x3, x4, x5, x6]; exact hx

theorem may_parts {k : Nat} {rd a b n : Int} (h : may k rd a b n = true) : reg rd (hasRd (fm k)) = true ∧ reg a (hasA (fm k)) = true ∧ reg b (hasB (fm k)) = true ∧ imm n (lo (fm k)) (hi (fm k)) (mu (fm k)) = true := by
  simpa [may, Bool.and_eq_true] using h
/-- the parts of a word of an instruction that may be -/
theorem of_may {k : Nat} (hk : k < 32) {rd a b n : Int} (h : may k rd a b n = true) : Parts k (word k rd a b n) rd a b n := by
  have o := op_in hk
  have e3 := f3_in hk
  have e7 := f7_in hk
  have n7 := f7_no hk
  have n3 := f3_no hk
  rcases fm_cases hk with e | e | e | e | e | e | e | e
  all_goals
    simp only [may, e, hasRd, hasA, hasB, lo, hi, mu, reg, imm, List.getD_cons_zero, List.getD_cons_succ, Bool.and_eq_true, decide_eq_true_eq, if_true, Bool.false_eq_true, if_false] at h
  case inr.inr.inr.inl => obtain ⟨rfl, ⟨h1, h2⟩, ⟨h3, h4⟩, h5, h6, _⟩ := h; exact parts_s hk e h1 h2 h3 h4 h5 h6
  case inr.inr.inr.inr.inl => obtain ⟨rfl, ⟨h1, h2⟩, ⟨h3, h4⟩, h5, h6, h7⟩ := h; exact parts_b hk e h1 h2 h3 h4 h5 h6 h7
  case inr.inr.inr.inr.inr.inr.inl => obtain ⟨⟨h1, h2⟩, rfl, rfl, h5, h6, h7⟩ := h; exact parts_j hk e h1 h2 h5 h6 h7
  all_goals
    simp only [e, hasF3] at n7 n3
    simp only [Parts, kindOk, tF3, tF7, tRd, tA, tB, tI, takeImm, sg, word, lay, e, hasRd, hasA, hasB, hasF3, List.getD_cons_zero, List.getD_cons_succ, Bool.and_eq_true, decide_eq_true_eq]
    simp at n7 n3 ⊢
    omega

theorem okAt_word {k : Nat} (hk : k < 32) {rd a b n : Int} (h : may k rd a b n = true) : okAt (word k rd a b n) k = true := by
  obtain ⟨_, e1, e2, e3, e4, _, _⟩ := of_may hk h
  simp [okAt, e1, e2, e3, e4, h]
theorem okAt_parts {w : Int} {k : Nat} (h : okAt w k = true) : may k (tRd k w) (tA k w) (tB k w) (tI k w) = true ∧ word k (tRd k w) (tA k w) (tB k w) (tI k w) = w := by
  simpa [okAt, Bool.and_eq_true] using h
theorem kindOk_of {w : Int} {k : Nat} (hk : k < 32) (h : okAt w k = true) : kindOk w k = true := by
  obtain ⟨h1, h2⟩ := okAt_parts h
  have := (of_may hk h1).1
  rwa [h2] at this
theorem kind_one {w : Int} {k j : Nat} (hk : k < 32) (hj : j < 32) (k1 : 1 ≤ k) (j1 : 1 ≤ j) (h : kindOk w k = true) (g : kindOk w j = true) : k = j := by
  simp only [kindOk, Bool.and_eq_true, decide_eq_true_eq] at h g
  obtain ⟨a1, a2, a3⟩ := h
  obtain ⟨b1, b2, b3⟩ := g
  have ho : op k = op j := by omega
  have hf : fm k = fm j ∨ (fm k = 1 ∧ fm j = 2) ∨ (fm k = 2 ∧ fm j = 1) :=
    split (P := fun k => ∀ j ∈ List.range 32, 1 ≤ k → 1 ≤ j → op k = op j → (fm k = fm j ∨ (fm k = 1 ∧ fm j = 2) ∨ (fm k = 2 ∧ fm j = 1))) (by decide) hk j (by simp [hj]) k1 j1 ho
  refine apart hk hj k1 j1 ho (fun h => ?_) (fun h => ?_)
  · rw [← a2, ← b2]
    unfold tF3
    rcases hf with hf | ⟨hf, hf'⟩ | ⟨hf, hf'⟩
    · rw [hf]
    · simp [hf, hf', hasF3]
    · simp [hf, hf', hasF3]
  · rw [← a3, ← b3]
    unfold tF7
    rcases hf with hf | ⟨hf, hf'⟩ | ⟨hf, hf'⟩
    · rw [hf]
    · omega
    · omega
theorem ok_one_kind {w : Int} {k j : Nat} (hk : k < 32) (hj : j < 32) (k1 : 1 ≤ k) (j1 : 1 ≤ j) (h : okAt w k = true) (g : okAt w j = true) : k = j :=
  kind_one hk hj k1 j1 (kindOk_of hk h) (kindOk_of hj g)
theorem word_low {k : Nat} (hk : k < 32) (k1 : 1 ≤ k) {rd a b n : Int} (h : may k rd a b n = true) : word k rd a b n % 4 = 3 := by
  have h1 := (of_may hk h).1
  simp only [kindOk, Bool.and_eq_true, decide_eq_true_eq] at h1
  have := op_low hk k1
  omega
end M
end Go.Proofs.YtclbkdnihhmglaaDoor.E

namespace Go.Proofs.YtclbkdnihhmglaaDoor.E
open Go.RowKit
namespace M

theorem and1 {x : Int} (h0 : 0 ≤ x) (h1 : x < 4294967296) : bits .and .u32 x 1 = x % 2 := by
  rw [u32_and x 1 h0 h1 (by omega) (by omega)]; simp only [Int.reduceToNat, nat_mask1]; omega
theorem and7 {x : Int} (h0 : 0 ≤ x) (h1 : x < 4294967296) : bits .and .u32 x 7 = x % 8 := by
  rw [u32_and x 7 h0 h1 (by omega) (by omega)]; simp only [Int.reduceToNat, nat_mask3]; omega
theorem and15 {x : Int} (h0 : 0 ≤ x) (h1 : x < 4294967296) : bits .and .u32 x 15 = x % 16 := by
  rw [u32_and x 15 h0 h1 (by omega) (by omega)]; simp only [Int.reduceToNat, nat_mask4]; omega
theorem and31 {x : Int} (h0 : 0 ≤ x) (h1 : x < 4294967296) : bits .and .u32 x 31 = x % 32 := by
  rw [u32_and x 31 h0 h1 (by omega) (by omega)]; simp only [Int.reduceToNat, nat_mask5]; omega
theorem and63 {x : Int} (h0 : 0 ≤ x) (h1 : x < 4294967296) : bits .and .u32 x 63 = x % 64 := by
  rw [u32_and x 63 h0 h1 (by omega) (by omega)]; simp only [Int.reduceToNat, nat_mask6]; omega
theorem and127 {x : Int} (h0 : 0 ≤ x) (h1 : x < 4294967296) : bits .and .u32 x 127 = x % 128 := by
  rw [u32_and x 127 h0 h1 (by omega) (by omega)]; simp only [Int.reduceToNat, nat_mask7]; omega
theorem and255 {x : Int} (h0 : 0 ≤ x) (h1 : x < 4294967296) : bits .and .u32 x 255 = x % 256 := by
  rw [u32_and x 255 h0 h1 (by omega) (by omega)]; simp only [Int.reduceToNat, nat_mask8]; omega
theorem and1023 {x : Int} (h0 : 0 ≤ x) (h1 : x < 4294967296) : bits .and .u32 x 1023 = x % 1024 := by
  rw [u32_and x 1023 h0 h1 (by omega) (by omega)]; simp only [Int.reduceToNat, nat_mask10]; omega
theorem and4095 {x : Int} (h0 : 0 ≤ x) (h1 : x < 4294967296) : bits .and .u32 x 4095 = x % 4096 := by
  rw [u32_and x 4095 h0 h1 (by omega) (by omega)]; simp only [Int.reduceToNat, nat_mask12]; omega
theorem and1048575 {x : Int} (h0 : 0 ≤ x) (h1 : x < 4294967296) : bits .and .u32 x 1048575 = x % 1048576 := by
  rw [u32_and x 1048575 h0 h1 (by omega) (by omega)]; simp only [Int.reduceToNat, nat_mask20]; omega

/-- the upper one first, or behind -/
theorem or_hi (i : Nat) (S : Nat) (hS : 2 ^ i = S) {x y : Int} (x0 : 0 ≤ x) (x1 : x < 4294967296) (hx : x % (S : Int) = 0) (y0 : 0 ≤ y) (y1 : y < (S : Int)) (y2 : y < 4294967296) : bits .or .u32 x y = x + y := by
  obtain ⟨X, rfl⟩ := Int.eq_ofNat_of_zero_le x0
  obtain ⟨Y, rfl⟩ := Int.eq_ofNat_of_zero_le y0
  rw [u32_or_nat X Y (by omega) (by omega), nat_join i X Y (by rw [hS]; omega) (by rw [hS]; omega)]; omega
theorem or_lo (i : Nat) (S : Nat) (hS : 2 ^ i = S) {x y : Int} (x0 : 0 ≤ x) (x1 : x < 4294967296) (hx : x % (S : Int) = 0) (y0 : 0 ≤ y) (y1 : y < (S : Int)) (y2 : y < 4294967296) : bits .or .u32 y x = y + x := by
  obtain ⟨X, rfl⟩ := Int.eq_ofNat_of_zero_le x0
  obtain ⟨Y, rfl⟩ := Int.eq_ofNat_of_zero_le y0
  rw [u32_or_nat Y X (by omega) (by omega), Nat.or_comm, nat_join i X Y (by rw [hS]; omega) (by rw [hS]; omega)]; omega
theorem or_zero {x : Int} (x0 : 0 ≤ x) (x1 : x < 4294967296) : bits .or .u32 x 0 = x := by
  rw [u32_or x 0 x0 x1 (by omega) (by omega)]; simp; omega

/-- the fields that all forms have -/
theorem or_six {o f g d a b : Int} (o0 : 0 ≤ o) (o1 : o < 128) (f0 : 0 ≤ f) (f1 : f < 8) (g0 : 0 ≤ g) (g1 : g < 128) (d0 : 0 ≤ d) (d1 : d < 32) (a0 : 0 ≤ a) (a1 : a < 32) (b0 : 0 ≤ b) (b1 : b < 32) :
    bits .or .u32 (bits .or .u32 (bits .or .u32 o (f * 4096)) (g * 33554432)) (bits .or .u32 (bits .or .u32 (d * 128) (a * 32768)) (b * 1048576)) = o + f * 4096 + g * 33554432 + d * 128 + a * 32768 + b * 1048576 := by
  rw [or_lo 12 4096 rfl (x := f * 4096) (by omega) (by omega) (by omega) o0 (by omega) (by omega),
    or_lo 25 33554432 rfl (x := g * 33554432) (by omega) (by omega) (by omega) (by omega) (by omega) (by omega),
    or_lo 15 32768 rfl (x := a * 32768) (by omega) (by omega) (by omega) (by omega) (by omega) (by omega),
    or_lo 20 1048576 rfl (x := b * 1048576) (by omega) (by omega) (by omega) (by omega) (by omega) (by omega)]
  obtain ⟨o, rfl⟩ := Int.eq_ofNat_of_zero_le o0
  obtain ⟨f, rfl⟩ := Int.eq_ofNat_of_zero_le f0
  obtain ⟨g, rfl⟩ := Int.eq_ofNat_of_zero_le g0
  obtain ⟨d, rfl⟩ := Int.eq_ofNat_of_zero_le d0
  obtain ⟨a, rfl⟩ := Int.eq_ofNat_of_zero_le a0
  obtain ⟨b, rfl⟩ := Int.eq_ofNat_of_zero_le b0
  have e1 : ((o : Int) + f * 4096 + g * 33554432) = ((g * 33554432 + (f * 4096 + o) : Nat) : Int) := by omega
  have e2 : ((d : Int) * 128 + a * 32768 + b * 1048576) = ((b * 1048576 + (a * 32768 + d * 128) : Nat) : Int) := by omega
  conv => lhs; rw [e1, e2, u32_or_nat _ _ (by omega) (by omega), ← nat_join 25 (g * 33554432) (f * 4096 + o) (by omega) (by omega), ← nat_join 12 (f * 4096) o (by omega) (by omega), ← nat_join 20 (b * 1048576) (a * 32768 + d * 128) (by omega) (by omega), ← nat_join 15 (a * 32768) (d * 128) (by omega) (by omega)]
  have e3 : (g * 33554432 ||| (f * 4096 ||| o)) ||| (b * 1048576 ||| (a * 32768 ||| d * 128)) = g * 33554432 ||| (b * 1048576 ||| (a * 32768 ||| (f * 4096 ||| (d * 128 ||| o)))) := by ac_rfl
  rw [e3, nat_join 7 (d * 128) o (by omega) (by omega), nat_join 12 (f * 4096) _ (by omega) (by omega), nat_join 15 (a * 32768) _ (by omega) (by omega), nat_join 20 (b * 1048576) _ (by omega) (by omega), nat_join 25 (g * 33554432) _ (by omega) (by omega)]
  omega
/-- what stands between, of the forms S and B -/
theorem or_between {o h p q : Int} (o0 : 0 ≤ o) (o1 : o < 128) (h0 : 0 ≤ h) (h1 : h < 8192) (p0 : 0 ≤ p) (p1 : p < 32) (q0 : 0 ≤ q) (q1 : q < 128) :
    bits .or .u32 (o + h * 4096) (p * 128 + q * 33554432) = o + h * 4096 + (p * 128 + q * 33554432) := by
  obtain ⟨o, rfl⟩ := Int.eq_ofNat_of_zero_le o0
  obtain ⟨h, rfl⟩ := Int.eq_ofNat_of_zero_le h0
  obtain ⟨p, rfl⟩ := Int.eq_ofNat_of_zero_le p0
  obtain ⟨q, rfl⟩ := Int.eq_ofNat_of_zero_le q0
  have e1 : ((o : Int) + h * 4096) = ((h * 4096 + o : Nat) : Int) := by omega
  have e2 : ((p : Int) * 128 + q * 33554432) = ((q * 33554432 + p * 128 : Nat) : Int) := by omega
  conv => lhs; rw [e1, e2, u32_or_nat _ _ (by omega) (by omega), ← nat_join 12 (h * 4096) o (by omega) (by omega), ← nat_join 25 (q * 33554432) (p * 128) (by omega) (by omega)]
  have e3 : (h * 4096 ||| o) ||| (q * 33554432 ||| p * 128) = q * 33554432 ||| (h * 4096 ||| (p * 128 ||| o)) := by ac_rfl
  rw [e3, nat_join 7 (p * 128) o (by omega) (by omega), nat_join 12 (h * 4096) _ (by omega) (by omega), nat_join 25 (q * 33554432) _ (by omega) (by omega)]
  omega

theorem lay1 (n : Int) : bits .and .u32 (n % 4294967296) 4095 * 1048576 % 4294967296 = lay 1 n := by
  rw [and4095 (by omega) (by omega)]; simp only [lay]; omega
theorem lay3 (n : Int) : bits .or .u32 (bits .and .u32 (n % 4294967296) 31 * 128 % 4294967296) (bits .and .u32 (n % 4294967296 / 32) 127 * 33554432 % 4294967296) = lay 3 n := by
  rw [and31 (by omega) (by omega), and127 (by omega) (by omega)]
  have e1 : n % 4294967296 % 32 = n % 32 := by omega
  have e2 : n % 4294967296 / 32 % 128 = n / 32 % 128 := by omega
  rw [e1, e2]
  simp only [lay]
  have := Int.emod_nonneg n (b := 32) (by omega)
  have := Int.emod_lt_of_pos n (b := 32) (by omega)
  have := Int.emod_nonneg (n / 32) (b := 128) (by omega)
  have := Int.emod_lt_of_pos (n / 32) (b := 128) (by omega)
  generalize n % 32 = p at *
  generalize n / 32 % 128 = q at *
  rw [Int.emod_eq_of_lt (a := p * 128) (by omega) (by omega), Int.emod_eq_of_lt (a := q * 33554432) (by omega) (by omega), or_lo 25 33554432 rfl (x := q * 33554432) (by omega) (by omega) (by omega) (by omega) (by omega) (by omega)]
theorem lay4 (n : Int) : bits .or .u32 (bits .or .u32 (bits .or .u32 (bits .and .u32 (n % 4294967296 / 2048) 1 * 128 % 4294967296) (bits .and .u32 (n % 4294967296 / 2) 15 * 256 % 4294967296))
    (bits .and .u32 (n % 4294967296 / 32) 63 * 33554432 % 4294967296)) (bits .and .u32 (n % 4294967296 / 4096) 1 * 2147483648 % 4294967296) = lay 4 n := by
  rw [and1 (by omega) (by omega), and15 (by omega) (by omega), and63 (by omega) (by omega), and1 (by omega) (by omega)]
  have e1 : n % 4294967296 / 2048 % 2 = n / 2048 % 2 := by omega
  have e2 : n % 4294967296 / 2 % 16 = n / 2 % 16 := by omega
  have e3 : n % 4294967296 / 32 % 64 = n / 32 % 64 := by omega
  have e4 : n % 4294967296 / 4096 % 2 = n / 4096 % 2 := by omega
  rw [e1, e2, e3, e4]
  simp only [lay]
  have a1 := Int.emod_nonneg (n / 2048) (b := 2) (by omega)
  have a2 := Int.emod_lt_of_pos (n / 2048) (b := 2) (by omega)
  have a3 := Int.emod_nonneg (n / 2) (b := 16) (by omega)
  have a4 := Int.emod_lt_of_pos (n / 2) (b := 16) (by omega)
  have a5 := Int.emod_nonneg (n / 32) (b := 64) (by omega)
  have a6 := Int.emod_lt_of_pos (n / 32) (b := 64) (by omega)
  have a7 := Int.emod_nonneg (n / 4096) (b := 2) (by omega)
  have a8 := Int.emod_lt_of_pos (n / 4096) (b := 2) (by omega)
  clear e1 e2 e3 e4
  generalize n / 2048 % 2 = p at *
  generalize n / 2 % 16 = q at *
  generalize n / 32 % 64 = r at *
  generalize n / 4096 % 2 = s at *
  rw [Int.emod_eq_of_lt (a := p * 128) (by omega) (by omega), Int.emod_eq_of_lt (a := q * 256) (by omega) (by omega), Int.emod_eq_of_lt (a := r * 33554432) (by omega) (by omega), Int.emod_eq_of_lt (a := s * 2147483648) (by omega) (by omega),
    or_lo 8 256 rfl (x := q * 256) (by omega) (by omega) (by omega) (by omega) (by omega) (by omega), or_lo 25 33554432 rfl (x := r * 33554432) (by omega) (by omega) (by omega) (by omega) (by omega) (by omega), or_lo 31 2147483648 rfl (x := s * 2147483648) (by omega) (by omega) (by omega) (by omega) (by omega) (by omega)]
theorem lay5 (n : Int) : bits .and .u32 (n % 4294967296 / 4096) 1048575 * 4096 % 4294967296 = lay 5 n := by
  rw [and1048575 (by omega) (by omega)]; simp only [lay]; omega
theorem lay6 (n : Int) : bits .or .u32 (bits .or .u32 (bits .or .u32 (bits .and .u32 (n % 4294967296 / 4096) 255 * 4096 % 4294967296) (bits .and .u32 (n % 4294967296 / 2048) 1 * 1048576 % 4294967296))
    (bits .and .u32 (n % 4294967296 / 2) 1023 * 2097152 % 4294967296)) (bits .and .u32 (n % 4294967296 / 1048576) 1 * 2147483648 % 4294967296) = lay 6 n := by
  rw [and255 (by omega) (by omega), and1 (by omega) (by omega), and1023 (by omega) (by omega), and1 (by omega) (by omega)]
  have e1 : n % 4294967296 / 4096 % 256 = n / 4096 % 256 := by omega
  have e2 : n % 4294967296 / 2048 % 2 = n / 2048 % 2 := by omega
  have e3 : n % 4294967296 / 2 % 1024 = n / 2 % 1024 := by omega
  have e4 : n % 4294967296 / 1048576 % 2 = n / 1048576 % 2 := by omega
  rw [e1, e2, e3, e4]
  simp only [lay]
  have a1 := Int.emod_nonneg (n / 4096) (b := 256) (by omega)
  have a2 := Int.emod_lt_of_pos (n / 4096) (b := 256) (by omega)
  have a3 := Int.emod_nonneg (n / 2048) (b := 2) (by omega)
  have a4 := Int.emod_lt_of_pos (n / 2048) (b := 2) (by omega)
  have a5 := Int.emod_nonneg (n / 2) (b := 1024) (by omega)
  have a6 := Int.emod_lt_of_pos (n / 2) (b := 1024) (by omega)
  have a7 := Int.emod_nonneg (n / 1048576) (b := 2) (by omega)
  have a8 := Int.emod_lt_of_pos (n / 1048576) (b := 2) (by omega)
  clear e1 e2 e3 e4
  generalize n / 4096 % 256 = p at *
  generalize n / 2048 % 2 = q at *
  generalize n / 2 % 1024 = r at *
  generalize n / 1048576 % 2 = s at *
  rw [Int.emod_eq_of_lt (a := p * 4096) (by omega) (by omega), Int.emod_eq_of_lt (a := q * 1048576) (by omega) (by omega), Int.emod_eq_of_lt (a := r * 2097152) (by omega) (by omega), Int.emod_eq_of_lt (a := s * 2147483648) (by omega) (by omega),
    or_lo 20 1048576 rfl (x := q * 1048576) (by omega) (by omega) (by omega) (by omega) (by omega) (by omega), or_lo 21 2097152 rfl (x := r * 2097152) (by omega) (by omega) (by omega) (by omega) (by omega) (by omega), or_lo 31 2147483648 rfl (x := s * 2147483648) (by omega) (by omega) (by omega) (by omega) (by omega) (by omega)]

theorem imm_eq (n l h m : Int) (h1 : l ≤ n) (h2 : n ≤ h) : (n.tmod m == 0) = imm n l h m := by
  rw [Bool.eq_iff_iff]
  simp only [imm, beq_iff_eq, decide_eq_true_eq]
  constructor
  · intro h; exact ⟨h1, h2, Int.emod_eq_zero_of_dvd (Int.dvd_of_tmod_eq_zero h)⟩
  · intro h; exact Int.tmod_eq_zero_of_dvd (Int.dvd_of_emod_eq_zero h.2.2)

theorem or_mid {p q r : Int} (p0 : 0 ≤ p) (p1 : p < 2) (q0 : 0 ≤ q) (q1 : q < 16) (r0 : 0 ≤ r) (r1 : r < 64) : bits .or .u32 (p * 2048 + q * 2) (r * 32) = p * 2048 + q * 2 + r * 32 := by
  obtain ⟨p, rfl⟩ := Int.eq_ofNat_of_zero_le p0
  obtain ⟨q, rfl⟩ := Int.eq_ofNat_of_zero_le q0
  obtain ⟨r, rfl⟩ := Int.eq_ofNat_of_zero_le r0
  have e1 : ((p : Int) * 2048 + q * 2) = ((p * 2048 + q * 2 : Nat) : Int) := by omega
  have e2 : ((r : Int) * 32) = ((r * 32 : Nat) : Int) := by omega
  conv => lhs; rw [e1, e2, u32_or_nat _ _ (by omega) (by omega), ← nat_join 11 (p * 2048) (q * 2) (by omega) (by omega)]
  have e3 : (p * 2048 ||| q * 2) ||| r * 32 = p * 2048 ||| (r * 32 ||| q * 2) := by ac_rfl
  rw [e3, nat_join 5 (r * 32) (q * 2) (by omega) (by omega), nat_join 11 (p * 2048) _ (by omega) (by omega)]
  omega
theorem sg12 {v : Int} (h0 : 0 ≤ v) (h1 : v < 4096) : wrap64 (wrap32 (v * 1048576 % 4294967296) / 1048576) = sg v 2048 := by
  unfold wrap64 wrap32 sg; omega
theorem sg13 {v : Int} (h0 : 0 ≤ v) (h1 : v < 8192) : wrap64 (wrap32 (v * 524288 % 4294967296) / 524288) = sg v 4096 := by
  unfold wrap64 wrap32 sg; omega
theorem sg21 {v : Int} (h0 : 0 ≤ v) (h1 : v < 2097152) : wrap64 (wrap32 (v * 2048 % 4294967296) / 2048) = sg v 1048576 := by
  unfold wrap64 wrap32 sg; omega
theorem sg32 {v : Int} (h0 : 0 ≤ v) (h1 : v < 4294967296) : wrap64 (wrap32 v) = sg v 2147483648 := by
  unfold wrap64 wrap32 sg; omega
theorem timm1 {v : Int} (v0 : 0 ≤ v) (v1 : v < 4294967296) : wrap64 (wrap32 (bits .and .u32 (v / 1048576) 4095 * 1048576 % 4294967296) / 1048576) = takeImm 1 v := by
  rw [and4095 (by omega) (by omega), sg12 (by omega) (by omega)]; rfl
theorem timm3 {v : Int} (v0 : 0 ≤ v) (v1 : v < 4294967296) : wrap64 (wrap32 (bits .or .u32 (bits .and .u32 (v / 128) 31) (bits .and .u32 (v / 33554432) 127 * 32 % 4294967296) * 1048576 % 4294967296) / 1048576) = takeImm 3 v := by
  rw [and31 (by omega) (by omega), and127 (by omega) (by omega), Int.emod_eq_of_lt (a := v / 33554432 % 128 * 32) (by omega) (by omega),
    or_lo 5 32 rfl (x := v / 33554432 % 128 * 32) (by omega) (by omega) (by omega) (by omega) (by omega) (by omega), sg12 (by omega) (by omega)]; rfl
theorem timm4 {v : Int} (v0 : 0 ≤ v) (v1 : v < 4294967296) : wrap64 (wrap32 (bits .or .u32 (bits .or .u32 (bits .or .u32 (bits .and .u32 (v / 128) 1 * 2048 % 4294967296) (bits .and .u32 (v / 256) 15 * 2 % 4294967296))
    (bits .and .u32 (v / 33554432) 63 * 32 % 4294967296)) (bits .and .u32 (v / 2147483648) 1 * 4096 % 4294967296) * 524288 % 4294967296) / 524288) = takeImm 4 v := by
  rw [and1 (by omega) (by omega), and15 (by omega) (by omega), and63 (by omega) (by omega), and1 (by omega) (by omega)]
  simp only [takeImm]
  have a1 := Int.emod_nonneg (v / 128) (b := 2) (by omega)
  have a2 := Int.emod_lt_of_pos (v / 128) (b := 2) (by omega)
  have a3 := Int.emod_nonneg (v / 256) (b := 16) (by omega)
  have a4 := Int.emod_lt_of_pos (v / 256) (b := 16) (by omega)
  have a5 := Int.emod_nonneg (v / 33554432) (b := 64) (by omega)
  have a6 := Int.emod_lt_of_pos (v / 33554432) (b := 64) (by omega)
  have a7 := Int.emod_nonneg (v / 2147483648) (b := 2) (by omega)
  have a8 := Int.emod_lt_of_pos (v / 2147483648) (b := 2) (by omega)
  generalize v / 128 % 2 = p at *
  generalize v / 256 % 16 = q at *
  generalize v / 33554432 % 64 = r at *
  generalize v / 2147483648 % 2 = s at *
  rw [Int.emod_eq_of_lt (a := p * 2048) (by omega) (by omega), Int.emod_eq_of_lt (a := q * 2) (by omega) (by omega), Int.emod_eq_of_lt (a := r * 32) (by omega) (by omega), Int.emod_eq_of_lt (a := s * 4096) (by omega) (by omega),
    or_hi 11 2048 rfl (x := p * 2048) (by omega) (by omega) (by omega) (by omega) (by omega) (by omega), or_mid a1 a2 a3 a4 a5 a6, or_lo 12 4096 rfl (x := s * 4096) (by omega) (by omega) (by omega) (by omega) (by omega) (by omega), sg13 (by omega) (by omega)]
theorem timm5 {v : Int} (v0 : 0 ≤ v) (v1 : v < 4294967296) : wrap64 (wrap32 (bits .and .u32 (v / 4096) 1048575 * 4096 % 4294967296)) = takeImm 5 v := by
  rw [and1048575 (by omega) (by omega), Int.emod_eq_of_lt (a := v / 4096 % 1048576 * 4096) (by omega) (by omega), sg32 (by omega) (by omega)]; rfl
theorem timm6 {v : Int} (v0 : 0 ≤ v) (v1 : v < 4294967296) : wrap64 (wrap32 (bits .or .u32 (bits .or .u32 (bits .or .u32 (bits .and .u32 (v / 4096) 255 * 4096 % 4294967296) (bits .and .u32 (v / 1048576) 1 * 2048 % 4294967296))
    (bits .and .u32 (v / 2097152) 1023 * 2 % 4294967296)) (bits .and .u32 (v / 2147483648) 1 * 1048576 % 4294967296) * 2048 % 4294967296) / 2048) = takeImm 6 v := by
  rw [and255 (by omega) (by omega), and1 (by omega) (by omega), and1023 (by omega) (by omega), and1 (by omega) (by omega)]
  simp only [takeImm]
  have a1 := Int.emod_nonneg (v / 4096) (b := 256) (by omega)
  have a2 := Int.emod_lt_of_pos (v / 4096) (b := 256) (by omega)
  have a3 := Int.emod_nonneg (v / 1048576) (b := 2) (by omega)
  have a4 := Int.emod_lt_of_pos (v / 1048576) (b := 2) (by omega)
  have a5 := Int.emod_nonneg (v / 2097152) (b := 1024) (by omega)
  have a6 := Int.emod_lt_of_pos (v / 2097152) (b := 1024) (by omega)
  have a7 := Int.emod_nonneg (v / 2147483648) (b := 2) (by omega)
  have a8 := Int.emod_lt_of_pos (v / 2147483648) (b := 2) (by omega)
  generalize v / 4096 % 256 = p at *
  generalize v / 1048576 % 2 = q at *
  generalize v / 2097152 % 1024 = r at *
  generalize v / 2147483648 % 2 = s at *
  rw [Int.emod_eq_of_lt (a := p * 4096) (by omega) (by omega), Int.emod_eq_of_lt (a := q * 2048) (by omega) (by omega), Int.emod_eq_of_lt (a := r * 2) (by omega) (by omega), Int.emod_eq_of_lt (a := s * 1048576) (by omega) (by omega),
    or_hi 12 4096 rfl (x := p * 4096) (by omega) (by omega) (by omega) (by omega) (by omega) (by omega), or_hi 11 2048 rfl (x := p * 4096 + q * 2048) (by omega) (by omega) (by omega) (by omega) (by omega) (by omega),
    or_lo 20 1048576 rfl (x := s * 1048576) (by omega) (by omega) (by omega) (by omega) (by omega) (by omega), sg21 (by omega) (by omega)]

theorem regs_in {k : Nat} (hk : k < 32) {rd a b n : Int} (h : may k rd a b n = true) : (0 ≤ rd ∧ rd < 32) ∧ (0 ≤ a ∧ a < 32) ∧ (0 ≤ b ∧ b < 32) := by
  obtain ⟨h1, h2, h3, _⟩ := may_parts h
  rcases fm_cases hk with e | e | e | e | e | e | e | e <;>
  · simp [e, hasRd, hasA, hasB, reg] at h1 h2 h3
    omega
/-- the word, as it is put together -/
theorem word_or {k : Nat} (hk : k < 32) {rd a b n : Int} (h : may k rd a b n = true) :
    bits .or .u32 (bits .or .u32 (bits .or .u32 (bits .or .u32 (op k) (f3 k * 4096)) (f7 k * 33554432)) (bits .or .u32 (bits .or .u32 (rd * 128) (a * 32768)) (b * 1048576))) (lay (fm k) n) = word k rd a b n := by
  have o := op_in hk
  have e3 := f3_in hk
  have e7 := f7_in hk
  have n7 := f7_no hk
  have n3 := f3_no hk
  obtain ⟨⟨d0, d1⟩, ⟨a0, a1⟩, b0, b1⟩ := regs_in hk h
  rw [or_six o.1 o.2 e3.1 e3.2 e7.1 e7.2 d0 d1 a0 a1 b0 b1]
  unfold word
  rcases fm_cases hk with e | e | e | e | e | e | e | e
  all_goals
    simp only [may, e, hasRd, hasA, hasB, lo, hi, mu, reg, imm, List.getD_cons_zero, List.getD_cons_succ, Bool.and_eq_true, decide_eq_true_eq, if_true, Bool.false_eq_true, if_false] at h
    simp only [e, lay]
    simp only [e, hasF3] at n7 n3
    simp at n7 n3
  · rw [or_zero (by omega) (by omega), Int.add_zero]
  · exact or_lo 20 1048576 rfl (by omega) (by omega) (by omega) (by omega) (by omega) (by omega)
  · exact or_lo 20 1048576 rfl (by omega) (by omega) (by omega) (by omega) (by omega) (by omega)
  · have x := or_between (o := op k) (h := f3 k + a * 8 + b * 256) (p := n % 32) (q := n / 32 % 128) o.1 o.2 (by omega) (by omega) (by omega) (by omega) (by omega) (by omega)
    have y : op k + f3 k * 4096 + f7 k * 33554432 + rd * 128 + a * 32768 + b * 1048576 = op k + (f3 k + a * 8 + b * 256) * 4096 := by omega
    rw [y, x]
  · have x := or_between (o := op k) (h := f3 k + a * 8 + b * 256) (p := n / 2048 % 2 + n / 2 % 16 * 2) (q := n / 32 % 64 + n / 4096 % 2 * 64) o.1 o.2 (by omega) (by omega) (by omega) (by omega) (by omega) (by omega)
    have y : op k + f3 k * 4096 + f7 k * 33554432 + rd * 128 + a * 32768 + b * 1048576 = op k + (f3 k + a * 8 + b * 256) * 4096 := by omega
    have z : n / 2048 % 2 * 128 + n / 2 % 16 * 256 + n / 32 % 64 * 33554432 + n / 4096 % 2 * 2147483648 = (n / 2048 % 2 + n / 2 % 16 * 2) * 128 + (n / 32 % 64 + n / 4096 % 2 * 64) * 33554432 := by omega
    rw [y, z, x]
  · exact or_lo 12 4096 rfl (by omega) (by omega) (by omega) (by omega) (by omega) (by omega)
  · exact or_lo 12 4096 rfl (by omega) (by omega) (by omega) (by omega) (by omega) (by omega)
  · rw [or_zero (by omega) (by omega), Int.add_zero]
end M
end Go.Proofs.YtclbkdnihhmglaaDoor.E
