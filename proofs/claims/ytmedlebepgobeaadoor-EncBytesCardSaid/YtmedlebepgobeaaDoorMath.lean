/- Plain facts about instructions and their words, with no program in them: an instruction that may be is told by its word, and by no other one's. -/
import Derived.Laws.BitsAllLaws
namespace Go.Proofs.YtmedlebepgobeaaDoor
namespace M

def fmL : List Nat := [0, 0, 0, 0, 0, 0, 0, 0, 0, 0, 0, 0, 1, 1, 1, 1, 1, 2, 2, 1, 1, 3, 3, 4, 4, 4, 4, 5, 5, 6, 1, 7]
def opL : List Int := [0, 51, 51, 51, 51, 51, 51, 51, 51, 51, 51, 51, 19, 19, 19, 19, 19, 19, 19, 3, 3, 35, 35, 99, 99, 99, 99, 55, 23, 111, 103, 115]
def f3L : List Int := [0, 0, 0, 1, 3, 4, 5, 6, 7, 0, 5, 7, 0, 3, 4, 6, 7, 1, 5, 3, 4, 3, 0, 0, 1, 6, 7, 0, 0, 0, 0, 0]
def f7L : List Int := [0, 0, 32, 0, 0, 0, 0, 0, 0, 1, 1, 1, 0, 0, 0, 0, 0, 0, 0, 0, 0, 0, 0, 0, 0, 0, 0, 0, 0, 0, 0, 0]
def fm (k : Nat) : Nat := fmL.getD k 0
def op (k : Nat) : Int := opL.getD k 0
def f3 (k : Nat) : Int := f3L.getD k 0
def f7 (k : Nat) : Int := f7L.getD k 0
def hasRd (f : Nat) : Bool := [true, true, true, false, false, true, true, false].getD f false
def hasA (f : Nat) : Bool := [true, true, true, true, true, false, false, false].getD f false
def hasB (f : Nat) : Bool := [true, false, false, true, true, false, false, false].getD f false
def lo (f : Nat) : Int := [0, -2048, 0, -2048, -4096, -2147483648, -1048576, 0].getD f 0
def hi (f : Nat) : Int := [0, 2047, 63, 2047, 4094, 2147479552, 1048574, 0].getD f 0
def mu (f : Nat) : Int := [1, 1, 1, 1, 2, 4096, 2, 1].getD f 1

def reg (r : Int) (has : Bool) : Bool := if has then decide (0 ≤ r ∧ r < 32) else decide (r = 0)
def imm (n l h m : Int) : Bool := decide (l ≤ n ∧ n ≤ h ∧ n % m = 0)
/-- may an instruction of kind k (1 to 31) be? -/
def may (k : Nat) (rd a b n : Int) : Bool :=
  reg rd (hasRd (fm k)) && (reg a (hasA (fm k)) && (reg b (hasB (fm k)) && imm n (lo (fm k)) (hi (fm k)) (mu (fm k))))

def lay (f : Nat) (n : Int) : Int :=
  match f with
  | 1 | 2 => n % 4096 * 1048576
  | 3 => n % 32 * 128 + n / 32 % 128 * 33554432
  | 4 => n / 2048 % 2 * 128 + n / 2 % 16 * 256 + n / 32 % 64 * 33554432 + n / 4096 % 2 * 2147483648
  | 5 => n / 4096 % 1048576 * 4096
  | 6 => n / 4096 % 256 * 4096 + n / 2048 % 2 * 1048576 + n / 2 % 1024 * 2097152 + n / 1048576 % 2 * 2147483648
  | _ => 0

def word (k : Nat) (rd a b n : Int) : Int := op k + f3 k * 4096 + f7 k * 33554432 + rd * 128 + a * 32768 + b * 1048576 + lay (fm k) n

def sg (v h : Int) : Int := if v < h then v else v - 2 * h
def takeImm (f : Nat) (w : Int) : Int :=
  match f with
  | 1 | 2 => sg (w / 1048576 % 4096) 2048
  | 3 => sg (w / 128 % 32 + w / 33554432 % 128 * 32) 2048
  | 4 => sg (w / 128 % 2 * 2048 + w / 256 % 16 * 2 + w / 33554432 % 64 * 32 + w / 2147483648 % 2 * 4096) 4096
  | 5 => sg (w / 4096 % 1048576 * 4096) 2147483648
  | 6 => sg (w / 4096 % 256 * 4096 + w / 1048576 % 2 * 2048 + w / 2097152 % 1024 * 2 + w / 2147483648 % 2 * 1048576) 1048576
  | _ => 0
def tRd (k : Nat) (w : Int) : Int := if hasRd (fm k) then w / 128 % 32 else 0
def tA (k : Nat) (w : Int) : Int := if hasA (fm k) then w / 32768 % 32 else 0
def tB (k : Nat) (w : Int) : Int := if hasB (fm k) then w / 1048576 % 32 else 0
def tI (k : Nat) (w : Int) : Int := takeImm (fm k) w
/-- w is the word of the instruction that it has when read as one of kind k, and that may be -/
def okAt (w : Int) (k : Nat) : Bool := may k (tRd k w) (tA k w) (tB k w) (tI k w) && decide (word k (tRd k w) (tA k w) (tB k w) (tI k w) = w)
def hasF3 (f : Nat) : Bool := f != 5 && f != 6
def tF3 (k : Nat) (w : Int) : Int := if hasF3 (fm k) then w / 4096 % 8 else 0
def tF7 (k : Nat) (w : Int) : Int := if fm k == 0 then w / 33554432 % 128 else 0
def kindOk (w : Int) (k : Nat) : Bool := decide (w % 128 = op k) && (decide (tF3 k w = f3 k) && decide (tF7 k w = f7 k))

theorem split {P : Nat → Prop} (h : ∀ k ∈ List.range 32, P k) {k : Nat} (hk : k < 32) : P k := h k (by simp [hk])
theorem fm_le {k : Nat} (hk : k < 32) : fm k ≤ 7 := split (P := fun k => fm k ≤ 7) (by decide) hk
theorem op_in {k : Nat} (hk : k < 32) : 0 ≤ op k ∧ op k < 128 := split (P := fun k => 0 ≤ op k ∧ op k < 128) (by decide) hk
theorem f3_in {k : Nat} (hk : k < 32) : 0 ≤ f3 k ∧ f3 k < 8 := split (P := fun k => 0 ≤ f3 k ∧ f3 k < 8) (by decide) hk
theorem f7_in {k : Nat} (hk : k < 32) : 0 ≤ f7 k ∧ f7 k < 128 := split (P := fun k => 0 ≤ f7 k ∧ f7 k < 128) (by decide) hk
theorem f7_no {k : Nat} (hk : k < 32) (h : fm k ≠ 0) : f7 k = 0 := split (P := fun k => fm k ≠ 0 → f7 k = 0) (by decide) hk h
theorem f3_no {k : Nat} (hk : k < 32) (h : hasF3 (fm k) = false) : f3 k = 0 := split (P := fun k => hasF3 (fm k) = false → f3 k = 0) (by decide) hk h
theorem op_low {k : Nat} (hk : k < 32) (h1 : 1 ≤ k) : op k % 4 = 3 := split (P := fun k => 1 ≤ k → op k % 4 = 3) (by decide) hk h1
theorem apart {k j : Nat} (hk : k < 32) (hj : j < 32) (k1 : 1 ≤ k) (j1 : 1 ≤ j) (h1 : op k = op j) (h2 : hasF3 (fm k) = true → f3 k = f3 j) (h3 : fm k = 0 → f7 k = f7 j) : k = j :=
  split (P := fun k => ∀ j ∈ List.range 32, 1 ≤ k → 1 ≤ j → op k = op j → (hasF3 (fm k) = true → f3 k = f3 j) → (fm k = 0 → f7 k = f7 j) → k = j) (by decide) hk j (by simp [hj]) k1 j1 h1 h2 h3

theorem fm_cases {k : Nat} (hk : k < 32) : fm k = 0 ∨ fm k = 1 ∨ fm k = 2 ∨ fm k = 3 ∨ fm k = 4 ∨ fm k = 5 ∨ fm k = 6 ∨ fm k = 7 := by
  have := fm_le hk; omega

theorem s_of {n : Int} (h1 : -2048 ≤ n) (h2 : n ≤ 2047) : ∃ p q : Int, n % 32 = p ∧ n / 32 % 128 = q ∧ 0 ≤ p ∧ p < 32 ∧ 0 ≤ q ∧ q < 128 ∧ sg (p + q * 32) 2048 = n :=
  ⟨_, _, rfl, rfl, by omega, by omega, by omega, by omega, by unfold sg; omega⟩
theorem b_of {n : Int} (h1 : -4096 ≤ n) (h2 : n ≤ 4094) (h3 : n % 2 = 0) : ∃ p q r s : Int, n / 2048 % 2 = p ∧ n / 2 % 16 = q ∧ n / 32 % 64 = r ∧ n / 4096 % 2 = s ∧
    0 ≤ p ∧ p < 2 ∧ 0 ≤ q ∧ q < 16 ∧ 0 ≤ r ∧ r < 64 ∧ 0 ≤ s ∧ s < 2 ∧ sg (p * 2048 + q * 2 + r * 32 + s * 4096) 4096 = n :=
  ⟨_, _, _, _, rfl, rfl, rfl, rfl, by omega, by omega, by omega, by omega, by omega, by omega, by omega, by omega, by unfold sg; omega⟩
theorem j_of {n : Int} (h1 : -1048576 ≤ n) (h2 : n ≤ 1048574) (h3 : n % 2 = 0) : ∃ p q r s : Int, n / 4096 % 256 = p ∧ n / 2048 % 2 = q ∧ n / 2 % 1024 = r ∧ n / 1048576 % 2 = s ∧
    0 ≤ p ∧ p < 256 ∧ 0 ≤ q ∧ q < 2 ∧ 0 ≤ r ∧ r < 1024 ∧ 0 ≤ s ∧ s < 2 ∧ sg (p * 4096 + q * 2048 + r * 2 + s * 1048576) 1048576 = n :=
  ⟨_, _, _, _, rfl, rfl, rfl, rfl, by omega, by omega, by omega, by omega, by omega, by omega, by omega, by omega, by unfold sg; omega⟩

/-- what the parts of a word of an instruction that may be come to -/
def Parts (k : Nat) (w rd a b n : Int) : Prop :=
  kindOk w k = true ∧ tRd k w = rd ∧ tA k w = a ∧ tB k w = b ∧ tI k w = n ∧ 0 ≤ w ∧ w < 4294967296
theorem cutf {w l x h : Int} (S M : Int) (hS : 0 < S) (hw : w = l + S * (x + M * h)) (l0 : 0 ≤ l) (l1 : l < S) (x0 : 0 ≤ x) (x1 : x < M) : w / S % M = x := by
  have e : w / S = x + M * h := by
    rw [hw, Int.add_mul_ediv_left _ _ (by omega), Int.ediv_eq_zero_of_lt l0 l1, Int.zero_add]
  rw [e, Int.add_mul_emod_self_left]
  exact Int.emod_eq_of_lt x0 x1
theorem low7 {w o h : Int} (hw : w = o + 128 * h) (o0 : 0 ≤ o) (o1 : o < 128) : w % 128 = o := by omega
theorem s_word {o f a b p q : Int} (o0 : 0 ≤ o) (o1 : o < 128) (f0 : 0 ≤ f) (f1 : f < 8) (a0 : 0 ≤ a) (a1 : a < 32) (b0 : 0 ≤ b) (b1 : b < 32) (p0 : 0 ≤ p) (p1 : p < 32) (q0 : 0 ≤ q) (q1 : q < 128)
    {w : Int} (hw : w = o + p * 128 + f * 4096 + a * 32768 + b * 1048576 + q * 33554432) :
    w % 128 = o ∧ w / 4096 % 8 = f ∧ w / 32768 % 32 = a ∧ w / 1048576 % 32 = b ∧ w / 128 % 32 = p ∧ w / 33554432 % 128 = q ∧ 0 ≤ w ∧ w < 4294967296 :=
  ⟨low7 (h := p + f * 32 + a * 256 + b * 8192 + q * 262144) (by omega) o0 o1,
   cutf 4096 8 (by decide) (l := o + p * 128) (h := a + b * 32 + q * 1024) (by omega) (by omega) (by omega) f0 f1,
   cutf 32768 32 (by decide) (l := o + p * 128 + f * 4096) (h := b + q * 32) (by omega) (by omega) (by omega) a0 a1,
   cutf 1048576 32 (by decide) (l := o + p * 128 + f * 4096 + a * 32768) (h := q) (by omega) (by omega) (by omega) b0 b1,
   cutf 128 32 (by decide) (l := o) (h := f + a * 8 + b * 256 + q * 8192) (by omega) o0 o1 p0 p1,
   cutf 33554432 128 (by decide) (l := o + p * 128 + f * 4096 + a * 32768 + b * 1048576) (h := 0) (by omega) (by omega) (by omega) q0 q1, by omega, by omega⟩
theorem b_word {o f a b p q r s : Int} (o0 : 0 ≤ o) (o1 : o < 128) (f0 : 0 ≤ f) (f1 : f < 8) (a0 : 0 ≤ a) (a1 : a < 32) (b0 : 0 ≤ b) (b1 : b < 32) (p0 : 0 ≤ p) (p1 : p < 2) (q0 : 0 ≤ q) (q1 : q < 16)
    (r0 : 0 ≤ r) (r1 : r < 64) (s0 : 0 ≤ s) (s1 : s < 2) {w : Int} (hw : w = o + p * 128 + q * 256 + f * 4096 + a * 32768 + b * 1048576 + r * 33554432 + s * 2147483648) :
    w % 128 = o ∧ w / 4096 % 8 = f ∧ w / 32768 % 32 = a ∧ w / 1048576 % 32 = b ∧ w / 128 % 2 = p ∧ w / 256 % 16 = q ∧ w / 33554432 % 64 = r ∧ w / 2147483648 % 2 = s ∧ 0 ≤ w ∧ w < 4294967296 :=
  ⟨low7 (h := p + q * 2 + f * 32 + a * 256 + b * 8192 + r * 262144 + s * 16777216) (by omega) o0 o1,
   cutf 4096 8 (by decide) (l := o + p * 128 + q * 256) (h := a + b * 32 + r * 1024 + s * 65536) (by omega) (by omega) (by omega) f0 f1,
   cutf 32768 32 (by decide) (l := o + p * 128 + q * 256 + f * 4096) (h := b + r * 32 + s * 2048) (by omega) (by omega) (by omega) a0 a1,
   cutf 1048576 32 (by decide) (l := o + p * 128 + q * 256 + f * 4096 + a * 32768) (h := r + s * 64) (by omega) (by omega) (by omega) b0 b1,
   cutf 128 2 (by decide) (l := o) (h := q + f * 16 + a * 128 + b * 4096 + r * 131072 + s * 8388608) (by omega) o0 o1 p0 p1,
   cutf 256 16 (by decide) (l := o + p * 128) (h := f + a * 8 + b * 256 + r * 8192 + s * 524288) (by omega) (by omega) (by omega) q0 q1,
   cutf 33554432 64 (by decide) (l := o + p * 128 + q * 256 + f * 4096 + a * 32768 + b * 1048576) (h := s) (by omega) (by omega) (by omega) r0 r1,
   cutf 2147483648 2 (by decide) (l := o + p * 128 + q * 256 + f * 4096 + a * 32768 + b * 1048576 + r * 33554432) (h := 0) (by omega) (by omega) (by omega) s0 s1, by omega, by omega⟩
theorem j_word {o d p q r s : Int} (o0 : 0 ≤ o) (o1 : o < 128) (d0 : 0 ≤ d) (d1 : d < 32) (p0 : 0 ≤ p) (p1 : p < 256) (q0 : 0 ≤ q) (q1 : q < 2)
    (r0 : 0 ≤ r) (r1 : r < 1024) (s0 : 0 ≤ s) (s1 : s < 2) {w : Int} (hw : w = o + d * 128 + p * 4096 + q * 1048576 + r * 2097152 + s * 2147483648) :
    w % 128 = o ∧ w / 128 % 32 = d ∧ w / 4096 % 256 = p ∧ w / 1048576 % 2 = q ∧ w / 2097152 % 1024 = r ∧ w / 2147483648 % 2 = s ∧ 0 ≤ w ∧ w < 4294967296 :=
  ⟨low7 (h := d + p * 32 + q * 8192 + r * 16384 + s * 16777216) (by omega) o0 o1,
   cutf 128 32 (by decide) (l := o) (h := p + q * 256 + r * 512 + s * 524288) (by omega) o0 o1 d0 d1,
   cutf 4096 256 (by decide) (l := o + d * 128) (h := q + r * 2 + s * 2048) (by omega) (by omega) (by omega) p0 p1,
   cutf 1048576 2 (by decide) (l := o + d * 128 + p * 4096) (h := r + s * 1024) (by omega) (by omega) (by omega) q0 q1,
   cutf 2097152 1024 (by decide) (l := o + d * 128 + p * 4096 + q * 1048576) (h := s) (by omega) (by omega) (by omega) r0 r1,
   cutf 2147483648 2 (by decide) (l := o + d * 128 + p * 4096 + q * 1048576 + r * 2097152) (h := 0) (by omega) (by omega) (by omega) s0 s1, by omega, by omega⟩

theorem parts_s {k : Nat} (hk : k < 32) (e : fm k = 3) {a b n : Int} (a0 : 0 ≤ a) (a1 : a < 32) (b0 : 0 ≤ b) (b1 : b < 32) (h1 : -2048 ≤ n) (h2 : n ≤ 2047) : Parts k (word k 0 a b n) 0 a b n := by
  have o := op_in hk
  have e3 := f3_in hk
  have n7 := f7_no hk (by omega)
  obtain ⟨p, q, hp, hq, p0, p1, q0, q1, hs⟩ := s_of h1 h2
  have hw : word k 0 a b n = op k + p * 128 + f3 k * 4096 + a * 32768 + b * 1048576 + q * 33554432 := by simp only [word, lay, e, n7, hp, hq]; omega
  obtain ⟨x1, x2, x3, x4, x5, x6, x7, x8⟩ := s_word o.1 o.2 e3.1 e3.2 a0 a1 b0 b1 p0 p1 q0 q1 hw
  refine ⟨?_, ?_, ?_, ?_, ?_, x7, x8⟩
  · simp [kindOk, tF3, tF7, e, hasF3, n7, x1, x2]
  · simp [tRd, e, hasRd]
  · simp [tA, e, hasA, x3]
  · simp [tB, e, hasB, x4]
  · simp only [tI, takeImm, e, x5, x6]; exact hs
theorem parts_b {k : Nat} (hk : k < 32) (e : fm k = 4) {a b n : Int} (a0 : 0 ≤ a) (a1 : a < 32) (b0 : 0 ≤ b) (b1 : b < 32) (h1 : -4096 ≤ n) (h2 : n ≤ 4094) (h3 : n % 2 = 0) : Parts k (word k 0 a b n) 0 a b n := by
  have o := op_in hk
  have e3 := f3_in hk
  have n7 := f7_no hk (by omega)
  obtain ⟨p, q, r, s, hp, hq, hr, hs, p0, p1, q0, q1, r0, r1, s0, s1, hx⟩ := b_of h1 h2 h3
  have hw : word k 0 a b n = op k + p * 128 + q * 256 + f3 k * 4096 + a * 32768 + b * 1048576 + r * 33554432 + s * 2147483648 := by simp only [word, lay, e, n7, hp, hq, hr, hs]; omega
  obtain ⟨x1, x2, x3, x4, x5, x6, x7, x8, x9, x10⟩ := b_word o.1 o.2 e3.1 e3.2 a0 a1 b0 b1 p0 p1 q0 q1 r0 r1 s0 s1 hw
  refine ⟨?_, ?_, ?_, ?_, ?_, x9, x10⟩
  · simp [kindOk, tF3, tF7, e, hasF3, n7, x1, x2]
  · simp [tRd, e, hasRd]
  · simp [tA, e, hasA, x3]
  · simp [tB, e, hasB, x4]
  · simp only [tI, takeImm, e, x5, x6, x7, x8]; exact hx
theorem parts_j {k : Nat} (hk : k < 32) (e : fm k = 6) {rd n : Int} (d0 : 0 ≤ rd) (d1 : rd < 32) (h1 : -1048576 ≤ n) (h2 : n ≤ 1048574) (h3 : n % 2 = 0) : Parts k (word k rd 0 0 n) rd 0 0 n := by
  have o := op_in hk
  have n3 := f3_no hk (by simp [e, hasF3])
  have n7 := f7_no hk (by omega)
  obtain ⟨p, q, r, s, hp, hq, hr, hs, p0, p1, q0, q1, r0, r1, s0, s1, hx⟩ := j_of h1 h2 h3
  have hw : word k rd 0 0 n = op k + rd * 128 + p * 4096 + q * 1048576 + r * 2097152 + s * 2147483648 := by simp only [word, lay, e, n3, n7, hp, hq, hr, hs]; omega
  obtain ⟨x1, x2, x3, x4, x5, x6, x7, x8⟩ := j_word o.1 o.2 d0 d1 p0 p1 q0 q1 r0 r1 s0 s1 hw
  refine ⟨?_, ?_, ?_, ?_, ?_, x7, x8⟩
  · simp [kindOk, tF3, tF7, e, hasF3, n3, n7, x1]
  · simp [tRd, e, hasRd, x2]
  · simp [tA, e, hasA]
  · simp [tB, e, hasB]
  · simp only [tI, takeImm, e, x3, x4, x5, x6]; exact hx

theorem may_parts {k : Nat} {rd a b n : Int} (h : may k rd a b n = true) : reg rd (hasRd (fm k)) = true ∧ reg a (hasA (fm k)) = true ∧ reg b (hasB (fm k)) = true ∧ imm n (lo (fm k)) (hi (fm k)) (mu (fm k)) = true := by
  simpa [may, Bool.and_eq_true] using h
/-- the parts of a word of an instruction that may be -/
theorem of_may {k : Nat} (hk : k < 32) {rd a b n : Int} (h : may k rd a b n = true) : Parts k (word k rd a b n) rd a b n := by
  have o := op_in hk
  have e3 := f3_in hk
  have e7 := f7_in hk
  have n7 := f7_no hk
  have n3 := f3_no hk
  rcases fm_cases hk with e | e | e | e | e | e | e | e
  all_goals
    simp only [may, e, hasRd, hasA, hasB, lo, hi, mu, reg, imm, List.getD_cons_zero, List.getD_cons_succ, Bool.and_eq_true, decide_eq_true_eq, if_true, Bool.false_eq_true, if_false] at h
  case inr.inr.inr.inl => obtain ⟨rfl, ⟨h1, h2⟩, ⟨h3, h4⟩, h5, h6, _⟩ := h; exact parts_s hk e h1 h2 h3 h4 h5 h6
  case inr.inr.inr.inr.inl => obtain ⟨rfl, ⟨h1, h2⟩, ⟨h3, h4⟩, h5, h6, h7⟩ := h; exact parts_b hk e h1 h2 h3 h4 h5 h6 h7
  case inr.inr.inr.inr.inr.inr.inl => obtain ⟨⟨h1, h2⟩, rfl, rfl, h5, h6, h7⟩ := h; exact parts_j hk e h1 h2 h5 h6 h7
  all_goals
    simp only [e, hasF3] at n7 n3
    simp only [Parts, kindOk, tF3, tF7, tRd, tA, tB, tI, takeImm, sg, word, lay, e, hasRd, hasA, hasB, hasF3, List.getD_cons_zero, List.getD_cons_succ, Bool.and_eq_true, decide_eq_true_eq]
    simp at n7 n3 ⊢
    omega

theorem okAt_word {k : Nat} (hk : k < 32) {rd a b n : Int} (h : may k rd a b n = true) : okAt (word k rd a b n) k = true := by
  obtain ⟨_, e1, e2, e3, e4, _, _⟩ := of_may hk h
  simp [okAt, e1, e2, e3, e4, h]
theorem okAt_parts {w : Int} {k : Nat} (h : okAt w k = true) : may k (tRd k w) (tA k w) (tB k w) (tI k w) = true ∧ word k (tRd k w) (tA k w) (tB k w) (tI k w) = w := by
  simpa [okAt, Bool.and_eq_true] using h
theorem kindOk_of {w : Int} {k : Nat} (hk : k < 32) (h : okAt w k = true) : kindOk w k = true := by
  obtain ⟨h1, h2⟩ := okAt_parts h
  have := (of_may hk h1).1
  rwa [h2] at this
theorem kind_one {w : Int} {k j : Nat} (hk : k < 32) (hj : j < 32) (k1 : 1 ≤ k) (j1 : 1 ≤ j) (h : kindOk w k = true) (g : kindOk w j = true) : k = j := by
  simp only [kindOk, Bool.and_eq_true, decide_eq_true_eq] at h g
  obtain ⟨a1, a2, a3⟩ := h
  obtain ⟨b1, b2, b3⟩ := g
  have ho : op k = op j := by omega
  have hf : fm k = fm j ∨ (fm k = 1 ∧ fm j = 2) ∨ (fm k = 2 ∧ fm j = 1) :=
    split (P := fun k => ∀ j ∈ List.range 32, 1 ≤ k → 1 ≤ j → op k = op j → (fm k = fm j ∨ (fm k = 1 ∧ fm j = 2) ∨ (fm k = 2 ∧ fm j = 1))) (by decide) hk j (by simp [hj]) k1 j1 ho
  refine apart hk hj k1 j1 ho (fun h => ?_) (fun h => ?_)
  · rw [← a2, ← b2]
    unfold tF3
    rcases hf with hf | ⟨hf, hf'⟩ | ⟨hf, hf'⟩
    · rw [hf]
    · simp [hf, hf', hasF3]
    · simp [hf, hf', hasF3]
  · rw [← a3, ← b3]
    unfold tF7
    rcases hf with hf | ⟨hf, hf'⟩ | ⟨hf, hf'⟩
    · rw [hf]
    · omega
    · omega
theorem ok_one_kind {w : Int} {k j : Nat} (hk : k < 32) (hj : j < 32) (k1 : 1 ≤ k) (j1 : 1 ≤ j) (h : okAt w k = true) (g : okAt w j = true) : k = j :=
  kind_one hk hj k1 j1 (kindOk_of hk h) (kindOk_of hj g)
theorem word_low {k : Nat} (hk : k < 32) (k1 : 1 ≤ k) {rd a b n : Int} (h : may k rd a b n = true) : word k rd a b n % 4 = 3 := by
  have h1 := (of_may hk h).1
  simp only [kindOk, Bool.and_eq_true, decide_eq_true_eq] at h1
  have := op_low hk k1
  omega
end M
end Go.Proofs.YtmedlebepgobeaaDoor
