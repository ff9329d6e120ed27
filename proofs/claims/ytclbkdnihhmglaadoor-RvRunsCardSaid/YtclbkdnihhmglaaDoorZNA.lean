/- Package rv's small functions: below, quotient, rest, Goes, next. Exits through many blocks, one at a time. Nothing of the program. Does of package rv. Does of package rv: the shifts, and all kinds. -/
import Derived.Test.YtclbkdnihhmglaaDoorZA
namespace Go.Proofs.YtclbkdnihhmglaaDoor
open Go.RowKit

def U64 (x : Int) : Prop := 0 ≤ x ∧ x ≤ 18446744073709551615
def belowI (a b : Int) : Int := if a < b then 1 else 0
theorem below_any (a b : Int) (w : World) : Calls Tryd.prog 59 #[.int .u64 a, .int .u64 b] w fun e w' => e = .returned (.int .u64 (belowI a b)) ∧ w = w' := by
  go_enter Tryd.func59, Tryd.ntmps59
  go_wp2
  all_goals go_ret
  all_goals exact ⟨ret_int (by simp [belowI]; try omega), rfl⟩
def quotI (a b : Int) : Int := if b = 0 then 18446744073709551615 else a / b
def restI (a b : Int) : Int := if b = 0 then a else a % b
theorem quot_any (a b : Int) (a0 : 0 ≤ a) (a1 : a ≤ 18446744073709551615) (b0 : 0 ≤ b) (w : World) : Calls Tryd.prog 57 #[.int .u64 a, .int .u64 b] w fun e w' => e = .returned (.int .u64 (quotI a b)) ∧ w = w' := by
  by_cases h : b = 0
  · subst h
    go_enter Tryd.func57, Tryd.ntmps57
    go_wp2
    go_ret
    exact ⟨ret_int (by simp [quotI]), rfl⟩
  · have t : (b == 0) = false := by simpa using h
    have m : Int.tdiv a b = a / b := Int.tdiv_eq_ediv_of_nonneg a0
    have l1 : a / b ≤ a := Int.ediv_le_self b a0
    have l0 : 0 ≤ a / b := Int.ediv_nonneg a0 b0
    have wq : IntKind.u64.wrap (a / b) = a / b := by rw [IntKind.wrap_u64]; omega
    have HE := Lib.hid (show quotI a b = a / b by simp [quotI, h])
    obtain ⟨q, hq⟩ : ∃ q, a / b = q := ⟨_, rfl⟩
    rw [hq] at m wq HE
    clear hq l0 l1
    go_enter Tryd.func57, Tryd.ntmps57
    go_wp2
    go_ret
    exact ⟨ret_int (by rw [HE.out]), rfl⟩
theorem rest_any (a b : Int) (a0 : 0 ≤ a) (a1 : a ≤ 18446744073709551615) (b0 : 0 ≤ b) (w : World) : Calls Tryd.prog 58 #[.int .u64 a, .int .u64 b] w fun e w' => e = .returned (.int .u64 (restI a b)) ∧ w = w' := by
  by_cases h : b = 0
  · subst h
    go_enter Tryd.func58, Tryd.ntmps58
    go_wp2
    go_ret
    exact ⟨ret_int (by simp [restI]), rfl⟩
  · have t : (b == 0) = false := by simpa using h
    have m : Int.tmod a b = a % b := Int.tmod_eq_emod_of_nonneg a0
    have l0 : 0 ≤ a % b := Int.emod_nonneg a h
    have l1 : a % b ≤ a := by
      have h1 := Int.mul_ediv_add_emod a b
      have h2 : 0 ≤ b * (a / b) := Int.mul_nonneg b0 (Int.ediv_nonneg a0 b0)
      omega
    have wq : IntKind.u64.wrap (a % b) = a % b := by rw [IntKind.wrap_u64]; omega
    have HE := Lib.hid (show restI a b = a % b by simp [restI, h])
    obtain ⟨q, hq⟩ : ∃ q, a % b = q := ⟨_, rfl⟩
    rw [hq] at m wq HE
    clear hq l0 l1
    go_enter Tryd.func58, Tryd.ntmps58
    go_wp2
    go_ret
    exact ⟨ret_int (by rw [HE.out]), rfl⟩

/-- an instruction as a value -/
def opV (k rd a b i : Int) : Value := .agg #[.int .i64 k, .int .i64 rd, .int .i64 a, .int .i64 b, .int .i64 i]
def goesB (k a b : Int) : Bool := if k = 23 then a == b else if k = 24 then a != b else if k = 25 then decide (a < b) else if k = 26 then decide (b ≤ a) else false
set_option maxHeartbeats 1000000 in
theorem goes_any (k rd ra rb i a b : Int) (w : World) : Calls Tryd.prog 60 #[.agg #[.int .i64 k, .int .i64 rd, .int .i64 ra, .int .i64 rb, .int .i64 i], .int .u64 a, .int .u64 b] w fun e w' => e = .returned (.bool (goesB k a b)) ∧ Below w.heap.size w w' := by
  by_cases h23 : k = 23
  · subst h23
    go_enter Tryd.func60, Tryd.ntmps60
    go_wp2
    go_ret
    exact ⟨ret_bool (by simp [goesB]), balloc (Below.refl _ _) _⟩
  by_cases h24 : k = 24
  · subst h24
    go_enter Tryd.func60, Tryd.ntmps60
    go_wp2
    go_ret
    exact ⟨ret_bool (by simp [goesB]), balloc (Below.refl _ _) _⟩
  by_cases h25 : k = 25
  · subst h25
    go_enter Tryd.func60, Tryd.ntmps60
    go_wp2
    go_ret
    exact ⟨ret_bool (by simp [goesB]), balloc (Below.refl _ _) _⟩
  by_cases h26 : k = 26
  · subst h26
    go_enter Tryd.func60, Tryd.ntmps60
    go_wp2
    go_ret
    exact ⟨ret_bool (by simp [goesB]), balloc (Below.refl _ _) _⟩
  have t23 : (k == 23) = false := by simpa using h23
  have t24 : (k == 24) = false := by simpa using h24
  have t25 : (k == 25) = false := by simpa using h25
  have t26 : (k == 26) = false := by simpa using h26
  have HF := Lib.hid (show goesB k a b = false by simp [goesB, h23, h24, h25, h26])
  clear h23 h24 h25 h26
  go_enter Tryd.func60, Tryd.ntmps60
  go_wp2
  go_ret
  exact ⟨ret_bool (by rw [HF.out]), balloc (Below.refl _ _) _⟩
end Go.Proofs.YtclbkdnihhmglaaDoor

namespace Go.Proofs.YtclbkdnihhmglaaDoor
open Go.RowKit

theorem xt_exit {n : Nat} {K : Act → World → Prop} {Q : Exit → Act → World → Prop} {a : Act} {w : World} (h : Q (.exit n) a w) : Exit.then K Q (.exit n) a w := h
theorem xt_ret {K : Act → World → Prop} {Q : Exit → Act → World → Prop} {a : Act} {w : World} (h : Q .ret a w) : Exit.then K Q .ret a w := h
theorem xt_norm {K : Act → World → Prop} {Q : Exit → Act → World → Prop} {a : Act} {w : World} (h : K a w) : Exit.then K Q .normal a w := h
theorem xb_norm {n : Nat} {Q : Exit → Act → World → Prop} {a : Act} {w : World} (h : Q .normal a w) : Exit.inBlock n Q .normal a w := h
theorem xb_ret {n : Nat} {Q : Exit → Act → World → Prop} {a : Act} {w : World} (h : Q .ret a w) : Exit.inBlock n Q .ret a w := h
theorem xb_hit {n : Nat} {Q : Exit → Act → World → Prop} {a : Act} {w : World} (h : Q .normal a w) : Exit.inBlock n Q (.exit n) a w := by
  show (if n = n then Q .normal a w else Q (.exit n) a w)
  rw [if_pos rfl]; exact h
theorem xb_skip {m n : Nat} {Q : Exit → Act → World → Prop} {a : Act} {w : World} (hn : (m == n) = false) (h : Q (.exit m) a w) : Exit.inBlock n Q (.exit m) a w := by
  show (if m = n then Q .normal a w else Q (.exit m) a w)
  rw [if_neg (by simpa using hn)]; exact h
end Go.Proofs.YtclbkdnihhmglaaDoor

namespace Go.Proofs.YtclbkdnihhmglaaDoor
open Go.RowKit

/-- a number of 64 bits moved up, down, by b modulo 64 bits -/
def shlI (a b : Int) : Int := IntKind.u64.wrap (a * 2 ^ (b % 64).toNat)
def shrI (a b : Int) : Int := a / 2 ^ (b % 64).toNat
/-- what a kind of the form R reckons -/
def reckI (k a b : Int) : Int :=
  if k = 1 then IntKind.u64.wrap (a + b)
  else if k = 2 then IntKind.u64.wrap (a - b)
  else if k = 3 then shlI a b
  else if k = 4 then belowI a b
  else if k = 5 then bits BinOp.xor IntKind.u64 a b
  else if k = 6 then shrI a b
  else if k = 7 then bits BinOp.or IntKind.u64 a b
  else if k = 8 then bits BinOp.and IntKind.u64 a b
  else if k = 9 then IntKind.u64.wrap (a * b)
  else if k = 10 then quotI a b
  else if k = 11 then restI a b
  else 0
/-- the kind of the form R whose number is reckoned with Imm -/
def asR (k : Int) : Int := if k = 12 then 1 else if k = 13 then 4 else if k = 14 then 5 else if k = 15 then 7 else if k = 16 then 8 else if k = 17 then 3 else 6
/-- what an instruction reckons -/
def doesI (k i a b pc : Int) : Int :=
  if 1 ≤ k ∧ k ≤ 11 then reckI k a b
  else if 12 ≤ k ∧ k ≤ 18 then reckI (asR k) a (IntKind.u64.wrap i)
  else if k = 27 then IntKind.u64.wrap i
  else if k = 28 then IntKind.u64.wrap (pc + IntKind.u64.wrap i)
  else if k = 29 ∨ k = 30 then IntKind.u64.wrap (pc + 4)
  else 0
set_option maxRecDepth 100000 in
set_option maxHeartbeats 1000000 in
theorem does_1 (rd ra rb i a b pc : Int) (w : World) (a0 : 0 ≤ a) (a1 : a ≤ 18446744073709551615) (b0 : 0 ≤ b) (b1 : b ≤ 18446744073709551615) : Calls Tryd.prog 43 #[.agg #[.int .i64 1, .int .i64 rd, .int .i64 ra, .int .i64 rb, .int .i64 i], .int .u64 a, .int .u64 b, .int .u64 pc] w fun e w' => e = .returned (.int .u64 (doesI 1 i a b pc)) ∧ Below w.heap.size w w' := by
  clear a0 a1 b0 b1
  go_enter Tryd.func43, Tryd.ntmps43
  repeat (first | (with_reducible refine xt_exit ?_) | (with_reducible refine xb_hit ?_) | (with_reducible refine xb_skip rfl ?_) | (with_reducible refine xt_norm ?_) | (with_reducible refine xb_norm ?_) | (with_reducible refine xt_ret ?_) | (with_reducible refine xb_ret ?_) | (go_big_may; fail) | go_values | go_skip | go_guarded | go_step | go_upon | go_back)
  go_ret
  exact ⟨ret_int (by simp [doesI, reckI, asR]), balloc (Below.refl _ _) _⟩
set_option maxRecDepth 100000 in
set_option maxHeartbeats 1000000 in
theorem does_2 (rd ra rb i a b pc : Int) (w : World) (a0 : 0 ≤ a) (a1 : a ≤ 18446744073709551615) (b0 : 0 ≤ b) (b1 : b ≤ 18446744073709551615) : Calls Tryd.prog 43 #[.agg #[.int .i64 2, .int .i64 rd, .int .i64 ra, .int .i64 rb, .int .i64 i], .int .u64 a, .int .u64 b, .int .u64 pc] w fun e w' => e = .returned (.int .u64 (doesI 2 i a b pc)) ∧ Below w.heap.size w w' := by
  clear a0 a1 b0 b1
  go_enter Tryd.func43, Tryd.ntmps43
  repeat (first | (with_reducible refine xt_exit ?_) | (with_reducible refine xb_hit ?_) | (with_reducible refine xb_skip rfl ?_) | (with_reducible refine xt_norm ?_) | (with_reducible refine xb_norm ?_) | (with_reducible refine xt_ret ?_) | (with_reducible refine xb_ret ?_) | (go_big_may; fail) | go_values | go_skip | go_guarded | go_step | go_upon | go_back)
  go_ret
  exact ⟨ret_int (by simp [doesI, reckI, asR]), balloc (Below.refl _ _) _⟩
set_option maxRecDepth 100000 in
set_option maxHeartbeats 1000000 in
theorem does_5 (rd ra rb i a b pc : Int) (w : World) (a0 : 0 ≤ a) (a1 : a ≤ 18446744073709551615) (b0 : 0 ≤ b) (b1 : b ≤ 18446744073709551615) : Calls Tryd.prog 43 #[.agg #[.int .i64 5, .int .i64 rd, .int .i64 ra, .int .i64 rb, .int .i64 i], .int .u64 a, .int .u64 b, .int .u64 pc] w fun e w' => e = .returned (.int .u64 (doesI 5 i a b pc)) ∧ Below w.heap.size w w' := by
  clear a0 a1 b0 b1
  go_enter Tryd.func43, Tryd.ntmps43
  repeat (first | (with_reducible refine xt_exit ?_) | (with_reducible refine xb_hit ?_) | (with_reducible refine xb_skip rfl ?_) | (with_reducible refine xt_norm ?_) | (with_reducible refine xb_norm ?_) | (with_reducible refine xt_ret ?_) | (with_reducible refine xb_ret ?_) | (go_big_may; fail) | go_values | go_skip | go_guarded | go_step | go_upon | go_back)
  go_ret
  exact ⟨ret_int (by simp [doesI, reckI, asR]), balloc (Below.refl _ _) _⟩
set_option maxRecDepth 100000 in
set_option maxHeartbeats 1000000 in
theorem does_7 (rd ra rb i a b pc : Int) (w : World) (a0 : 0 ≤ a) (a1 : a ≤ 18446744073709551615) (b0 : 0 ≤ b) (b1 : b ≤ 18446744073709551615) : Calls Tryd.prog 43 #[.agg #[.int .i64 7, .int .i64 rd, .int .i64 ra, .int .i64 rb, .int .i64 i], .int .u64 a, .int .u64 b, .int .u64 pc] w fun e w' => e = .returned (.int .u64 (doesI 7 i a b pc)) ∧ Below w.heap.size w w' := by
  clear a0 a1 b0 b1
  go_enter Tryd.func43, Tryd.ntmps43
  repeat (first | (with_reducible refine xt_exit ?_) | (with_reducible refine xb_hit ?_) | (with_reducible refine xb_skip rfl ?_) | (with_reducible refine xt_norm ?_) | (with_reducible refine xb_norm ?_) | (with_reducible refine xt_ret ?_) | (with_reducible refine xb_ret ?_) | (go_big_may; fail) | go_values | go_skip | go_guarded | go_step | go_upon | go_back)
  go_ret
  exact ⟨ret_int (by simp [doesI, reckI, asR]), balloc (Below.refl _ _) _⟩
set_option maxRecDepth 100000 in
set_option maxHeartbeats 1000000 in
theorem does_8 (rd ra rb i a b pc : Int) (w : World) (a0 : 0 ≤ a) (a1 : a ≤ 18446744073709551615) (b0 : 0 ≤ b) (b1 : b ≤ 18446744073709551615) : Calls Tryd.prog 43 #[.agg #[.int .i64 8, .int .i64 rd, .int .i64 ra, .int .i64 rb, .int .i64 i], .int .u64 a, .int .u64 b, .int .u64 pc] w fun e w' => e = .returned (.int .u64 (doesI 8 i a b pc)) ∧ Below w.heap.size w w' := by
  clear a0 a1 b0 b1
  go_enter Tryd.func43, Tryd.ntmps43
  repeat (first | (with_reducible refine xt_exit ?_) | (with_reducible refine xb_hit ?_) | (with_reducible refine xb_skip rfl ?_) | (with_reducible refine xt_norm ?_) | (with_reducible refine xb_norm ?_) | (with_reducible refine xt_ret ?_) | (with_reducible refine xb_ret ?_) | (go_big_may; fail) | go_values | go_skip | go_guarded | go_step | go_upon | go_back)
  go_ret
  exact ⟨ret_int (by simp [doesI, reckI, asR]), balloc (Below.refl _ _) _⟩
set_option maxRecDepth 100000 in
set_option maxHeartbeats 1000000 in
theorem does_9 (rd ra rb i a b pc : Int) (w : World) (a0 : 0 ≤ a) (a1 : a ≤ 18446744073709551615) (b0 : 0 ≤ b) (b1 : b ≤ 18446744073709551615) : Calls Tryd.prog 43 #[.agg #[.int .i64 9, .int .i64 rd, .int .i64 ra, .int .i64 rb, .int .i64 i], .int .u64 a, .int .u64 b, .int .u64 pc] w fun e w' => e = .returned (.int .u64 (doesI 9 i a b pc)) ∧ Below w.heap.size w w' := by
  clear a0 a1 b0 b1
  go_enter Tryd.func43, Tryd.ntmps43
  repeat (first | (with_reducible refine xt_exit ?_) | (with_reducible refine xb_hit ?_) | (with_reducible refine xb_skip rfl ?_) | (with_reducible refine xt_norm ?_) | (with_reducible refine xb_norm ?_) | (with_reducible refine xt_ret ?_) | (with_reducible refine xb_ret ?_) | (go_big_may; fail) | go_values | go_skip | go_guarded | go_step | go_upon | go_back)
  go_ret
  exact ⟨ret_int (by simp [doesI, reckI, asR]), balloc (Below.refl _ _) _⟩
set_option maxRecDepth 100000 in
set_option maxHeartbeats 1000000 in
theorem does_12 (rd ra rb i a b pc : Int) (w : World) (a0 : 0 ≤ a) (a1 : a ≤ 18446744073709551615) (b0 : 0 ≤ b) (b1 : b ≤ 18446744073709551615) : Calls Tryd.prog 43 #[.agg #[.int .i64 12, .int .i64 rd, .int .i64 ra, .int .i64 rb, .int .i64 i], .int .u64 a, .int .u64 b, .int .u64 pc] w fun e w' => e = .returned (.int .u64 (doesI 12 i a b pc)) ∧ Below w.heap.size w w' := by
  clear a0 a1 b0 b1
  go_enter Tryd.func43, Tryd.ntmps43
  repeat (first | (with_reducible refine xt_exit ?_) | (with_reducible refine xb_hit ?_) | (with_reducible refine xb_skip rfl ?_) | (with_reducible refine xt_norm ?_) | (with_reducible refine xb_norm ?_) | (with_reducible refine xt_ret ?_) | (with_reducible refine xb_ret ?_) | (go_big_may; fail) | go_values | go_skip | go_guarded | go_step | go_upon | go_back)
  go_ret
  exact ⟨ret_int (by simp [doesI, reckI, asR]), balloc (Below.refl _ _) _⟩
set_option maxRecDepth 100000 in
set_option maxHeartbeats 1000000 in
theorem does_14 (rd ra rb i a b pc : Int) (w : World) (a0 : 0 ≤ a) (a1 : a ≤ 18446744073709551615) (b0 : 0 ≤ b) (b1 : b ≤ 18446744073709551615) : Calls Tryd.prog 43 #[.agg #[.int .i64 14, .int .i64 rd, .int .i64 ra, .int .i64 rb, .int .i64 i], .int .u64 a, .int .u64 b, .int .u64 pc] w fun e w' => e = .returned (.int .u64 (doesI 14 i a b pc)) ∧ Below w.heap.size w w' := by
  clear a0 a1 b0 b1
  go_enter Tryd.func43, Tryd.ntmps43
  repeat (first | (with_reducible refine xt_exit ?_) | (with_reducible refine xb_hit ?_) | (with_reducible refine xb_skip rfl ?_) | (with_reducible refine xt_norm ?_) | (with_reducible refine xb_norm ?_) | (with_reducible refine xt_ret ?_) | (with_reducible refine xb_ret ?_) | (go_big_may; fail) | go_values | go_skip | go_guarded | go_step | go_upon | go_back)
  go_ret
  exact ⟨ret_int (by simp [doesI, reckI, asR]), balloc (Below.refl _ _) _⟩
set_option maxRecDepth 100000 in
set_option maxHeartbeats 1000000 in
theorem does_15 (rd ra rb i a b pc : Int) (w : World) (a0 : 0 ≤ a) (a1 : a ≤ 18446744073709551615) (b0 : 0 ≤ b) (b1 : b ≤ 18446744073709551615) : Calls Tryd.prog 43 #[.agg #[.int .i64 15, .int .i64 rd, .int .i64 ra, .int .i64 rb, .int .i64 i], .int .u64 a, .int .u64 b, .int .u64 pc] w fun e w' => e = .returned (.int .u64 (doesI 15 i a b pc)) ∧ Below w.heap.size w w' := by
  clear a0 a1 b0 b1
  go_enter Tryd.func43, Tryd.ntmps43
  repeat (first | (with_reducible refine xt_exit ?_) | (with_reducible refine xb_hit ?_) | (with_reducible refine xb_skip rfl ?_) | (with_reducible refine xt_norm ?_) | (with_reducible refine xb_norm ?_) | (with_reducible refine xt_ret ?_) | (with_reducible refine xb_ret ?_) | (go_big_may; fail) | go_values | go_skip | go_guarded | go_step | go_upon | go_back)
  go_ret
  exact ⟨ret_int (by simp [doesI, reckI, asR]), balloc (Below.refl _ _) _⟩
set_option maxRecDepth 100000 in
set_option maxHeartbeats 1000000 in
theorem does_16 (rd ra rb i a b pc : Int) (w : World) (a0 : 0 ≤ a) (a1 : a ≤ 18446744073709551615) (b0 : 0 ≤ b) (b1 : b ≤ 18446744073709551615) : Calls Tryd.prog 43 #[.agg #[.int .i64 16, .int .i64 rd, .int .i64 ra, .int .i64 rb, .int .i64 i], .int .u64 a, .int .u64 b, .int .u64 pc] w fun e w' => e = .returned (.int .u64 (doesI 16 i a b pc)) ∧ Below w.heap.size w w' := by
  clear a0 a1 b0 b1
  go_enter Tryd.func43, Tryd.ntmps43
  repeat (first | (with_reducible refine xt_exit ?_) | (with_reducible refine xb_hit ?_) | (with_reducible refine xb_skip rfl ?_) | (with_reducible refine xt_norm ?_) | (with_reducible refine xb_norm ?_) | (with_reducible refine xt_ret ?_) | (with_reducible refine xb_ret ?_) | (go_big_may; fail) | go_values | go_skip | go_guarded | go_step | go_upon | go_back)
  go_ret
  exact ⟨ret_int (by simp [doesI, reckI, asR]), balloc (Below.refl _ _) _⟩
set_option maxRecDepth 100000 in
set_option maxHeartbeats 1000000 in
theorem does_27 (rd ra rb i a b pc : Int) (w : World) (a0 : 0 ≤ a) (a1 : a ≤ 18446744073709551615) (b0 : 0 ≤ b) (b1 : b ≤ 18446744073709551615) : Calls Tryd.prog 43 #[.agg #[.int .i64 27, .int .i64 rd, .int .i64 ra, .int .i64 rb, .int .i64 i], .int .u64 a, .int .u64 b, .int .u64 pc] w fun e w' => e = .returned (.int .u64 (doesI 27 i a b pc)) ∧ Below w.heap.size w w' := by
  clear a0 a1 b0 b1
  go_enter Tryd.func43, Tryd.ntmps43
  repeat (first | (with_reducible refine xt_exit ?_) | (with_reducible refine xb_hit ?_) | (with_reducible refine xb_skip rfl ?_) | (with_reducible refine xt_norm ?_) | (with_reducible refine xb_norm ?_) | (with_reducible refine xt_ret ?_) | (with_reducible refine xb_ret ?_) | (go_big_may; fail) | go_values | go_skip | go_guarded | go_step | go_upon | go_back)
  go_ret
  exact ⟨ret_int (by simp [doesI, reckI, asR]), balloc (Below.refl _ _) _⟩
set_option maxRecDepth 100000 in
set_option maxHeartbeats 1000000 in
theorem does_28 (rd ra rb i a b pc : Int) (w : World) (a0 : 0 ≤ a) (a1 : a ≤ 18446744073709551615) (b0 : 0 ≤ b) (b1 : b ≤ 18446744073709551615) : Calls Tryd.prog 43 #[.agg #[.int .i64 28, .int .i64 rd, .int .i64 ra, .int .i64 rb, .int .i64 i], .int .u64 a, .int .u64 b, .int .u64 pc] w fun e w' => e = .returned (.int .u64 (doesI 28 i a b pc)) ∧ Below w.heap.size w w' := by
  clear a0 a1 b0 b1
  go_enter Tryd.func43, Tryd.ntmps43
  repeat (first | (with_reducible refine xt_exit ?_) | (with_reducible refine xb_hit ?_) | (with_reducible refine xb_skip rfl ?_) | (with_reducible refine xt_norm ?_) | (with_reducible refine xb_norm ?_) | (with_reducible refine xt_ret ?_) | (with_reducible refine xb_ret ?_) | (go_big_may; fail) | go_values | go_skip | go_guarded | go_step | go_upon | go_back)
  go_ret
  exact ⟨ret_int (by simp [doesI, reckI, asR]), balloc (Below.refl _ _) _⟩
set_option maxRecDepth 100000 in
set_option maxHeartbeats 1000000 in
theorem does_29 (rd ra rb i a b pc : Int) (w : World) (a0 : 0 ≤ a) (a1 : a ≤ 18446744073709551615) (b0 : 0 ≤ b) (b1 : b ≤ 18446744073709551615) : Calls Tryd.prog 43 #[.agg #[.int .i64 29, .int .i64 rd, .int .i64 ra, .int .i64 rb, .int .i64 i], .int .u64 a, .int .u64 b, .int .u64 pc] w fun e w' => e = .returned (.int .u64 (doesI 29 i a b pc)) ∧ Below w.heap.size w w' := by
  clear a0 a1 b0 b1
  go_enter Tryd.func43, Tryd.ntmps43
  repeat (first | (with_reducible refine xt_exit ?_) | (with_reducible refine xb_hit ?_) | (with_reducible refine xb_skip rfl ?_) | (with_reducible refine xt_norm ?_) | (with_reducible refine xb_norm ?_) | (with_reducible refine xt_ret ?_) | (with_reducible refine xb_ret ?_) | (go_big_may; fail) | go_values | go_skip | go_guarded | go_step | go_upon | go_back)
  go_ret
  exact ⟨ret_int (by simp [doesI, reckI, asR]), balloc (Below.refl _ _) _⟩
set_option maxRecDepth 100000 in
set_option maxHeartbeats 1000000 in
theorem does_30 (rd ra rb i a b pc : Int) (w : World) (a0 : 0 ≤ a) (a1 : a ≤ 18446744073709551615) (b0 : 0 ≤ b) (b1 : b ≤ 18446744073709551615) : Calls Tryd.prog 43 #[.agg #[.int .i64 30, .int .i64 rd, .int .i64 ra, .int .i64 rb, .int .i64 i], .int .u64 a, .int .u64 b, .int .u64 pc] w fun e w' => e = .returned (.int .u64 (doesI 30 i a b pc)) ∧ Below w.heap.size w w' := by
  clear a0 a1 b0 b1
  go_enter Tryd.func43, Tryd.ntmps43
  repeat (first | (with_reducible refine xt_exit ?_) | (with_reducible refine xb_hit ?_) | (with_reducible refine xb_skip rfl ?_) | (with_reducible refine xt_norm ?_) | (with_reducible refine xb_norm ?_) | (with_reducible refine xt_ret ?_) | (with_reducible refine xb_ret ?_) | (go_big_may; fail) | go_values | go_skip | go_guarded | go_step | go_upon | go_back)
  go_ret
  exact ⟨ret_int (by simp [doesI, reckI, asR]), balloc (Below.refl _ _) _⟩
set_option maxRecDepth 100000 in
set_option maxHeartbeats 1000000 in
theorem does_4 (rd ra rb i a b pc : Int) (w : World) (a0 : 0 ≤ a) (a1 : a ≤ 18446744073709551615) (b0 : 0 ≤ b) (b1 : b ≤ 18446744073709551615) : Calls Tryd.prog 43 #[.agg #[.int .i64 4, .int .i64 rd, .int .i64 ra, .int .i64 rb, .int .i64 i], .int .u64 a, .int .u64 b, .int .u64 pc] w fun e w' => e = .returned (.int .u64 (doesI 4 i a b pc)) ∧ Below w.heap.size w w' := by
  go_enter Tryd.func43, Tryd.ntmps43
  repeat (first | (with_reducible refine xt_exit ?_) | (with_reducible refine xb_hit ?_) | (with_reducible refine xb_skip rfl ?_) | (with_reducible refine xt_norm ?_) | (with_reducible refine xb_norm ?_) | (with_reducible refine xt_ret ?_) | (with_reducible refine xb_ret ?_) | (go_big_may; fail) | go_values | go_skip | go_guarded | go_step | go_upon | go_back)
  refine (below_any _ _ _).mono ?_
  rintro e w1 ⟨rfl, rfl⟩
  go_wp2_with fail
  go_ret
  exact ⟨ret_int (by simp [doesI, reckI, asR]), balloc (Below.refl _ _) _⟩
set_option maxRecDepth 100000 in
set_option maxHeartbeats 1000000 in
theorem does_10 (rd ra rb i a b pc : Int) (w : World) (a0 : 0 ≤ a) (a1 : a ≤ 18446744073709551615) (b0 : 0 ≤ b) (b1 : b ≤ 18446744073709551615) : Calls Tryd.prog 43 #[.agg #[.int .i64 10, .int .i64 rd, .int .i64 ra, .int .i64 rb, .int .i64 i], .int .u64 a, .int .u64 b, .int .u64 pc] w fun e w' => e = .returned (.int .u64 (doesI 10 i a b pc)) ∧ Below w.heap.size w w' := by
  go_enter Tryd.func43, Tryd.ntmps43
  repeat (first | (with_reducible refine xt_exit ?_) | (with_reducible refine xb_hit ?_) | (with_reducible refine xb_skip rfl ?_) | (with_reducible refine xt_norm ?_) | (with_reducible refine xb_norm ?_) | (with_reducible refine xt_ret ?_) | (with_reducible refine xb_ret ?_) | (go_big_may; fail) | go_values | go_skip | go_guarded | go_step | go_upon | go_back)
  refine (quot_any _ _ a0 a1 b0 _).mono ?_
  rintro e w1 ⟨rfl, rfl⟩
  go_wp2_with fail
  go_ret
  exact ⟨ret_int (by simp [doesI, reckI, asR]), balloc (Below.refl _ _) _⟩
set_option maxRecDepth 100000 in
set_option maxHeartbeats 1000000 in
theorem does_11 (rd ra rb i a b pc : Int) (w : World) (a0 : 0 ≤ a) (a1 : a ≤ 18446744073709551615) (b0 : 0 ≤ b) (b1 : b ≤ 18446744073709551615) : Calls Tryd.prog 43 #[.agg #[.int .i64 11, .int .i64 rd, .int .i64 ra, .int .i64 rb, .int .i64 i], .int .u64 a, .int .u64 b, .int .u64 pc] w fun e w' => e = .returned (.int .u64 (doesI 11 i a b pc)) ∧ Below w.heap.size w w' := by
  go_enter Tryd.func43, Tryd.ntmps43
  repeat (first | (with_reducible refine xt_exit ?_) | (with_reducible refine xb_hit ?_) | (with_reducible refine xb_skip rfl ?_) | (with_reducible refine xt_norm ?_) | (with_reducible refine xb_norm ?_) | (with_reducible refine xt_ret ?_) | (with_reducible refine xb_ret ?_) | (go_big_may; fail) | go_values | go_skip | go_guarded | go_step | go_upon | go_back)
  refine (rest_any _ _ a0 a1 b0 _).mono ?_
  rintro e w1 ⟨rfl, rfl⟩
  go_wp2_with fail
  go_ret
  exact ⟨ret_int (by simp [doesI, reckI, asR]), balloc (Below.refl _ _) _⟩
set_option maxRecDepth 100000 in
set_option maxHeartbeats 1000000 in
theorem does_13 (rd ra rb i a b pc : Int) (w : World) (a0 : 0 ≤ a) (a1 : a ≤ 18446744073709551615) (b0 : 0 ≤ b) (b1 : b ≤ 18446744073709551615) : Calls Tryd.prog 43 #[.agg #[.int .i64 13, .int .i64 rd, .int .i64 ra, .int .i64 rb, .int .i64 i], .int .u64 a, .int .u64 b, .int .u64 pc] w fun e w' => e = .returned (.int .u64 (doesI 13 i a b pc)) ∧ Below w.heap.size w w' := by
  go_enter Tryd.func43, Tryd.ntmps43
  repeat (first | (with_reducible refine xt_exit ?_) | (with_reducible refine xb_hit ?_) | (with_reducible refine xb_skip rfl ?_) | (with_reducible refine xt_norm ?_) | (with_reducible refine xb_norm ?_) | (with_reducible refine xt_ret ?_) | (with_reducible refine xb_ret ?_) | (go_big_may; fail) | go_values | go_skip | go_guarded | go_step | go_upon | go_back)
  refine (below_any _ _ _).mono ?_
  rintro e w1 ⟨rfl, rfl⟩
  go_wp2_with fail
  go_ret
  exact ⟨ret_int (by simp [doesI, reckI, asR]), balloc (Below.refl _ _) _⟩
end Go.Proofs.YtclbkdnihhmglaaDoor

namespace Go.Proofs.YtclbkdnihhmglaaDoor
open Go.RowKit
set_option maxRecDepth 100000 in
set_option maxHeartbeats 1000000 in
theorem does_3 (rd ra rb i a b pc : Int) (w : World) (a0 : 0 ≤ a) (a1 : a ≤ 18446744073709551615) (b0 : 0 ≤ b) (b1 : b ≤ 18446744073709551615) : Calls Tryd.prog 43 #[.agg #[.int .i64 3, .int .i64 rd, .int .i64 ra, .int .i64 rb, .int .i64 i], .int .u64 a, .int .u64 b, .int .u64 pc] w fun e w' => e = .returned (.int .u64 (doesI 3 i a b pc)) ∧ Below w.heap.size w w' := by
  go_enter Tryd.func43, Tryd.ntmps43
  repeat (first | (with_reducible refine xt_exit ?_) | (with_reducible refine xb_hit ?_) | (with_reducible refine xb_skip rfl ?_) | (with_reducible refine xt_norm ?_) | (with_reducible refine xb_norm ?_) | (with_reducible refine xt_ret ?_) | (with_reducible refine xb_ret ?_) | (go_big_may; fail) | go_values | go_skip | go_guarded | go_step | go_upon | go_back)
  go_ret
  exact ⟨ret_int (by simp [doesI, reckI, shlI, shrI]), balloc (Below.refl _ _) _⟩
set_option maxRecDepth 100000 in
set_option maxHeartbeats 1000000 in
theorem does_6 (rd ra rb i a b pc : Int) (w : World) (a0 : 0 ≤ a) (a1 : a ≤ 18446744073709551615) (b0 : 0 ≤ b) (b1 : b ≤ 18446744073709551615) : Calls Tryd.prog 43 #[.agg #[.int .i64 6, .int .i64 rd, .int .i64 ra, .int .i64 rb, .int .i64 i], .int .u64 a, .int .u64 b, .int .u64 pc] w fun e w' => e = .returned (.int .u64 (doesI 6 i a b pc)) ∧ Below w.heap.size w w' := by
  go_enter Tryd.func43, Tryd.ntmps43
  repeat (first | (with_reducible refine xt_exit ?_) | (with_reducible refine xb_hit ?_) | (with_reducible refine xb_skip rfl ?_) | (with_reducible refine xt_norm ?_) | (with_reducible refine xb_norm ?_) | (with_reducible refine xt_ret ?_) | (with_reducible refine xb_ret ?_) | (go_big_may; fail) | go_values | go_skip | go_guarded | go_step | go_upon | go_back)
  go_ret
  exact ⟨ret_int (by simp [doesI, reckI, shlI, shrI]), balloc (Below.refl _ _) _⟩
set_option maxRecDepth 100000 in
set_option maxHeartbeats 1000000 in
theorem does_17 (rd ra rb i a b pc : Int) (w : World) (a0 : 0 ≤ a) (a1 : a ≤ 18446744073709551615) (b0 : 0 ≤ b) (b1 : b ≤ 18446744073709551615) : Calls Tryd.prog 43 #[.agg #[.int .i64 17, .int .i64 rd, .int .i64 ra, .int .i64 rb, .int .i64 i], .int .u64 a, .int .u64 b, .int .u64 pc] w fun e w' => e = .returned (.int .u64 (doesI 17 i a b pc)) ∧ Below w.heap.size w w' := by
  have wi0 : 0 ≤ IntKind.u64.wrap i := by rw [IntKind.wrap_u64]; omega
  have wi1 : IntKind.u64.wrap i ≤ 18446744073709551615 := by rw [IntKind.wrap_u64]; omega
  go_enter Tryd.func43, Tryd.ntmps43
  repeat (first | (with_reducible refine xt_exit ?_) | (with_reducible refine xb_hit ?_) | (with_reducible refine xb_skip rfl ?_) | (with_reducible refine xt_norm ?_) | (with_reducible refine xb_norm ?_) | (with_reducible refine xt_ret ?_) | (with_reducible refine xb_ret ?_) | (go_big_may; fail) | go_values | go_skip | go_guarded | go_step | go_upon | go_back)
  go_ret
  exact ⟨ret_int (by simp [doesI, reckI, asR, shlI, shrI]), balloc (Below.refl _ _) _⟩
set_option maxRecDepth 100000 in
set_option maxHeartbeats 1000000 in
theorem does_18 (rd ra rb i a b pc : Int) (w : World) (a0 : 0 ≤ a) (a1 : a ≤ 18446744073709551615) (b0 : 0 ≤ b) (b1 : b ≤ 18446744073709551615) : Calls Tryd.prog 43 #[.agg #[.int .i64 18, .int .i64 rd, .int .i64 ra, .int .i64 rb, .int .i64 i], .int .u64 a, .int .u64 b, .int .u64 pc] w fun e w' => e = .returned (.int .u64 (doesI 18 i a b pc)) ∧ Below w.heap.size w w' := by
  have wi0 : 0 ≤ IntKind.u64.wrap i := by rw [IntKind.wrap_u64]; omega
  have wi1 : IntKind.u64.wrap i ≤ 18446744073709551615 := by rw [IntKind.wrap_u64]; omega
  go_enter Tryd.func43, Tryd.ntmps43
  repeat (first | (with_reducible refine xt_exit ?_) | (with_reducible refine xb_hit ?_) | (with_reducible refine xb_skip rfl ?_) | (with_reducible refine xt_norm ?_) | (with_reducible refine xb_norm ?_) | (with_reducible refine xt_ret ?_) | (with_reducible refine xb_ret ?_) | (go_big_may; fail) | go_values | go_skip | go_guarded | go_step | go_upon | go_back)
  go_ret
  exact ⟨ret_int (by simp [doesI, reckI, asR, shlI, shrI]), balloc (Below.refl _ _) _⟩
set_option maxRecDepth 100000 in
set_option maxHeartbeats 1000000 in
theorem does_no (k rd ra rb i a b pc : Int) (w : World) (h : ¬ (1 ≤ k ∧ k ≤ 18) ∧ ¬ (27 ≤ k ∧ k ≤ 30)) : Calls Tryd.prog 43 #[.agg #[.int .i64 k, .int .i64 rd, .int .i64 ra, .int .i64 rb, .int .i64 i], .int .u64 a, .int .u64 b, .int .u64 pc] w fun e w' => e = .returned (.int .u64 (doesI k i a b pc)) ∧ Below w.heap.size w w' := by
  have t1 : (k == 1) = false := by simp; omega
  have t2 : (k == 2) = false := by simp; omega
  have t3 : (k == 3) = false := by simp; omega
  have t4 : (k == 4) = false := by simp; omega
  have t5 : (k == 5) = false := by simp; omega
  have t6 : (k == 6) = false := by simp; omega
  have t7 : (k == 7) = false := by simp; omega
  have t8 : (k == 8) = false := by simp; omega
  have t9 : (k == 9) = false := by simp; omega
  have t10 : (k == 10) = false := by simp; omega
  have t11 : (k == 11) = false := by simp; omega
  have t12 : (k == 12) = false := by simp; omega
  have t13 : (k == 13) = false := by simp; omega
  have t14 : (k == 14) = false := by simp; omega
  have t15 : (k == 15) = false := by simp; omega
  have t16 : (k == 16) = false := by simp; omega
  have t17 : (k == 17) = false := by simp; omega
  have t18 : (k == 18) = false := by simp; omega
  have t27 : (k == 27) = false := by simp; omega
  have t28 : (k == 28) = false := by simp; omega
  have t29 : (k == 29) = false := by simp; omega
  have t30 : (k == 30) = false := by simp; omega
  have HE := Lib.hid (show doesI k i a b pc = 0 by unfold doesI; rw [if_neg (by omega), if_neg (by omega), if_neg (by omega), if_neg (by omega), if_neg (by omega)])
  clear h
  go_enter Tryd.func43, Tryd.ntmps43
  repeat (first | (with_reducible refine xt_exit ?_) | (with_reducible refine xb_hit ?_) | (with_reducible refine xb_skip rfl ?_) | (with_reducible refine xt_norm ?_) | (with_reducible refine xb_norm ?_) | (with_reducible refine xt_ret ?_) | (with_reducible refine xb_ret ?_) | (go_big_may; fail) | go_values | go_skip | go_guarded | go_step | go_upon | go_back)
  go_ret
  exact ⟨ret_int (by rw [HE.out]), balloc (Below.refl _ _) _⟩
theorem does_any (k rd ra rb i a b pc : Int) (w : World) (a0 : 0 ≤ a) (a1 : a ≤ 18446744073709551615) (b0 : 0 ≤ b) (b1 : b ≤ 18446744073709551615) : Calls Tryd.prog 43 #[.agg #[.int .i64 k, .int .i64 rd, .int .i64 ra, .int .i64 rb, .int .i64 i], .int .u64 a, .int .u64 b, .int .u64 pc] w fun e w' => e = .returned (.int .u64 (doesI k i a b pc)) ∧ Below w.heap.size w w' := by
  by_cases h : ¬ (1 ≤ k ∧ k ≤ 18) ∧ ¬ (27 ≤ k ∧ k ≤ 30)
  · exact does_no k rd ra rb i a b pc w h
  · have hk : k = 1 ∨ k = 2 ∨ k = 3 ∨ k = 4 ∨ k = 5 ∨ k = 6 ∨ k = 7 ∨ k = 8 ∨ k = 9 ∨ k = 10 ∨ k = 11 ∨ k = 12 ∨ k = 13 ∨ k = 14 ∨ k = 15 ∨ k = 16 ∨ k = 17 ∨ k = 18 ∨ k = 27 ∨ k = 28 ∨ k = 29 ∨ k = 30 := by omega
    rcases hk with rfl | rfl | rfl | rfl | rfl | rfl | rfl | rfl | rfl | rfl | rfl | rfl | rfl | rfl | rfl | rfl | rfl | rfl | rfl | rfl | rfl | rfl
    · exact does_1 rd ra rb i a b pc w a0 a1 b0 b1
    · exact does_2 rd ra rb i a b pc w a0 a1 b0 b1
    · exact does_3 rd ra rb i a b pc w a0 a1 b0 b1
    · exact does_4 rd ra rb i a b pc w a0 a1 b0 b1
    · exact does_5 rd ra rb i a b pc w a0 a1 b0 b1
    · exact does_6 rd ra rb i a b pc w a0 a1 b0 b1
    · exact does_7 rd ra rb i a b pc w a0 a1 b0 b1
    · exact does_8 rd ra rb i a b pc w a0 a1 b0 b1
    · exact does_9 rd ra rb i a b pc w a0 a1 b0 b1
    · exact does_10 rd ra rb i a b pc w a0 a1 b0 b1
    · exact does_11 rd ra rb i a b pc w a0 a1 b0 b1
    · exact does_12 rd ra rb i a b pc w a0 a1 b0 b1
    · exact does_13 rd ra rb i a b pc w a0 a1 b0 b1
    · exact does_14 rd ra rb i a b pc w a0 a1 b0 b1
    · exact does_15 rd ra rb i a b pc w a0 a1 b0 b1
    · exact does_16 rd ra rb i a b pc w a0 a1 b0 b1
    · exact does_17 rd ra rb i a b pc w a0 a1 b0 b1
    · exact does_18 rd ra rb i a b pc w a0 a1 b0 b1
    · exact does_27 rd ra rb i a b pc w a0 a1 b0 b1
    · exact does_28 rd ra rb i a b pc w a0 a1 b0 b1
    · exact does_29 rd ra rb i a b pc w a0 a1 b0 b1
    · exact does_30 rd ra rb i a b pc w a0 a1 b0 b1
end Go.Proofs.YtclbkdnihhmglaaDoor
