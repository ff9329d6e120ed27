/- Walks of the laws over single instructions: EncLow, EncFields, EncFar, EncBack, EncApart return true for every argument. A walk of Bytes of package enc. Slices of instructions: what they hold, Bytes of package enc at each of them, Same of the document's answer. -/
import Derived.Test.YtclbkdnihhmglaaDoorZEB
import Derived.Deep.QuietTactic
import Derived.BigQuiet
import Derived.OwnWalk
import Derived.Laws.OwnMore
import Derived.Deep.AppendLies
import Derived.Outline
import Derived.Laws.BytesArg
import Derived.Laws.AppendOwnNone
import Derived.Laws.StructEq
namespace Go.Proofs.YtclbkdnihhmglaaDoor.E
open Go.RowKit

theorem Tabs.next {W w' : World} (T : Tabs W) (hb : Below W.heap.size W w') : Tabs w' := T.below hb T.size
theorem bthen {w W w' : World} (h : Below w.heap.size w W) (hb : Below W.heap.size W w') : Below w.heap.size w w' := h.trans (hb.mono h.size)
theorem balloc {w W : World} (h : Below w.heap.size w W) (o : Obj) : Below w.heap.size w (W.alloc o) := h.alloc h.size o

/-- may an instruction be, whatever its kind is? -/
def okI (k rd a b n : Int) : Bool := decide (1 ≤ k) && (decide (k < 32) && M.may k.toNat rd a b n)
theorem okI_parts {k rd a b n : Int} (h : okI k rd a b n = true) : 1 ≤ k ∧ k < 32 ∧ M.may k.toNat rd a b n = true := by
  simpa [okI, Bool.and_eq_true] using h
def wordI (k rd a b n : Int) : Int := M.word k.toNat rd a b n

theorem word_t {k rd a b n : Int} (h : okI k rd a b n = true) (w : World) (T : Tabs w) :
    Calls Tryd.prog 54 #[.agg #[.int .i64 k, .int .i64 rd, .int .i64 a, .int .i64 b, .int .i64 n]] w fun e w' => e = .returned (.tuple #[.int .u32 (wordI k rd a b n), .int .i64 0]) ∧ Below w.heap.size w w' := by
  obtain ⟨h1, h2, h3⟩ := okI_parts h
  obtain ⟨K, rfl⟩ := Int.eq_ofNat_of_zero_le (show 0 ≤ k by omega)
  exact word_yes K (by omega) (by omega) rd a b n w T h3
theorem word_f {k rd a b n : Int} (h : okI k rd a b n = false) (w : World) (T : Tabs w) :
    Calls Tryd.prog 54 #[.agg #[.int .i64 k, .int .i64 rd, .int .i64 a, .int .i64 b, .int .i64 n]] w fun e w' => e = .returned (.tuple #[.int .u32 0, .int .i64 1]) ∧ Below w.heap.size w w' := by
  by_cases h1 : 1 ≤ k
  · by_cases h2 : k < 32
    · obtain ⟨K, rfl⟩ := Int.eq_ofNat_of_zero_le (show 0 ≤ k by omega)
      refine word_no K (by omega) (by omega) rd a b n w T ?_
      simpa [okI, h1, h2] using h
    · exact word_out k (.inr (by omega)) rd a b n w
  · exact word_out k (.inl (by omega)) rd a b n w
theorem wordI_in {k rd a b n : Int} (h : okI k rd a b n = true) : 0 ≤ wordI k rd a b n ∧ wordI k rd a b n < 4294967296 := by
  obtain ⟨h1, h2, h3⟩ := okI_parts h
  obtain ⟨_, _, _, _, _, h5, h6⟩ := M.of_may (by omega) h3
  exact ⟨h5, h6⟩
theorem wordI_ok {k rd a b n : Int} (h : okI k rd a b n = true) : M.okAt (wordI k rd a b n) k.toNat = true := by
  obtain ⟨h1, h2, h3⟩ := okI_parts h
  exact M.okAt_word (by omega) h3

/-- the fields of the instruction that Take finds, by its kind -/
theorem take_t (v : Int) (K : Nat) (k1 : 1 ≤ K) (k2 : K < 32) (hok : M.okAt v K = true) (w : World) (v0 : 0 ≤ v) (v1 : v < 4294967296) (T : Tabs w) :
    Calls Tryd.prog 38 #[.int .u32 v] w fun e w' => e = .returned (.tuple #[.agg #[.int .i64 K, .int .i64 (M.tRd K v), .int .i64 (M.tA K v), .int .i64 (M.tB K v), .int .i64 (M.tI K v)], .int .i64 0]) ∧ Below w.heap.size w w' := by
  refine (take_any v w v0 v1 T).mono ?_
  rintro e w' ⟨⟨k, h1, h2, h3, rfl⟩ | ⟨h1, rfl⟩, hb⟩
  · obtain rfl := M.ok_one_kind h2 k2 h1 k1 h3 hok
    exact ⟨rfl, hb⟩
  · rw [h1 K k1 k2] at hok; cases hok
theorem take_f (v : Int) (hno : ∀ K : Nat, 1 ≤ K → K < 32 → M.okAt v K = false) (w : World) (v0 : 0 ≤ v) (v1 : v < 4294967296) (T : Tabs w) :
    Calls Tryd.prog 38 #[.int .u32 v] w fun e w' => e = .returned (.tuple #[.agg #[.int .i64 0, .int .i64 0, .int .i64 0, .int .i64 0, .int .i64 0], .int .i64 5]) ∧ Below w.heap.size w w' := by
  refine (take_any v w v0 v1 T).mono ?_
  rintro e w' ⟨⟨k, h1, h2, h3, rfl⟩ | ⟨h1, rfl⟩, hb⟩
  · rw [hno k h1 h2] at h3; cases h3
  · exact ⟨rfl, hb⟩
theorem take_word {k rd a b n : Int} (h : okI k rd a b n = true) (w : World) (T : Tabs w) :
    Calls Tryd.prog 38 #[.int .u32 (wordI k rd a b n)] w fun e w' => e = .returned (.tuple #[.agg #[.int .i64 k, .int .i64 rd, .int .i64 a, .int .i64 b, .int .i64 n], .int .i64 0]) ∧ Below w.heap.size w w' := by
  obtain ⟨h1, h2, h3⟩ := okI_parts h
  obtain ⟨i0, i1⟩ := wordI_in h
  have ho := wordI_ok h
  obtain ⟨K, rfl⟩ := Int.eq_ofNat_of_zero_le (show 0 ≤ k by omega)
  have hc := take_t _ K (by omega) (by omega) ho w i0 i1 T
  obtain ⟨_, e1, e2, e3, e4, _, _⟩ := M.of_may (k := K) (by omega) h3
  have hw : wordI K rd a b n = M.word K rd a b n := rfl
  rw [hw] at hc ⊢
  rw [e1, e2, e3, e4] at hc
  exact hc
/-- what Take finds may be, and has the word that it was taken from -/
theorem take_okI {v : Int} {K : Nat} (k1 : 1 ≤ K) (k2 : K < 32) (hok : M.okAt v K = true) : okI K (M.tRd K v) (M.tA K v) (M.tB K v) (M.tI K v) = true ∧ wordI K (M.tRd K v) (M.tA K v) (M.tB K v) (M.tI K v) = v := by
  obtain ⟨h1, h2⟩ := M.okAt_parts hok
  exact ⟨by simp [okI, h1]; omega, h2⟩

end Go.Proofs.YtclbkdnihhmglaaDoor.E

namespace Go.Proofs.YtclbkdnihhmglaaDoor.E
open Go.RowKit

/-- is the i-th of some instructions one that may be, and its word -/
def okO (f : Nat → Nat → Int) (i : Nat) : Bool := okI (f i 0) (f i 1) (f i 2) (f i 3) (f i 4)
def wdO (f : Nat → Nat → Int) (i : Nat) : Int := wordI (f i 0) (f i 1) (f i 2) (f i 3) (f i 4)
def four (x : Int) : List Int := [x % 256, x / 256 % 256, x / 65536 % 256, x / 16777216]
def numsTo (f : Nat → Nat → Int) (n : Nat) : List Int := (List.range n).flatMap fun i => four (wdO f i)
theorem numsTo_succ (f : Nat → Nat → Int) (k : Nat) : numsTo f (k + 1) = numsTo f k ++ four (wdO f k) := by simp [numsTo, List.range_succ]
theorem numsTo_length (f : Nat → Nat → Int) (k : Nat) : (numsTo f k).length = 4 * k := by
  induction k with
  | zero => rfl
  | succ k ih => rw [numsTo_succ, List.length_append, ih]; simp [four]; omega
/-- the cells of n instructions -/
def OpsIn (W : World) (b off n : Nat) (f : Nat → Nat → Int) : Prop :=
  b < W.heap.size ∧ ∀ i, i < n → ∀ j, j < 5 → W.cell? ⟨b, off + i * 5 + j, none⟩ = some (.int .i64 (f i j))
theorem OpsIn.next {W W' : World} {b off n : Nat} {f : Nat → Nat → Int} (h : OpsIn W b off n f) (hb : Below W.heap.size W W') : OpsIn W' b off n f :=
  ⟨Nat.lt_of_lt_of_le h.1 hb.size, fun i hi j hj => (hb.cell (p := ⟨b, off + i * 5 + j, none⟩) h.1).trans (h.2 i hi j hj)⟩
theorem Tryd.info5 : (Tryd.prog.info? 5).map (fun i => (i.zero, i.size, i.bytes)) = some (some (.int .u8 0), 1, 1) := by kernel_rfl
theorem four_new (w : World) (c0 c1 c2 c3 : Value) : ∀ (j : Nat) (u : Value), [c0, c1, c2, c3][j]? = some u → (w.alloc (.cells #[c0, c1, c2, c3] 5)).cell? ((⟨w.heap.size, 0, none⟩ : Addr).add j) = some u := by
  have h := World.news_of_block (cs := #[c0, c1, c2, c3]) (t := 5) (fr := (0, 0)) (heap_alloc_new w (.cells #[c0, c1, c2, c3] 5))
  simpa using h
def BytesRel (f : Nat → Nat → Int) (n : Nat) (w : World) (out i : Value) (wr : World) : Prop :=
  ∃ k m : Nat, m = 4 * k ∧ k ≤ n ∧ i = .int .i64 k ∧ (∀ j, j < k → okO f j = true) ∧ wr.ownsRow w.heap.size 5 1 out m ((numsTo f k).map (Value.int .u8)) ∧ Below w.heap.size w wr
def BytesPost (f : Nat → Nat → Int) (n : Nat) (w : World) (e : Ending) (w' : World) : Prop :=
  (((∀ j, j < n → okO f j = true) ∧ e = .returned (.tuple #[.string (strOfNums (numsTo f n)), .int .i64 0])) ∨
    ((∃ j, j < n ∧ okO f j = false) ∧ e = .returned (.tuple #[.string ⟨#[]⟩, .int .i64 1]))) ∧ Below w.heap.size w w'
/-- what an owned row of bytes is as a string -/
theorem conv_own {W : World} {base : Nat} {v : Value} {n : Nat} {xs : List Int} (h : W.ownsRow base 5 1 v n (xs.map (Value.int .u8))) (hl : xs.length = n) :
    (convert 45 9 v).run Tryd.prog W = .ok (.string (strOfNums xs)) W := by
  have h' := h
  obtain ⟨_, ⟨rfl, rfl⟩ | ⟨g, cap, cur, rfl, _⟩⟩ := h'
  · obtain rfl : xs = [] := List.eq_nil_of_length_eq_zero hl
    exact run_convert_bytes_nil W 45 5 Tryd.underlying45 Tryd.underlying5 0 0 9 Tryd.underlying9
  · refine run_convert_bytes_arg W 45 5 Tryd.underlying45 Tryd.underlying5 g 0 n cap xs hl (fun i hi => ?_) 9 Tryd.underlying9
    rw [Nat.zero_add, h.cellAt i (by omega), List.getElem?_map, List.getElem?_eq_getElem (by omega), List.getD_eq_getElem?_getD, List.getElem?_eq_getElem (by omega)]
    rfl

theorem own_next {W w' : World} {base : Nat} {e : TypeId} {size n : Nat} {v : Value} {xs : List Value} (h : W.ownsRow base e size v n xs) (hb : Below W.heap.size W w') : w'.ownsRow base e size v n xs :=
  h.kept (row := none) ⟨hb.os, hb.tape, hb.output, hb.size, fun i hi _ => hb.block i hi⟩ (by cases v.ownBlock <;> simp)
theorem below_grown {W w' : World} {e : TypeId} {size n : Nat} {v : Value} {xs : List Value} {w0 : World} (h : W.ownsRow w0.heap.size e size v n xs) (hb : Below w0.heap.size w0 W) (hg : W.grownBy w' v.ownBlock) : Below w0.heap.size w0 w' :=
  hb.grown hg hb.size (fun k hk => (h.lt k hk).1)
end Go.Proofs.YtclbkdnihhmglaaDoor.E

namespace Go.Proofs.YtclbkdnihhmglaaDoor.E
open Go.RowKit

/-- a slice of n instructions -/
def Ops (W : World) (v : Value) (n : Nat) (f : Nat → Nat → Int) : Prop :=
  (n = 0 ∧ (v = .slice none 0 0 ∨ ∃ a cap, v = .slice (some a) 0 cap)) ∨ (0 < n ∧ ∃ b off cap, v = .slice (some ⟨b, off, none⟩) n cap ∧ OpsIn W b off n f)
theorem Ops.next {W W' : World} {v : Value} {n : Nat} {f : Nat → Nat → Int} (h : Ops W v n f) (hb : Below W.heap.size W W') : Ops W' v n f := by
  rcases h with h | ⟨h1, b, off, cap, rfl, h2⟩
  · exact .inl h
  · exact .inr ⟨h1, b, off, cap, rfl, h2.next hb⟩
theorem Ops.slice {W : World} {v : Value} {n : Nat} {f : Nat → Nat → Int} (h : Ops W v n f) : ∃ A cap, v = .slice A n cap := by
  rcases h with ⟨rfl, rfl | ⟨a, cap, rfl⟩⟩ | ⟨_, b, off, cap, rfl, _⟩
  · exact ⟨_, _, rfl⟩
  · exact ⟨_, _, rfl⟩
  · exact ⟨_, _, rfl⟩
def five (f : Nat → Nat → Int) (i : Nat) : List Value := [.int .i64 (f i 0), .int .i64 (f i 1), .int .i64 (f i 2), .int .i64 (f i 3), .int .i64 (f i 4)]
def cellsOf (f : Nat → Nat → Int) (n : Nat) : List Value := (List.range n).flatMap (five f)
theorem cellsOf_succ (f : Nat → Nat → Int) (n : Nat) : cellsOf f (n + 1) = cellsOf f n ++ five f n := by simp [cellsOf, List.range_succ]
theorem cellsOf_length (f : Nat → Nat → Int) (n : Nat) : (cellsOf f n).length = n * 5 := by
  induction n with
  | zero => rfl
  | succ n ih => rw [cellsOf_succ, List.length_append, ih]; simp [five]; omega
theorem five_at (f : Nat → Nat → Int) (i j : Nat) (hj : j < 5) : (five f i)[j]? = some (.int .i64 (f i j)) := by
  rcases (by omega : j = 0 ∨ j = 1 ∨ j = 2 ∨ j = 3 ∨ j = 4) with rfl | rfl | rfl | rfl | rfl <;> rfl
theorem cellsOf_at (f : Nat → Nat → Int) (n i j : Nat) (hi : i < n) (hj : j < 5) : (cellsOf f n)[i * 5 + j]? = some (.int .i64 (f i j)) := by
  induction n with
  | zero => omega
  | succ n ih =>
    rw [cellsOf_succ]
    by_cases h : i < n
    · rw [List.getElem?_append_left (by rw [cellsOf_length]; omega)]; exact ih h
    · obtain rfl : i = n := by omega
      rw [List.getElem?_append_right (by rw [cellsOf_length]; omega), cellsOf_length, show i * 5 + j - i * 5 = j by omega]
      exact five_at f i j hj
theorem cellsOf_ints (f : Nat → Nat → Int) (n : Nat) : ∀ u ∈ cellsOf f n, u.oneCell' = true := by
  intro u hu
  simp only [cellsOf, List.mem_flatMap] at hu
  obtain ⟨i, _, hi⟩ := hu
  simp only [five, List.mem_cons, List.not_mem_nil, or_false] at hi
  rcases hi with rfl | rfl | rfl | rfl | rfl <;> rfl
theorem cellsOf_which (f : Nat → Nat → Int) (n k : Nat) (u : Value) (h : (cellsOf f n)[k]? = some u) : k / 5 < n ∧ u = .int .i64 (f (k / 5) (k % 5)) := by
  have hk : k < n * 5 := by
    have := (List.getElem?_eq_some_iff.1 h).1
    rwa [cellsOf_length] at this
  have h1 := cellsOf_at f n (k / 5) (k % 5) (by omega) (by omega)
  rw [show k / 5 * 5 + k % 5 = k by omega, h] at h1
  exact ⟨by omega, Option.some.inj h1⟩
theorem Ops.of_own {W : World} {base : Nat} {v : Value} {n : Nat} {f : Nat → Nat → Int} (h : W.ownsRow base 35 5 v n (cellsOf f n)) : Ops W v n f := by
  by_cases hn : 0 < n
  · obtain ⟨g, cap, rfl, _, hg⟩ := h.form hn
    refine .inr ⟨hn, g, 0, cap, rfl, hg, fun i hi j hj => ?_⟩
    rw [Nat.zero_add, h.cellAt (i * 5 + j) (by omega)]
    exact cellsOf_at f n i j hi hj
  · obtain rfl : n = 0 := by omega
    refine .inl ⟨rfl, ?_⟩
    obtain ⟨_, ⟨rfl, _⟩ | ⟨g, cap, cur, rfl, _⟩⟩ := h
    · exact .inl rfl
    · exact .inr ⟨_, _, rfl⟩

theorem add_plain (b off j : Nat) : (⟨b, off, none⟩ : Addr).add j = ⟨b, off + j, none⟩ := by unfold Addr.add; split <;> simp_all
/-- append of a slice of instructions to one of the call's own -/
theorem Tryd.info23 : (Tryd.prog.info? 35).map (fun i => (i.zero, i.size, i.bytes)) = some (some (.agg #[.int .i64 0, .int .i64 0, .int .i64 0, .int .i64 0, .int .i64 0]), 5, 40) := by kernel_rfl
theorem wpList_append_ops {w : World} {ops : Array Oper} {rest : List Oper} {o : Oper} {a : Act} {Q : Exit → Act → World → Prop} (hgd : o.guard = none) (s x : Operand)
    (ho : o.op = .call { callee := .builtin .append, args := #[s, x], argTypes := #[36, 36] }) (base : Nat) (v : Value) (n : Nat) (xs : List Value) (hs : a.eval s = v) (hown : w.ownsRow base 35 5 v n xs)
    (u : Value) (m : Nat) (f : Nat → Nat → Int) (hx : a.eval x = u) (hO : Ops w u m f) (hn : n ≤ 1000) (hm : m ≤ 1000) (hbase : base ≤ w.heap.size)
    (h : ∀ v' w', w'.ownsRow base 35 5 v' (n + m) (xs ++ cellsOf f m) → w.grownBy w' v.ownBlock → wpList Tryd.prog ops Q rest (a.put o.dst v') w') : wpList Tryd.prog ops Q (o :: rest) a w := by
  obtain ⟨i0, hi, hz0, hz1, hz2⟩ := info_parts Tryd.info23
  rcases hO with ⟨rfl, rfl | ⟨A, cap, rfl⟩⟩ | ⟨hm0, b, off, cap, rfl, _, hc⟩
  · exact wpList_append_own_none hgd s x 36 ho base 35 i0 5 Tryd.underlying36 hi v n xs hs hown hx (h v w (by simpa [cellsOf] using hown) ⟨rfl, rfl, rfl, Nat.le_refl _, fun _ _ _ => rfl⟩)
  · refine wpList_append_own w hgd s x 36 ho base 35 i0 (.agg #[.int .i64 0, .int .i64 0, .int .i64 0, .int .i64 0, .int .i64 0]) 5 40 Tryd.underlying36 hi hz0 hz1 hz2 rfl (by decide) v n xs hs hown A 0 cap [] hx rfl (fun j u hj => by simp at hj) (fun u hu => by cases hu) (by unfold maxLen; omega) (by omega) hbase (fun v' w' h1 h2 _ => h v' w' h1 h2)
  · refine wpList_append_own w hgd s x 36 ho base 35 i0 (.agg #[.int .i64 0, .int .i64 0, .int .i64 0, .int .i64 0, .int .i64 0]) 5 40 Tryd.underlying36 hi hz0 hz1 hz2 rfl (by decide) v n xs hs hown ⟨b, off, none⟩ m cap (cellsOf f m) hx (by rw [cellsOf_length]) (fun j u hj => ?_) (cellsOf_ints f m) (by unfold maxLen; omega) (by omega) hbase (fun v' w' h1 h2 _ => h v' w' h1 h2)
    obtain ⟨h1, rfl⟩ := cellsOf_which f m j u hj
    rw [add_plain, show off + j = off + j / 5 * 5 + j % 5 by omega]
    exact hc _ h1 _ (by omega)

end Go.Proofs.YtclbkdnihhmglaaDoor.E
