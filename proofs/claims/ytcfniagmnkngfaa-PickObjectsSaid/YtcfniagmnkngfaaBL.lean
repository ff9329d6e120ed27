/- Package ir: is a module right, and why isn't it? Package ir: the document's example at the head of its statements. IrJumps: in a right function each end leads to a block that there is, with as many values as that one is handed. IrAhead: in a right function each value that is used is given ahead, in its own block. IrCounts: a right function has at most sixteen blocks, each of at most 38 values; what an instruction uses are at most six. Instructions, blocks, functions, globals, modules that came in as arguments, opened. The reference's FindFunc and FindGlob; what follows from a module's being right: pure. Rows of functions that a call owns: append; a right module with one more function that names nothing is right: pure. -/
import Derived.Test.YtcfniagmnkngfaaK7
import Derived.Test.YtcfniagmnkngfaaK13
import Derived.Test.YtcfniagmnkngfaaBJ
import Derived.Test.YtcfniagmnkngfaaBK
import Derived.Test.YtcfniagmnkngfaaBA
import Derived.Laws.AppendOwnNone
import Derived.Deep.AppendLies
namespace Go.Proofs.Ytcfniagmnkngfaa
open Go.RowKit

set_option maxRecDepth 100000 in
set_option maxHeartbeats 4000000 in
theorem check_any (m : Md) (F G : Option Addr) (nf cf ng cg : Nat) (w : World) (hok : MdOk m) (hnf : m.f.length = nf) (hng : m.g.length = ng) (hS : MdAt w (.slice F nf cf) (.slice G ng cg) m) :
    Calls Try.prog 52 #[.agg #[.slice F nf cf, .slice G ng cg]] w fun e w' => e = .returned (.int .i64 (checkE m)) ∧ Below w.heap.size w w' := by
  have HS := Lib.hid hS
  have HOK := Lib.hid hok
  have HNF := Lib.hid hnf
  have HNG := Lib.hid hng
  have HE := Lib.hid (show checkE m = if 16 < nf ∨ 16 < ng then 4 else if aloneB m = false then 10 else if ¬ (namesM m).Nodup then 9 else foundE m by unfold checkE; rw [hnf, hng])
  have HB := Lib.hid (balloc (Below.refl _ w) (.cells #[.slice F nf cf, .slice G ng cg] 25))
  have HIN := Lib.hid (heap_alloc_new w (.cells #[.slice F nf cf, .slice G ng cg] 25))
  have f9 : (nf : Int) ≤ 9223372036854775807 := by have := hok.2.2.1; omega
  have g9 : (ng : Int) ≤ 9223372036854775807 := by have := hok.2.2.2; omega
  clear hS hok hnf hng
  go_enter Try.func52, Try.ntmps52
  by_cases h1 : 16 < nf
  · have t1 : decide ((16 : Int) < (nf : Int)) = true := decide_eq_true (by omega)
    have HV := Lib.hid (show checkE m = 4 by rw [HE.out, if_pos (.inl h1)])
    go_wp2_with fail
    go_ret
    exact ⟨by rw [HV.out]; rfl, HB.out⟩
  have t1 : decide ((16 : Int) < (nf : Int)) = false := decide_eq_false (by omega)
  by_cases h2 : 16 < ng
  · have t2 : decide ((16 : Int) < (ng : Int)) = true := decide_eq_true (by omega)
    have HV := Lib.hid (show checkE m = 4 by rw [HE.out, if_pos (.inr h2)])
    go_wp2_with fail
    go_ret
    exact ⟨by rw [HV.out]; rfl, HB.out⟩
  have t2 : decide ((16 : Int) < (ng : Int)) = false := decide_eq_false (by omega)
  have HE := Lib.hid (show checkE m = if aloneB m = false then 10 else if ¬ (namesM m).Nodup then 9 else foundE m by rw [HE.out, if_neg (by omega)])
  have HL := Lib.hid (show nf ≤ 1000000 ∧ ng ≤ 1000000 by omega)
  clear h1 h2
  go_wp2_with fail
  have HR := Lib.hid (rightAlone_any m F G nf cf ng cg (w.alloc (.cells #[.slice F nf cf, .slice G ng cg] 25)) HOK.out HNF.out HNG.out (HS.out.next HB.out))
  generalize w.alloc (.cells #[.slice F nf cf, .slice G ng cg] 25) = W1 at *
  refine HR.out.mono ?_
  rintro r w2 ⟨rfl, hb⟩
  have HB2 := Lib.hid (bthen HB.out hb)
  have hin2 := (hb.block _ (Array.getElem?_eq_some_iff.1 HIN.out).1).trans HIN.out
  have c0 := Lib.cell_of_heap hin2 0
  have c1 := Lib.cell_of_heap hin2 1
  simp only [List.getElem?_toArray, List.getElem?_cons_zero, List.getElem?_cons_succ] at c0 c1
  have HIN2 := Lib.hid hin2
  clear hb hin2
  cases ha : aloneB m with
  | false =>
    have HV := Lib.hid (show checkE m = 10 by rw [HE.out, if_pos ha])
    go_wp2_with fail
    go_ret
    exact ⟨by rw [HV.out]; rfl, HB2.out⟩
  | true =>
    have HE := Lib.hid (show checkE m = if ¬ (namesM m).Nodup then 9 else foundE m by rw [HE.out, ha]; rfl)
    clear ha
    go_wp2_with fail
    refine (named_any m F G nf cf ng cg w2 HOK.out HNF.out HNG.out HL.out.1 HL.out.2 (HS.out.next HB2.out)).mono ?_
    rintro r w3 ⟨hb, ⟨hn, mb, mn, rfl, hmb, hM⟩ | ⟨hn, rfl⟩⟩
    · have HE := Lib.hid (show checkE m = foundE m by rw [HE.out, if_neg (fun h => h hn)])
      have HB3 := Lib.hid (bthen HB2.out hb)
      have hin3 := (hb.block _ (Array.getElem?_eq_some_iff.1 HIN2.out).1).trans HIN2.out
      have d0 := Lib.cell_of_heap hin3 0
      have d1 := Lib.cell_of_heap hin3 1
      simp only [List.getElem?_toArray, List.getElem?_cons_zero, List.getElem?_cons_succ] at d0 d1
      have HM := Lib.hid hM
      have HN := Lib.hid hn
      clear hb hin3 hM hn c0 c1
      go_wp2_with fail
      refine (found_any m F G nf cf ng cg mb mn w3 HOK.out HNF.out HN.out (HS.out.next HB3.out) HM.out).mono ?_
      rintro r w4 ⟨rfl, hb⟩
      have HB4 := Lib.hid (bthen HB3.out hb)
      clear hb d0 d1
      go_wp2_with fail
      go_ret
      exact ⟨by rw [HE.out]; rfl, HB4.out⟩
    · have HE := Lib.hid (show checkE m = 9 by rw [HE.out, if_pos hn])
      have HB3 := Lib.hid (bthen HB2.out hb)
      clear hb c0 c1
      go_wp2_with fail
      go_ret
      exact ⟨by rw [HE.out]; rfl, HB3.out⟩
end Go.Proofs.Ytcfniagmnkngfaa

namespace Go.Proofs.Ytcfniagmnkngfaa
open Go.RowKit

def exIn : In := ⟨1, 0, 0, 7, ⟨#[]⟩, []⟩
def exBk : Bk := ⟨0, [exIn], ⟨3, 0, 0, [], 0, []⟩⟩
def exFn : Fn := ⟨⟨#[109, 97, 105, 110]⟩, 2, 0, [exBk]⟩
def exMd : Md := ⟨[exFn], []⟩
theorem exFn_right : funcB exFn = true := by decide +kernel
theorem exMd_right : checkE exMd = 0 := by decide +kernel
theorem exIn_ok : InOk exIn := ⟨by decide, by decide⟩
theorem exBk_ok : BkOk exBk := ⟨by decide, by decide, by decide, fun i hi => by obtain rfl : i = exIn := (by simpa [exBk] using hi); exact exIn_ok⟩
theorem exFn_ok : FnOk exFn := ⟨by decide, by decide, fun b hb => by obtain rfl : b = exBk := (by simpa [exFn] using hb); exact exBk_ok⟩
theorem exMd_ok : MdOk exMd := ⟨fun f hf => by obtain rfl : f = exFn := (by simpa [exMd] using hf); exact exFn_ok, fun g hg => by simp [exMd] at hg, by decide, by decide⟩
/-- the example's blocks -/
theorem ex_blocks (w : World) (W : World) (hW : W = ((w.alloc (.cells #[.int .i64 1, .int .i64 0, .int .i64 0, .int .u64 7, .string ⟨#[]⟩, .slice none 0 0] 85)).alloc (.cells #[.int .i64 0, .slice (some ⟨w.heap.size, 0, none⟩) 1 1, .int .i64 3, .int .i64 0, .int .i64 0, .slice none 0 0, .int .i64 0, .slice none 0 0] 90))) :
    Blocks W (.slice (some ⟨w.heap.size + 1, 0, none⟩) 1 1) [exBk] ∧ Below w.heap.size w W := by
  subst hW
  have i0 := heap_alloc_new w (.cells #[.int .i64 1, .int .i64 0, .int .i64 0, .int .u64 7, .string ⟨#[]⟩, .slice none 0 0] 85)
  have hb := balloc (Below.refl _ (w.alloc (.cells #[.int .i64 1, .int .i64 0, .int .i64 0, .int .u64 7, .string ⟨#[]⟩, .slice none 0 0] 85))) (.cells #[.int .i64 0, .slice (some ⟨w.heap.size, 0, none⟩) 1 1, .int .i64 3, .int .i64 0, .int .i64 0, .slice none 0 0, .int .i64 0, .slice none 0 0] 90)
  have i1 := (hb.block _ (Array.getElem?_eq_some_iff.1 i0).1).trans i0
  have b1 := heap_alloc_new (w.alloc (.cells #[.int .i64 1, .int .i64 0, .int .i64 0, .int .u64 7, .string ⟨#[]⟩, .slice none 0 0] 85)) (.cells #[.int .i64 0, .slice (some ⟨w.heap.size, 0, none⟩) 1 1, .int .i64 3, .int .i64 0, .int .i64 0, .slice none 0 0, .int .i64 0, .slice none 0 0] 90)
  rw [World.size_alloc] at b1
  refine ⟨.inr ⟨by simp, w.heap.size + 1, 0, 1, rfl, (Array.getElem?_eq_some_iff.1 b1).1, fun i hi => ?_⟩, bthen (balloc (Below.refl _ w) _) hb⟩
  obtain rfl : i = 0 := by simpa using hi
  refine ⟨Lib.cell_of_heap b1 0, ⟨some ⟨w.heap.size, 0, none⟩, 1, Lib.cell_of_heap b1 1, .inr ⟨by simp [exBk], w.heap.size, 0, 1, rfl, (Array.getElem?_eq_some_iff.1 i1).1, fun j hj => ?_⟩⟩, Lib.cell_of_heap b1 2, Lib.cell_of_heap b1 3, Lib.cell_of_heap b1 4, ⟨none, 0, Lib.cell_of_heap b1 5, .inl ⟨rfl, .inl rfl⟩⟩, Lib.cell_of_heap b1 6, none, 0, Lib.cell_of_heap b1 7, .inl ⟨rfl, .inl rfl⟩⟩
  obtain rfl : j = 0 := by simpa [exBk] using hj
  exact ⟨Lib.cell_of_heap i1 0, Lib.cell_of_heap i1 1, Lib.cell_of_heap i1 2, Lib.cell_of_heap i1 3, Lib.cell_of_heap i1 4, none, 0, Lib.cell_of_heap i1 5, .inl ⟨rfl, .inl rfl⟩⟩
end Go.Proofs.Ytcfniagmnkngfaa

namespace Go.Proofs.Ytcfniagmnkngfaa
open Go.RowKit

theorem goes_parts {all : List Bk} {n dest : Int} {l : List Int} (h : goesB all n dest l = true) : ∃ i : Nat, dest = i ∧ ∃ hi : i < all.length, (l.length : Int) = all[i].p ∧ amongB n l = true := by
  unfold goesB at h
  simp only [Bool.and_eq_true, decide_eq_true_eq] at h
  obtain ⟨⟨⟨h0, h1⟩, h2⟩, h3⟩ := h
  obtain ⟨i, rfl⟩ := Int.eq_ofNat_of_zero_le h0
  have hi : i < all.length := by omega
  rw [Int.toNat_natCast, List.getElem?_eq_getElem hi] at h2
  exact ⟨i, rfl, hi, by simpa using h2, h3⟩
theorem func_parts {f : Fn} (h : funcB f = true) : f.l.length ≤ 16 ∧ (∀ b ∈ f.l, blockB f.l b = true) ∧ (∀ (h : 0 < f.l.length), f.l[0].p = f.p) := by
  obtain ⟨s, b, p, l⟩ := f
  rw [funcB_eq] at h
  simp only [Bool.and_eq_true, decide_eq_true_eq] at h
  obtain ⟨⟨-, h16⟩, hl⟩ := h
  refine ⟨h16, ?_, ?_⟩
  · cases l with
    | nil => simp
    | cons c l =>
      simp only [Bool.and_eq_true] at hl
      exact List.all_eq_true.1 hl.2
  · cases l with
    | nil => simp
    | cons c l =>
      simp only [Bool.and_eq_true] at hl
      intro _
      simpa using hl.1
theorem block_parts {all : List Bk} {b : Bk} (h : blockB all b = true) : 0 ≤ b.p ∧ b.p ≤ 6 ∧ b.i.length ≤ 32 ∧ endB all (b.p + b.i.length) b.e = true ∧ instsB b.p b.i = true := by
  unfold blockB at h
  simp only [Bool.and_eq_true, decide_eq_true_eq] at h
  exact ⟨h.1.1.1.1, h.1.1.1.2, h.1.1.2, h.1.2, h.2⟩
theorem end_cases {all : List Bk} {n : Int} {t : Tm} (h : endB all n t = true) : (t.k = 1 ∧ goesB all n t.t t.l = true) ∨ (t.k = 2 ∧ amongB n [t.a] = true ∧ goesB all n t.t t.l = true ∧ goesB all n t.e t.m = true) ∨ (t.k = 3 ∧ amongB n [t.a] = true) := by
  unfold endB at h
  by_cases h1 : t.k = 1
  · rw [if_pos h1] at h
    simp only [Bool.and_eq_true] at h
    exact .inl ⟨h1, h.1.1.1⟩
  · rw [if_neg h1] at h
    by_cases h2 : t.k = 2
    · rw [if_pos h2] at h
      simp only [Bool.and_eq_true] at h
      exact .inr (.inl ⟨h2, h.1.1, h.1.2, h.2⟩)
    · rw [if_neg h2] at h
      by_cases h3 : t.k = 3
      · rw [if_pos h3] at h
        simp only [Bool.and_eq_true] at h
        exact .inr (.inr ⟨h3, h.1.1.1.1⟩)
      · rw [if_neg h3] at h
        cases h
theorem below_drewN {n : Nat} {w W : World} (h : Below n w W) (k : Nat) : Below n w (W.drewN k) := below_re h rfl rfl rfl rfl
end Go.Proofs.Ytcfniagmnkngfaa

namespace Go.Proofs.Ytcfniagmnkngfaa
open Go.RowKit

theorem instsB_at : ∀ (l : List In) (p : Int), instsB p l = true → ∀ (j : Nat) (h : j < l.length), instB (p + j) l[j] = true
  | [], _, _, j, h => by simp at h
  | i :: l, p, hb, 0, _ => by
    rw [instsB, Bool.and_eq_true] at hb
    simpa using hb.1
  | i :: l, p, hb, j + 1, h => by
    rw [instsB, Bool.and_eq_true] at hb
    have := instsB_at l (p + 1) hb.2 j (by simpa using h)
    rw [List.getElem_cons_succ, show p + ((j + 1 : Nat) : Int) = p + 1 + j by omega]
    exact this
theorem inst_parts {n : Int} {i : In} (h : instB n i = true) : i.l.length ≤ 6 ∧ amongB n (usesI i) = true := by
  rw [inst_chain] at h
  simp only [Bool.and_eq_true, decide_eq_true_eq] at h
  exact ⟨h.1.1.1.2, h.1.1.2⟩
theorem among_at {n : Int} {l : List Int} (h : amongB n l = true) (j : Nat) (hj : j < l.length) : 0 ≤ l[j] ∧ l[j] < n := by
  unfold amongB at h
  have := List.all_eq_true.1 h l[j] (List.getElem_mem hj)
  simpa using this
def EightC (W : World) (B : Nat) (c0 c1 c2 c3 c4 c5 c6 c7 : Value) : Prop := W.cell? ⟨B, 0, none⟩ = some c0 ∧ W.cell? ⟨B, 1, none⟩ = some c1 ∧ W.cell? ⟨B, 2, none⟩ = some c2 ∧ W.cell? ⟨B, 3, none⟩ = some c3 ∧ W.cell? ⟨B, 4, none⟩ = some c4 ∧ W.cell? ⟨B, 5, none⟩ = some c5 ∧ W.cell? ⟨B, 6, none⟩ = some c6 ∧ W.cell? ⟨B, 7, none⟩ = some c7
theorem eight_next {w W W' : World} {B : Nat} {c0 c1 c2 c3 c4 c5 c6 c7 : Value} (hb : Below W.heap.size W W') (h : W.cell? ⟨B, 0, none⟩ = some c0 ∧ W.cell? ⟨B, 1, none⟩ = some c1 ∧ W.cell? ⟨B, 2, none⟩ = some c2 ∧ W.cell? ⟨B, 3, none⟩ = some c3 ∧ W.cell? ⟨B, 4, none⟩ = some c4 ∧ W.cell? ⟨B, 5, none⟩ = some c5 ∧ W.cell? ⟨B, 6, none⟩ = some c6 ∧ W.cell? ⟨B, 7, none⟩ = some c7 ∧ Below w.heap.size w W) :
    W'.cell? ⟨B, 0, none⟩ = some c0 ∧ W'.cell? ⟨B, 1, none⟩ = some c1 ∧ W'.cell? ⟨B, 2, none⟩ = some c2 ∧ W'.cell? ⟨B, 3, none⟩ = some c3 ∧ W'.cell? ⟨B, 4, none⟩ = some c4 ∧ W'.cell? ⟨B, 5, none⟩ = some c5 ∧ W'.cell? ⟨B, 6, none⟩ = some c6 ∧ W'.cell? ⟨B, 7, none⟩ = some c7 ∧ Below w.heap.size w W' := by
  obtain ⟨h0, h1, h2, h3, h4, h5, h6, h7, h8⟩ := h
  have hB := World.block_lt_of_cell? W _ h0
  have e : ∀ o, W'.cell? ⟨B, o, none⟩ = W.cell? ⟨B, o, none⟩ := fun o => cellNext hB hb o
  exact ⟨(e 0).trans h0, (e 1).trans h1, (e 2).trans h2, (e 3).trans h3, (e 4).trans h4, (e 5).trans h5, (e 6).trans h6, (e 7).trans h7, bthen h8 hb⟩
theorem eight_below {w W : World} {B : Nat} {c0 c1 c2 c3 c4 c5 c6 c7 : Value} (h : W.cell? ⟨B, 0, none⟩ = some c0 ∧ W.cell? ⟨B, 1, none⟩ = some c1 ∧ W.cell? ⟨B, 2, none⟩ = some c2 ∧ W.cell? ⟨B, 3, none⟩ = some c3 ∧ W.cell? ⟨B, 4, none⟩ = some c4 ∧ W.cell? ⟨B, 5, none⟩ = some c5 ∧ W.cell? ⟨B, 6, none⟩ = some c6 ∧ W.cell? ⟨B, 7, none⟩ = some c7 ∧ Below w.heap.size w W) : Below w.heap.size w W := h.2.2.2.2.2.2.2.2
end Go.Proofs.Ytcfniagmnkngfaa

namespace Go.Proofs.Ytcfniagmnkngfaa
open Go.RowKit

theorem refs_ins (f : Fn) : (refsL f).length ≤ (insF f).length := by
  obtain ⟨s, b, p, l⟩ := f
  unfold refsL insF
  simp only
  induction l with
  | nil => simp
  | cons c l ih =>
    rw [List.map_cons, List.map_cons, List.flatten_cons, List.flatten_cons, List.length_append, List.length_append]
    have : (insNames c.i).length ≤ c.i.length := by
      unfold insNames
      rw [List.length_map]
      exact List.length_filter_le _ _
    omega
theorem ins_512 {f : Fn} (h : funcB f = true) : (insF f).length ≤ 512 := by
  obtain ⟨h16, hb, -⟩ := func_parts h
  have key : ∀ l : List Bk, (∀ b ∈ l, b.i.length ≤ 32) → ((l.map (·.i)).flatten).length ≤ 32 * l.length := by
    intro l
    induction l with
    | nil => simp
    | cons c l ih =>
      intro hl
      rw [List.map_cons, List.flatten_cons, List.length_append, List.length_cons]
      have h1 := hl c (by simp)
      have h2 := ih (fun b hb => hl b (by simp [hb]))
      omega
  have := key f.l (fun b hb' => (block_parts (hb b hb')).2.2.1)
  unfold insF
  omega
end Go.Proofs.Ytcfniagmnkngfaa

namespace Go.Proofs.Ytcfniagmnkngfaa
open Go.ChangeShapes Go.WideShapes Go.ChangeAt Go.RowKit Go.Deep Go.Joins

theorem cellsInt : Try.prog.cellsOf 3 = 1 := by kernel_rfl
theorem cellsInst : Try.prog.cellsOf 85 = 6 := by kernel_rfl
theorem cellsTerm : Try.prog.cellsOf 88 = 6 := by kernel_rfl
theorem cellsBlock : Try.prog.cellsOf 90 = 8 := by kernel_rfl
theorem cellsFunc : Try.prog.cellsOf 78 = 4 := by kernel_rfl
theorem cellsGlob : Try.prog.cellsOf 80 = 4 := by kernel_rfl
theorem cellsModule : Try.prog.cellsOf 25 = 2 := by kernel_rfl
theorem cellsInsts : Try.prog.cellsOf 86 = 1 := by kernel_rfl
theorem maxLen_is : maxLen = 9223372036854775807 := rfl
section
variable {H : Type} {enc : TypeId × Value → H} {W : World} {base : Nat} {spare : Nat → Bool} {held : Bool}
theorem open_ints {c : Value} {fuel : Nat} {y : DataW H × List MemPlace} (h : DataW.trod enc Try.prog W base spare held fuel 83 [c] = some y) :
    ∃ (A : Option Addr) (cap : Nat) (l : List Int), c = .slice A l.length cap ∧ Ints W c l ∧ l.length ≤ 9223372036854775807 := by
  obtain ⟨A, cap, l, rfl, hr, -, h1, h2⟩ := open_row (α := Int) (sz := 1) (fun W b off x => W.cell? ⟨b, off, none⟩ = some (.int .i64 x)) (fun _ => True) Try.underlying83 cellsInt (by omega) (fun n b off cs y hc hl ht => by
    match cs, hl with
    | [c], _ =>
      obtain ⟨x, e, -, -⟩ := DataW.trod_int Try.underlying3 ht
      simp only [List.cons.injEq, and_true] at e
      subst e
      exact ⟨x, trivial, by simpa using hc 0 (by omega)⟩) h
  refine ⟨A, cap, l, rfl, ?_, by rw [maxLen_is] at h2; omega⟩
  rcases hr with hr | ⟨h0, b, off, c, e, hb, hat⟩
  · exact .inl hr
  · exact .inr ⟨h0, b, off, c, e, hb, fun i hi => by simpa using hat i hi⟩
theorem open_inst (n b off : Nat) (cs : List Value) (y : DataW H × List MemPlace) (hc : ∀ j, j < 6 → W.cell? ⟨b, off + j, none⟩ = cs[j]?) (_hl : cs.length = 6) (ht : DataW.trod enc Try.prog W base spare held n 85 cs = some y) : ∃ x, InOk x ∧ InAt W b off x := by
  obtain ⟨ys, q, _, _, _, hg⟩ := row_of Try.underlying85 (by kernel_rfl) cellsInst ht
  obtain ⟨c0, y0, g0, _, r0⟩ := hg 0 _ rfl
  obtain ⟨c1, y1, g1, _, r1⟩ := hg 1 _ rfl
  obtain ⟨c2, y2, g2, _, r2⟩ := hg 2 _ rfl
  obtain ⟨c3, y3, g3, _, r3⟩ := hg 3 _ rfl
  obtain ⟨c4, y4, g4, _, r4⟩ := hg 4 _ rfl
  obtain ⟨c5, y5, g5, _, r5⟩ := hg 5 _ rfl
  obtain ⟨z0, e0, _, _⟩ := DataW.trod_int Try.underlying3 r0
  obtain ⟨z1, e1, _, _⟩ := DataW.trod_int Try.underlying3 r1
  obtain ⟨z2, e2, _, _⟩ := DataW.trod_int Try.underlying3 r2
  obtain ⟨z3, e3, _, _⟩ := DataW.trod_int Try.underlying29 r3
  obtain ⟨z4, e4, _, w4⟩ := DataW.trod_string Try.underlying9 r4
  obtain ⟨A, cap, l, rfl, hi, hl9⟩ := open_ints r5
  simp only [List.cons.injEq, and_true] at e0 e1 e2 e3 e4
  subst e0 e1 e2 e3 e4
  exact ⟨⟨z0, z1, z2, z3, z4, l⟩, ⟨by have := w4; rw [maxLen_is] at this; simp only; omega, hl9⟩, (hc 0 (by omega)).trans g0, (hc 1 (by omega)).trans g1, (hc 2 (by omega)).trans g2, (hc 3 (by omega)).trans g3, (hc 4 (by omega)).trans g4, A, cap, (hc 5 (by omega)).trans g5, hi⟩
theorem open_insts {c : Value} {fuel : Nat} {y : DataW H × List MemPlace} (h : DataW.trod enc Try.prog W base spare held fuel 86 [c] = some y) :
    ∃ (A : Option Addr) (cap : Nat) (l : List In), c = .slice A l.length cap ∧ Insts W c l ∧ (∀ x ∈ l, InOk x) ∧ l.length ≤ 9223372036854775807 := by
  obtain ⟨A, cap, l, rfl, hr, ho, h1, h2⟩ := open_row InAt InOk Try.underlying86 cellsInst (by omega) open_inst h
  exact ⟨A, cap, l, rfl, hr, ho, by rw [maxLen_is] at h2; omega⟩
set_option maxRecDepth 100000 in
theorem open_blk (n : Nat) (cs : List Value) (y : DataW H × List MemPlace) (hl : cs.length = 8) (ht : DataW.trod enc Try.prog W base spare held n 90 cs = some y) :
    ∃ (x : Bk) (A A5 A7 : Option Addr) (c c5 c7 : Nat), BkOk x ∧ cs = [.int .i64 x.p, .slice A x.i.length c, .int .i64 x.e.k, .int .i64 x.e.a, .int .i64 x.e.t, .slice A5 x.e.l.length c5, .int .i64 x.e.e, .slice A7 x.e.m.length c7] ∧
      Insts W (.slice A x.i.length c) x.i ∧ Ints W (.slice A5 x.e.l.length c5) x.e.l ∧ Ints W (.slice A7 x.e.m.length c7) x.e.m := by
  match cs, hl with
  | [b0, b1, b2, b3, b4, b5, b6, b7], _ =>
    obtain ⟨ys, m, _, _, _, hyl, hf⟩ := DataW.trod_struct Try.underlying90 ht
    have f0 : DataW.trod enc Try.prog W base spare held m 3 (List.take (Try.prog.cellsOf 3) (List.drop 0 [b0, b1, b2, b3, b4, b5, b6, b7])) = ys[0]? := hf 0 _ rfl
    have f1 : DataW.trod enc Try.prog W base spare held m 86 (List.take (Try.prog.cellsOf 86) (List.drop 1 [b0, b1, b2, b3, b4, b5, b6, b7])) = ys[1]? := hf 1 _ rfl
    have f2 : DataW.trod enc Try.prog W base spare held m 88 (List.take (Try.prog.cellsOf 88) (List.drop 2 [b0, b1, b2, b3, b4, b5, b6, b7])) = ys[2]? := hf 2 _ rfl
    rw [cellsInt] at f0
    rw [cellsInsts] at f1
    rw [cellsTerm] at f2
    simp only [List.drop_zero, List.drop_succ_cons, List.take_succ_cons, List.take_zero] at f0 f1 f2
    have hyl' : ys.length = 3 := hyl
    rw [List.getElem?_eq_getElem (by omega)] at f0 f1 f2
    obtain ⟨z0, e0, _, _⟩ := DataW.trod_int Try.underlying3 f0
    obtain ⟨A, c, l, rfl, hI, hok, h9⟩ := open_insts f1
    obtain ⟨_, q, _, _, _, hg⟩ := row_of Try.underlying88 (by kernel_rfl) cellsTerm f2
    obtain ⟨c0, y0, g0, _, r0⟩ := hg 0 _ rfl
    obtain ⟨c1, y1, g1, _, r1⟩ := hg 1 _ rfl
    obtain ⟨c2, y2, g2, _, r2⟩ := hg 2 _ rfl
    obtain ⟨c3, y3, g3, _, r3⟩ := hg 3 _ rfl
    obtain ⟨c4, y4, g4, _, r4⟩ := hg 4 _ rfl
    obtain ⟨c5, y5, g5, _, r5⟩ := hg 5 _ rfl
    obtain rfl : b2 = c0 := Option.some.inj g0
    obtain rfl : b3 = c1 := Option.some.inj g1
    obtain rfl : b4 = c2 := Option.some.inj g2
    obtain rfl : b5 = c3 := Option.some.inj g3
    obtain rfl : b6 = c4 := Option.some.inj g4
    obtain rfl : b7 = c5 := Option.some.inj g5
    obtain ⟨t0, k0, _, _⟩ := DataW.trod_int Try.underlying3 r0
    obtain ⟨t1, k1, _, _⟩ := DataW.trod_int Try.underlying3 r1
    obtain ⟨t2, k2, _, _⟩ := DataW.trod_int Try.underlying3 r2
    obtain ⟨A5, c5, l5, rfl, h5, h59⟩ := open_ints r3
    obtain ⟨t4, k4, _, _⟩ := DataW.trod_int Try.underlying3 r4
    obtain ⟨A7, c7, l7, rfl, h7, h79⟩ := open_ints r5
    simp only [List.cons.injEq, and_true] at e0 k0 k1 k2 k4
    subst e0 k0 k1 k2 k4
    exact ⟨⟨z0, l, ⟨t0, t1, t2, l5, t4, l7⟩⟩, A, A5, A7, c, c5, c7, ⟨h9, h59, h79, hok⟩, rfl, hI, h5, h7⟩
theorem open_block (n b off : Nat) (cs : List Value) (y : DataW H × List MemPlace) (hc : ∀ j, j < 8 → W.cell? ⟨b, off + j, none⟩ = cs[j]?) (hl : cs.length = 8) (ht : DataW.trod enc Try.prog W base spare held n 90 cs = some y) : ∃ x, BkOk x ∧ BkAt W b off x := by
  obtain ⟨x, A, A5, A7, c, c5, c7, ok, rfl, h1, h5, h7⟩ := open_blk n cs y hl ht
  exact ⟨x, ok, hc 0 (by omega), ⟨A, c, hc 1 (by omega), h1⟩, hc 2 (by omega), hc 3 (by omega), hc 4 (by omega), ⟨A5, c5, hc 5 (by omega), h5⟩, hc 6 (by omega), A7, c7, hc 7 (by omega), h7⟩
theorem open_blocks {c : Value} {fuel : Nat} {y : DataW H × List MemPlace} (h : DataW.trod enc Try.prog W base spare held fuel 76 [c] = some y) :
    ∃ (A : Option Addr) (cap : Nat) (l : List Bk), c = .slice A l.length cap ∧ Blocks W c l ∧ (∀ x ∈ l, BkOk x) ∧ l.length ≤ 9223372036854775807 := by
  obtain ⟨A, cap, l, rfl, hr, ho, h1, h2⟩ := open_row BkAt BkOk Try.underlying76 cellsBlock (by omega) open_block h
  exact ⟨A, cap, l, rfl, hr, ho, by rw [maxLen_is] at h2; omega⟩
theorem open_fnc (n : Nat) (cs : List Value) (y : DataW H × List MemPlace) (hl : cs.length = 4) (ht : DataW.trod enc Try.prog W base spare held n 78 cs = some y) :
    ∃ (x : Fn) (A : Option Addr) (c : Nat), FnOk x ∧ cs = [.string x.s, .int .i64 x.b, .int .i64 x.p, .slice A x.l.length c] ∧ Blocks W (.slice A x.l.length c) x.l := by
  match cs, hl with
  | [b0, b1, b2, b3], _ =>
    obtain ⟨ys, q, _, _, _, hg⟩ := row_of Try.underlying78 (by kernel_rfl) cellsFunc ht
    obtain ⟨c0, y0, g0, _, r0⟩ := hg 0 _ rfl
    obtain ⟨c1, y1, g1, _, r1⟩ := hg 1 _ rfl
    obtain ⟨c2, y2, g2, _, r2⟩ := hg 2 _ rfl
    obtain ⟨c3, y3, g3, _, r3⟩ := hg 3 _ rfl
    obtain rfl : b0 = c0 := Option.some.inj g0
    obtain rfl : b1 = c1 := Option.some.inj g1
    obtain rfl : b2 = c2 := Option.some.inj g2
    obtain rfl : b3 = c3 := Option.some.inj g3
    obtain ⟨z0, e0, _, w0⟩ := DataW.trod_string Try.underlying9 r0
    obtain ⟨z1, e1, _, _⟩ := DataW.trod_int Try.underlying3 r1
    obtain ⟨z2, e2, _, _⟩ := DataW.trod_int Try.underlying3 r2
    obtain ⟨A, c, l, rfl, hB, hok, h9⟩ := open_blocks r3
    simp only [List.cons.injEq, and_true] at e0 e1 e2
    subst e0 e1 e2
    exact ⟨⟨z0, z1, z2, l⟩, A, c, ⟨by have := w0; rw [maxLen_is] at this; simp only; omega, h9, hok⟩, rfl, hB⟩
theorem open_func_at (n b off : Nat) (cs : List Value) (y : DataW H × List MemPlace) (hc : ∀ j, j < 4 → W.cell? ⟨b, off + j, none⟩ = cs[j]?) (hl : cs.length = 4) (ht : DataW.trod enc Try.prog W base spare held n 78 cs = some y) : ∃ x, FnOk x ∧ FnAt W b off x := by
  obtain ⟨x, A, c, ok, rfl, h1⟩ := open_fnc n cs y hl ht
  exact ⟨x, ok, hc 0 (by omega), hc 1 (by omega), hc 2 (by omega), A, c, hc 3 (by omega), h1⟩
theorem open_glob_at (n b off : Nat) (cs : List Value) (y : DataW H × List MemPlace) (hc : ∀ j, j < 4 → W.cell? ⟨b, off + j, none⟩ = cs[j]?) (_hl : cs.length = 4) (ht : DataW.trod enc Try.prog W base spare held n 80 cs = some y) : ∃ x, GlOk x ∧ GlAt W b off x := by
  obtain ⟨ys, q, _, _, _, hg⟩ := row_of Try.underlying80 (by kernel_rfl) cellsGlob ht
  obtain ⟨c0, y0, g0, _, r0⟩ := hg 0 _ rfl
  obtain ⟨c1, y1, g1, _, r1⟩ := hg 1 _ rfl
  obtain ⟨c2, y2, g2, _, r2⟩ := hg 2 _ rfl
  obtain ⟨c3, y3, g3, _, r3⟩ := hg 3 _ rfl
  obtain ⟨z0, e0, _, w0⟩ := DataW.trod_string Try.underlying9 r0
  obtain ⟨z1, e1, _, _⟩ := DataW.trod_int Try.underlying3 r1
  obtain ⟨z2, e2, _⟩ := DataW.trod_bool Try.underlying4 r2
  obtain ⟨z3, e3, _, _⟩ := DataW.trod_int Try.underlying29 r3
  simp only [List.cons.injEq, and_true] at e0 e1 e2 e3
  subst e0 e1 e2 e3
  exact ⟨⟨z0, z1, z2, z3⟩, by have := w0; rw [maxLen_is] at this; show z0.size < _; omega, (hc 0 (by omega)).trans g0, (hc 1 (by omega)).trans g1, (hc 2 (by omega)).trans g2, (hc 3 (by omega)).trans g3⟩
theorem open_mod (n : Nat) (cs : List Value) (y : DataW H × List MemPlace) (hl : cs.length = 2) (ht : DataW.trod enc Try.prog W base spare held n 25 cs = some y) :
    ∃ (m : Md) (F G : Option Addr) (cf cg : Nat), MdOk m ∧ cs = [.slice F m.f.length cf, .slice G m.g.length cg] ∧ MdAt W (.slice F m.f.length cf) (.slice G m.g.length cg) m := by
  match cs, hl with
  | [b0, b1], _ =>
    obtain ⟨ys, q, _, _, _, hg⟩ := row_of Try.underlying25 (by kernel_rfl) cellsModule ht
    obtain ⟨c0, y0, g0, _, r0⟩ := hg 0 _ rfl
    obtain ⟨c1, y1, g1, _, r1⟩ := hg 1 _ rfl
    obtain rfl : b0 = c0 := Option.some.inj g0
    obtain rfl : b1 = c1 := Option.some.inj g1
    obtain ⟨A, cap, l, rfl, hr, ho, h1, h2⟩ := open_row FnAt FnOk Try.underlying22 cellsFunc (by omega) open_func_at r0
    obtain ⟨A', cap', l', rfl, hr', ho', h1', h2'⟩ := open_row GlAt GlOk Try.underlying23 cellsGlob (by omega) open_glob_at r1
    rw [maxLen_is] at h2 h2'
    exact ⟨⟨l, l'⟩, A, A', cap, cap', ⟨ho, ho', by simp only; omega, by simp only; omega⟩, rfl, hr, hr'⟩

set_option maxRecDepth 100000 in
theorem arg_inst {r : Reach} {b0 : Nat} {v : Value} {d : DataW H} {p : List MemPlace} (hv : Value.okWide Try.prog W r b0 85 v) (h : DataW.Trod enc Try.prog W base spare held 85 v d p) :
    ∃ (x : In) (A : Option Addr) (c : Nat), v = inV x (.slice A x.l.length c) ∧ InOk x ∧ Ints W (.slice A x.l.length c) x.l := by
  obtain ⟨cs, rfl, hsz⟩ := okWide_struct Try.underlying85 hv
  obtain ⟨l⟩ := cs
  match l, hsz.trans cellsInst with
  | [c0, c1, c2, c3, c4, c5], _ =>
    obtain ⟨fuel, hf⟩ := h
    obtain ⟨ys, q, _, _, _, hg⟩ := row_of Try.underlying85 (by kernel_rfl) cellsInst hf
    obtain ⟨k0, y0, g0, _, r0⟩ := hg 0 _ rfl
    obtain ⟨k1, y1, g1, _, r1⟩ := hg 1 _ rfl
    obtain ⟨k2, y2, g2, _, r2⟩ := hg 2 _ rfl
    obtain ⟨k3, y3, g3, _, r3⟩ := hg 3 _ rfl
    obtain ⟨k4, y4, g4, _, r4⟩ := hg 4 _ rfl
    obtain ⟨k5, y5, g5, _, r5⟩ := hg 5 _ rfl
    obtain rfl : c0 = k0 := Option.some.inj g0
    obtain rfl : c1 = k1 := Option.some.inj g1
    obtain rfl : c2 = k2 := Option.some.inj g2
    obtain rfl : c3 = k3 := Option.some.inj g3
    obtain rfl : c4 = k4 := Option.some.inj g4
    obtain rfl : c5 = k5 := Option.some.inj g5
    obtain ⟨z0, e0, _, _⟩ := DataW.trod_int Try.underlying3 r0
    obtain ⟨z1, e1, _, _⟩ := DataW.trod_int Try.underlying3 r1
    obtain ⟨z2, e2, _, _⟩ := DataW.trod_int Try.underlying3 r2
    obtain ⟨z3, e3, _, _⟩ := DataW.trod_int Try.underlying29 r3
    obtain ⟨z4, e4, _, w4⟩ := DataW.trod_string Try.underlying9 r4
    obtain ⟨A, cap, l, rfl, hi, hl9⟩ := open_ints r5
    simp only [List.cons.injEq, and_true] at e0 e1 e2 e3 e4
    subst e0 e1 e2 e3 e4
    exact ⟨⟨z0, z1, z2, z3, z4, l⟩, A, cap, rfl, ⟨by have := w4; rw [maxLen_is] at this; simp only; omega, hl9⟩, hi⟩
set_option maxRecDepth 100000 in
theorem arg_block {r : Reach} {b0 : Nat} {v : Value} {d : DataW H} {p : List MemPlace} (hv : Value.okWide Try.prog W r b0 90 v) (h : DataW.Trod enc Try.prog W base spare held 90 v d p) :
    ∃ (x : Bk) (A A5 A7 : Option Addr) (c c5 c7 : Nat), v = .agg #[.int .i64 x.p, .slice A x.i.length c, .int .i64 x.e.k, .int .i64 x.e.a, .int .i64 x.e.t, .slice A5 x.e.l.length c5, .int .i64 x.e.e, .slice A7 x.e.m.length c7] ∧ BkOk x := by
  obtain ⟨cs, rfl, hsz⟩ := okWide_struct Try.underlying90 hv
  obtain ⟨l⟩ := cs
  obtain ⟨fuel, hf⟩ := h
  obtain ⟨x, A, A5, A7, c, c5, c7, ok, e, -⟩ := open_blk fuel l _ (hsz.trans cellsBlock) hf
  subst e
  exact ⟨x, A, A5, A7, c, c5, c7, rfl, ok⟩
set_option maxRecDepth 100000 in
theorem arg_func {r : Reach} {b0 : Nat} {v : Value} {d : DataW H} {p : List MemPlace} (hv : Value.okWide Try.prog W r b0 78 v) (h : DataW.Trod enc Try.prog W base spare held 78 v d p) :
    ∃ (x : Fn) (A : Option Addr) (c : Nat), v = .agg #[.string x.s, .int .i64 x.b, .int .i64 x.p, .slice A x.l.length c] ∧ FnOk x ∧ Blocks W (.slice A x.l.length c) x.l := by
  obtain ⟨cs, rfl, hsz⟩ := okWide_struct Try.underlying78 hv
  obtain ⟨l⟩ := cs
  obtain ⟨fuel, hf⟩ := h
  obtain ⟨x, A, c, ok, e, hB⟩ := open_fnc fuel l _ (hsz.trans cellsFunc) hf
  subst e
  exact ⟨x, A, c, rfl, ok, hB⟩
set_option maxRecDepth 100000 in
theorem arg_module {r : Reach} {b0 : Nat} {v : Value} {d : DataW H} {p : List MemPlace} (hv : Value.okWide Try.prog W r b0 25 v) (h : DataW.Trod enc Try.prog W base spare held 25 v d p) :
    ∃ (m : Md) (F G : Option Addr) (cf cg : Nat), v = .agg #[.slice F m.f.length cf, .slice G m.g.length cg] ∧ MdOk m ∧ MdAt W (.slice F m.f.length cf) (.slice G m.g.length cg) m := by
  obtain ⟨cs, rfl, hsz⟩ := okWide_struct Try.underlying25 hv
  obtain ⟨l⟩ := cs
  obtain ⟨fuel, hf⟩ := h
  obtain ⟨m, F, G, cf, cg, ok, e, hA⟩ := open_mod fuel l _ (hsz.trans cellsModule) hf
  subst e
  exact ⟨m, F, G, cf, cg, rfl, ok, hA⟩
end
end Go.Proofs.Ytcfniagmnkngfaa

namespace Go.Proofs.Ytcfniagmnkngfaa
open Go.RowKit

def fIdx (l : List ByteArray) (s : ByteArray) : Option Nat := l.findIdx? (fun x => x == s)
def idxE : Option Nat → Int
  | some i => i
  | none => -1
theorem fIdx_some {l : List ByteArray} {s : ByteArray} {i : Nat} (hi : i < l.length) (h : (l[i] == s) = true) (hb : ∀ j (hj : j < i), (l[j]'(by omega) == s) = false) : fIdx l s = some i :=
  List.findIdx?_eq_some_iff_getElem.2 ⟨hi, h, fun j hj => by simp [hb j hj]⟩
theorem fIdx_none {l : List ByteArray} {s : ByteArray} (h : ∀ j (hj : j < l.length), (l[j] == s) = false) : fIdx l s = none :=
  List.findIdx?_eq_none_iff.2 fun x hx => by
    obtain ⟨j, hj, rfl⟩ := List.getElem_of_mem hx
    exact h j hj
theorem fIdx_mem {l : List ByteArray} {s : ByteArray} (h : s ∈ l) : ∃ i, fIdx l s = some i := by
  cases e : fIdx l s with
  | some i => exact ⟨i, rfl⟩
  | none =>
    have := List.findIdx?_eq_none_iff.1 e s h
    rw [jba_refl] at this
    cases this
set_option maxRecDepth 100000 in
set_option maxHeartbeats 2000000 in
theorem findFunc_any (m : Md) (F G : Option Addr) (nf cf ng cg : Nat) (s : ByteArray) (w : World) (hok : MdOk m) (hnf : m.f.length = nf) (hS : MdAt w (.slice F nf cf) (.slice G ng cg) m) :
    Calls Try.prog 45 #[.agg #[.slice F nf cf, .slice G ng cg], .string s] w fun e w' => e = .returned (.int .i64 (idxE (fIdx (m.f.map (·.s)) s))) ∧ Below w.heap.size w w' := by
  have HS := Lib.hid hS
  have HNF := Lib.hid (show m.f.length ≤ nf ∧ nf ≤ m.f.length by omega)
  have f9 : (nf : Int) ≤ 9223372036854775807 := by have := hok.2.2.1; omega
  clear hS hok hnf
  go_enter Try.func45, Try.ntmps45
  go_wp2_with fail
  have HIN := Lib.hid (heap_alloc_new w (.cells #[.slice F nf cf, .slice G ng cg] 25))
  have HBW := Lib.hid (balloc (Below.refl _ w) (.cells #[.slice F nf cf, .slice G ng cg] 25))
  generalize w.alloc (.cells #[.slice F nf cf, .slice G ng cg] 25) = W0 at *
  have c0 := Lib.cell_of_heap HIN.out 0
  simp only [List.getElem?_toArray, List.getElem?_cons_zero] at c0
  go_loopw [5] (fun iv wr => ∃ i : Nat, i ≤ nf ∧ iv = .int .i64 i ∧ (∀ j (hj : j < m.f.length), j < i → (m.f[j].s == s) = false) ∧ W0 = wr) (fun iv _ => nf - (intOf iv).toNat)
  case atStart => exact ⟨0, Nat.zero_le _, rfl, fun j _ h => by omega, rfl⟩
  case round =>
    obtain ⟨i, hi, rfl, hs, rfl⟩ := hrel
    have HT := Lib.hid hs
    clear hs
    by_cases hlt : i < nf
    · have hm : i < m.f.length := by have := HNF.out; omega
      obtain ⟨b, off, hA, hbl, e0⟩ := RowOf.at_ HS.out.1 hm
      subst hA
      obtain ⟨c4, -⟩ := FnAt.next _ _ _ _ _ hbl HBW.out e0
      have HMI := Lib.hid (show (m.f[i].s == s) = true → fIdx (m.f.map (·.s)) s = some i from fun h => fIdx_some (by simpa using hm) (by simpa using h) (fun j hj => by simpa using HT.out j (by omega) hj))
      have HNX := Lib.hid (show (m.f[i].s == s) = false → ∀ j (hj : j < m.f.length), j < i + 1 → (m.f[j].s == s) = false from fun h j hj hji => by
        by_cases e : j = i
        · subst e; exact h
        · exact HT.out j hj (by omega))
      obtain ⟨x, hx⟩ : ∃ x, m.f[i].s = x := ⟨_, rfl⟩
      rw [hx] at c4 HMI HNX
      have hk0 : (0 : Int) ≤ (i : Int) := Int.natCast_nonneg _
      have hk1 : (i : Int) < (nf : Int) := by omega
      have HLT := Lib.hid hlt
      clear hx hm hlt e0
      cases hq : x == s with
      | true =>
        have h1 : (x.toList == s.toList) = true := by rw [← beq_toListBytes]; exact hq
        have HV := Lib.hid (HMI.out hq)
        clear hq
        go_wp2_with fail
        go_ret
        exact ⟨by rw [HV.out]; rfl, HBW.out⟩
      | false =>
        have h1 : (x.toList == s.toList) = false := by rw [← beq_toListBytes]; exact hq
        have HV := Lib.hid (HNX.out hq)
        clear hq
        go_wp2_with fail
        go_roundw
        case rel => exact ⟨i + 1, HLT.out, by go_num, HV.out, trivial⟩
        case measure => have := HLT.out; simp [intOf]; omega
    · have hd : decide ((i : Int) < (nf : Int)) = false := by simp; omega
      have HV := Lib.hid (show fIdx (m.f.map (·.s)) s = none from fIdx_none fun j hj => by
        have hj' : j < m.f.length := by simpa using hj
        simpa using HT.out j hj' (by have := HNF.out; omega))
      go_wp2_with fail
      go_ret
      exact ⟨by rw [HV.out]; rfl, HBW.out⟩
set_option maxRecDepth 100000 in
set_option maxHeartbeats 2000000 in
theorem findGlob_any (m : Md) (F G : Option Addr) (nf cf ng cg : Nat) (s : ByteArray) (w : World) (hok : MdOk m) (hng : m.g.length = ng) (hS : MdAt w (.slice F nf cf) (.slice G ng cg) m) :
    Calls Try.prog 46 #[.agg #[.slice F nf cf, .slice G ng cg], .string s] w fun e w' => e = .returned (.int .i64 (idxE (fIdx (m.g.map (·.s)) s))) ∧ Below w.heap.size w w' := by
  have HS := Lib.hid hS
  have HNF := Lib.hid (show m.g.length ≤ ng ∧ ng ≤ m.g.length by omega)
  have f9 : (ng : Int) ≤ 9223372036854775807 := by have := hok.2.2.2; omega
  clear hS hok hng
  go_enter Try.func46, Try.ntmps46
  go_wp2_with fail
  have HIN := Lib.hid (heap_alloc_new w (.cells #[.slice F nf cf, .slice G ng cg] 25))
  have HBW := Lib.hid (balloc (Below.refl _ w) (.cells #[.slice F nf cf, .slice G ng cg] 25))
  generalize w.alloc (.cells #[.slice F nf cf, .slice G ng cg] 25) = W0 at *
  have c0 := Lib.cell_of_heap HIN.out 1
  simp only [List.getElem?_toArray, List.getElem?_cons_zero, List.getElem?_cons_succ] at c0
  go_loopw [5] (fun iv wr => ∃ i : Nat, i ≤ ng ∧ iv = .int .i64 i ∧ (∀ j (hj : j < m.g.length), j < i → (m.g[j].s == s) = false) ∧ W0 = wr) (fun iv _ => ng - (intOf iv).toNat)
  case atStart => exact ⟨0, Nat.zero_le _, rfl, fun j _ h => by omega, rfl⟩
  case round =>
    obtain ⟨i, hi, rfl, hs, rfl⟩ := hrel
    have HT := Lib.hid hs
    clear hs
    by_cases hlt : i < ng
    · have hm : i < m.g.length := by have := HNF.out; omega
      obtain ⟨b, off, hA, hbl, e0⟩ := RowOf.at_ HS.out.2 hm
      subst hA
      obtain ⟨c4, -⟩ := GlAt.next _ _ _ _ _ hbl HBW.out e0
      have HMI := Lib.hid (show (m.g[i].s == s) = true → fIdx (m.g.map (·.s)) s = some i from fun h => fIdx_some (by simpa using hm) (by simpa using h) (fun j hj => by simpa using HT.out j (by omega) hj))
      have HNX := Lib.hid (show (m.g[i].s == s) = false → ∀ j (hj : j < m.g.length), j < i + 1 → (m.g[j].s == s) = false from fun h j hj hji => by
        by_cases e : j = i
        · subst e; exact h
        · exact HT.out j hj (by omega))
      obtain ⟨x, hx⟩ : ∃ x, m.g[i].s = x := ⟨_, rfl⟩
      rw [hx] at c4 HMI HNX
      have hk0 : (0 : Int) ≤ (i : Int) := Int.natCast_nonneg _
      have hk1 : (i : Int) < (ng : Int) := by omega
      have HLT := Lib.hid hlt
      clear hx hm hlt e0
      cases hq : x == s with
      | true =>
        have h1 : (x.toList == s.toList) = true := by rw [← beq_toListBytes]; exact hq
        have HV := Lib.hid (HMI.out hq)
        clear hq
        go_wp2_with fail
        go_ret
        exact ⟨by rw [HV.out]; rfl, HBW.out⟩
      | false =>
        have h1 : (x.toList == s.toList) = false := by rw [← beq_toListBytes]; exact hq
        have HV := Lib.hid (HNX.out hq)
        clear hq
        go_wp2_with fail
        go_roundw
        case rel => exact ⟨i + 1, HLT.out, by go_num, HV.out, trivial⟩
        case measure => have := HLT.out; simp [intOf]; omega
    · have hd : decide ((i : Int) < (ng : Int)) = false := by simp; omega
      have HV := Lib.hid (show fIdx (m.g.map (·.s)) s = none from fIdx_none fun j hj => by
        have hj' : j < m.g.length := by simpa using hj
        simpa using HT.out j hj' (by have := HNF.out; omega))
      go_wp2_with fail
      go_ret
      exact ⟨by rw [HV.out]; rfl, HBW.out⟩
theorem check_parts {m : Md} (h : checkE m = 0) : m.f.length ≤ 16 ∧ m.g.length ≤ 16 ∧ aloneB m = true ∧ (namesM m).Nodup ∧ (insM m).any (noneI m) = false ∧ (insM m).any (oddI m) = false := by
  unfold checkE at h
  by_cases h1 : 16 < m.f.length ∨ 16 < m.g.length
  · rw [if_pos h1] at h; cases h
  rw [if_neg h1] at h
  cases h2 : aloneB m with
  | false => rw [if_pos h2] at h; cases h
  | true =>
    rw [if_neg (by simp [h2])] at h
    by_cases h3 : (namesM m).Nodup
    · rw [if_neg (fun n => n h3)] at h
      unfold foundE at h
      cases h4 : (insM m).any (noneI m) with
      | true => rw [if_pos h4] at h; cases h
      | false =>
        rw [if_neg (by simp [h4])] at h
        cases h5 : (insM m).any (oddI m) with
        | true => rw [if_pos h5] at h; cases h
        | false => exact ⟨by omega, by omega, rfl, h3, rfl, rfl⟩
    · rw [if_pos h3] at h; cases h
theorem check_of {m : Md} (h1 : m.f.length ≤ 16) (h2 : m.g.length ≤ 16) (h3 : aloneB m = true) (h4 : (namesM m).Nodup) (h5 : (insM m).any (noneI m) = false) (h6 : (insM m).any (oddI m) = false) : checkE m = 0 := by
  unfold checkE foundE
  rw [if_neg (by omega), if_neg (by simp [h3]), if_neg (fun n => n h4), if_neg (by simp [h5]), if_neg (by simp [h6])]
theorem refs_mem {f : Fn} {s : ByteArray} (h : s ∈ refsL f) : ∃ i ∈ insF f, hasB i.o = true ∧ i.s = s := by
  unfold refsL at h
  obtain ⟨l, hl, hs⟩ := List.mem_flatten.1 h
  obtain ⟨b, hb, rfl⟩ := List.mem_map.1 hl
  unfold insNames at hs
  obtain ⟨i, hi, rfl⟩ := List.mem_map.1 hs
  obtain ⟨hi, hh⟩ := List.mem_filter.1 hi
  exact ⟨i, List.mem_flatten.2 ⟨_, List.mem_map_of_mem hb, hi⟩, hh, rfl⟩
theorem insF_mem {m : Md} {f : Fn} {i : In} (hf : f ∈ m.f) (h : i ∈ insF f) : i ∈ insM m := List.mem_flatten.2 ⟨_, List.mem_map_of_mem hf, h⟩
theorem ref_there {m : Md} (h : (insM m).any (noneI m) = false) {f : Fn} (hf : f ∈ m.f) {s : ByteArray} (hs : s ∈ refsL f) : s ∈ m.f.map (·.s) ∨ s ∈ m.g.map (·.s) := by
  obtain ⟨i, hi, hh, rfl⟩ := refs_mem hs
  have hn := List.any_eq_false.1 h i (insF_mem hf hi)
  unfold noneI at hn
  cases ha : m.f.any (fun f => f.s == i.s) with
  | true =>
    obtain ⟨g, hg, e⟩ := List.any_eq_true.1 ha
    exact .inl (List.mem_map.2 ⟨g, hg, (jba_beq _ _).1 e⟩)
  | false =>
    cases hb : m.g.any (fun g => g.s == i.s) with
    | true =>
      obtain ⟨g, hg, e⟩ := List.any_eq_true.1 hb
      exact .inr (List.mem_map.2 ⟨g, hg, (jba_beq _ _).1 e⟩)
    | false =>
      rw [ha, hb] at hn
      unfold hasB at hh
      exfalso
      apply hn
      cases h12 : i.o == 12 <;> cases h13 : i.o == 13 <;> cases h14 : i.o == 14 <;> simp [h12, h13, h14] at hh ⊢
theorem func_idx {m : Md} (h : (namesM m).Nodup) {i : Nat} (hi : i < m.f.length) : fIdx (m.f.map (·.s)) m.f[i].s = some i := by
  refine fIdx_some (by simpa using hi) (by simp [jba_refl]) (fun j hj => ?_)
  unfold namesM at h
  have h1 := (List.nodup_append.1 h).1
  rw [List.getElem_map]
  cases e : (m.f[j].s == m.f[i].s) with
  | false => rfl
  | true =>
    have e := (jba_beq _ _).1 e
    have := (List.pairwise_iff_getElem.1 h1) j i (by simp; omega) (by simpa using hi) hj
    simp only [List.getElem_map] at this
    exact absurd e this
theorem glob_none {m : Md} (h : (namesM m).Nodup) {i : Nat} (hi : i < m.f.length) : fIdx (m.g.map (·.s)) m.f[i].s = none := by
  refine fIdx_none (fun j hj => ?_)
  unfold namesM at h
  rw [List.getElem_map]
  have hj' : j < m.g.length := by simpa using hj
  cases e : (m.g[j].s == m.f[i].s) with
  | false => rfl
  | true =>
    have e := (jba_beq _ _).1 e
    exact absurd e.symm ((List.nodup_append.1 h).2.2 _ (List.mem_map_of_mem (List.getElem_mem hi)) _ (List.mem_map_of_mem (List.getElem_mem hj')))
end Go.Proofs.Ytcfniagmnkngfaa

namespace Go.Proofs.Ytcfniagmnkngfaa
open Go.RowKit

theorem fn_info : (Try.prog.info? 78).map (fun i => (i.zero, i.size, i.bytes)) = some (some (.agg #[.string ⟨#[]⟩, .int .i64 0, .int .i64 0, .slice none 0 0]), 4, 56) := by kernel_rfl
/-- the cells of a row of functions -/
def RowCells (w : World) (k : List Fn) (ys : List Value) : Prop :=
  ys.length = k.length * 4 ∧ ∀ (i : Nat) (h : i < k.length), ∃ A cap, ys[i * 4]? = some (.string k[i].s) ∧ ys[i * 4 + 1]? = some (.int .i64 k[i].b) ∧ ys[i * 4 + 2]? = some (.int .i64 k[i].p) ∧ ys[i * 4 + 3]? = some (.slice A k[i].l.length cap) ∧ Blocks w (.slice A k[i].l.length cap) k[i].l
theorem RowCells.next {w w' : World} {k : List Fn} {ys : List Value} (h : RowCells w k ys) (hb : Below w.heap.size w w') : RowCells w' k ys :=
  ⟨h.1, fun i hi => by obtain ⟨A, c, h0, h1, h2, h3, h4⟩ := h.2 i hi; exact ⟨A, c, h0, h1, h2, h3, h4.next hb⟩⟩
theorem RowCells.append {w : World} {k1 k2 : List Fn} {y1 y2 : List Value} (h1 : RowCells w k1 y1) (h2 : RowCells w k2 y2) : RowCells w (k1 ++ k2) (y1 ++ y2) := by
  refine ⟨by rw [List.length_append, List.length_append, h1.1, h2.1]; omega, fun i hi => ?_⟩
  rw [List.length_append] at hi
  by_cases h : i < k1.length
  · obtain ⟨A, c, g0, g1, g2, g3, g4⟩ := h1.2 i h
    have e := h1.1
    rw [List.getElem_append_left h, List.getElem?_append_left (by omega), List.getElem?_append_left (by omega), List.getElem?_append_left (by omega), List.getElem?_append_left (by omega)]
    exact ⟨A, c, g0, g1, g2, g3, g4⟩
  · obtain ⟨A, c, g0, g1, g2, g3, g4⟩ := h2.2 (i - k1.length) (by omega)
    have e := h1.1
    rw [List.getElem_append_right (by omega), List.getElem?_append_right (by omega), List.getElem?_append_right (by omega), List.getElem?_append_right (by omega), List.getElem?_append_right (by omega)]
    have q : ∀ j, i * 4 + j - y1.length = (i - k1.length) * 4 + j := fun j => by omega
    have q0 : i * 4 - y1.length = (i - k1.length) * 4 := by omega
    rw [q0, q, q, q]
    exact ⟨A, c, g0, g1, g2, g3, g4⟩
theorem RowCells.funcs {w : World} {base n : Nat} {v : Value} {k : List Fn} {ys : List Value} (ho : w.ownsRow base 78 4 v n ys) (hn : n = k.length) (h : RowCells w k ys) : Funcs w v k := by
  subst hn
  by_cases hl : 0 < k.length
  · obtain ⟨g, cap, e, hg, hlt⟩ := ho.form hl
    subst e
    refine .inr ⟨hl, g, 0, cap, rfl, hlt, fun i hi => ?_⟩
    obtain ⟨A, c, g0, g1, g2, g3, g4⟩ := h.2 i hi
    rw [Nat.zero_add]
    exact ⟨(ho.cellAt (i * 4) (by omega)).trans g0, (ho.cellAt (i * 4 + 1) (by omega)).trans g1, (ho.cellAt (i * 4 + 2) (by omega)).trans g2, A, c, (ho.cellAt (i * 4 + 3) (by omega)).trans g3, g4⟩
  · have hl0 : k = [] := by cases k <;> simp_all
    subst hl0
    rcases ho.2 with ⟨rfl, _⟩ | ⟨g, cap, cur, rfl, _⟩
    · exact .inl ⟨rfl, .inl rfl⟩
    · exact .inl ⟨rfl, .inr ⟨_, _, rfl⟩⟩
/-- the cells of a row that lies in memory -/
theorem row_cells {w : World} {b off : Nat} {k : List Fn} (h : ∀ (i : Nat) (h : i < k.length), FnAt w b (off + i * 4) k[i]) : ∃ ys : List Value, RowCells w k ys ∧ (∀ (j : Nat) (u : Value), ys[j]? = some u → w.cell? ⟨b, off + j, none⟩ = some u) ∧ (∀ u ∈ ys, u.oneCell' = true) := by
  refine ⟨(List.range (k.length * 4)).map (fun j => (w.cell? ⟨b, off + j, none⟩).getD (.bool false)), ⟨by simp, fun i hi => ?_⟩, fun j u hj => ?_, fun u hu => ?_⟩
  · obtain ⟨g0, g1, g2, A, c, g3, g4⟩ := h i hi
    have q : ∀ j, j < 4 → ((List.range (k.length * 4)).map (fun j => (w.cell? ⟨b, off + j, none⟩).getD (.bool false)))[i * 4 + j]? = some ((w.cell? ⟨b, off + i * 4 + j, none⟩).getD (.bool false)) := fun j hj => by
      rw [List.getElem?_map, List.getElem?_range (by omega), Nat.add_assoc]
      rfl
    refine ⟨A, c, ?_, ?_, ?_, ?_, g4⟩
    · have := q 0 (by omega)
      rw [Nat.add_zero, Nat.add_zero, g0] at this
      exact this
    · rw [q 1 (by omega), g1]; rfl
    · rw [q 2 (by omega), g2]; rfl
    · rw [q 3 (by omega), g3]; rfl
  · have hj2 : j < k.length * 4 := by have := (List.getElem?_eq_some_iff.1 hj).1; simpa using this
    rw [List.getElem?_map, List.getElem?_range hj2] at hj
    obtain ⟨g0, g1, g2, A, c, g3, g4⟩ := h (j / 4) (by omega)
    have e : off + j = off + j / 4 * 4 + j % 4 := by omega
    have hm : j % 4 = 0 ∨ j % 4 = 1 ∨ j % 4 = 2 ∨ j % 4 = 3 := by omega
    simp only [Option.map_some, Option.some.injEq] at hj
    rw [e] at hj ⊢
    rcases hm with hm | hm | hm | hm <;> rw [hm] at hj ⊢
    · rw [Nat.add_zero, g0] at hj ⊢; rw [← hj]; rfl
    · rw [g1] at hj ⊢; rw [← hj]; rfl
    · rw [g2] at hj ⊢; rw [← hj]; rfl
    · rw [g3] at hj ⊢; rw [← hj]; rfl
  · obtain ⟨j, hj, rfl⟩ := List.mem_map.1 hu
    have hj2 := List.mem_range.1 hj
    obtain ⟨g0, g1, g2, A, c, g3, g4⟩ := h (j / 4) (by omega)
    have e : off + j = off + j / 4 * 4 + j % 4 := by omega
    have hm : j % 4 = 0 ∨ j % 4 = 1 ∨ j % 4 = 2 ∨ j % 4 = 3 := by omega
    rw [e]
    rcases hm with hm | hm | hm | hm <;> rw [hm]
    · rw [Nat.add_zero, g0]; rfl
    · rw [g1]; rfl
    · rw [g2]; rfl
    · rw [g3]; rfl
/-- append of a row of functions to one of the call's own -/
theorem wpList_append_funcs {w : World} {ops : Array Oper} {rest : List Oper} {o : Oper} {a : Act} {Q : Exit → Act → World → Prop} (hgd : o.guard = none) (s x : Operand)
    (ho : o.op = .call { callee := .builtin .append, args := #[s, x], argTypes := #[22, 22] }) (base : Nat) (v : Value) (n : Nat) (xs : List Value) (hs : a.eval s = v) (hown : w.ownsRow base 78 4 v n xs)
    (u : Value) (hx : a.eval x = u) (k : List Fn) (w0 : World) (hb0 : Below w0.heap.size w0 w) (hO : Funcs w0 u k) (hn : (n + k.length) * 56 ≤ 140737488355328) (hbase : base ≤ w.heap.size)
    (h : ∀ v' w' ys, w'.ownsRow base 78 4 v' (n + k.length) (xs ++ ys) → w.grownBy w' v.ownBlock → RowCells w0 k ys → wpList Try.prog ops Q rest (a.put o.dst v') w') : wpList Try.prog ops Q (o :: rest) a w := by
  obtain ⟨i0, hi, hz0, hz1, hz2⟩ := info_parts fn_info
  rcases hO with ⟨rfl, rfl | ⟨A, cap, rfl⟩⟩ | ⟨hm0, b, off, cap, rfl, hb, hp⟩
  · exact wpList_append_own_none hgd s x 22 ho base 78 i0 4 Try.underlying22 hi v n xs hs hown hx (h v w [] (by simpa using hown) ⟨rfl, rfl, rfl, Nat.le_refl _, fun _ _ _ => rfl⟩ ⟨rfl, fun i hi => by simp at hi⟩)
  · exact wpList_append_own w hgd s x 22 ho base 78 i0 _ 4 56 Try.underlying22 hi hz0 hz1 hz2 rfl (by decide) v n xs hs hown A 0 cap [] hx rfl (fun j u hj => by simp at hj) (fun u hu => by cases hu) (by unfold maxLen; simp at hn; omega) (by simp at hn; omega) hbase (fun v' w' h1 h2 _ => h v' w' [] (by simpa using h1) h2 ⟨rfl, fun i hi => by simp at hi⟩)
  · obtain ⟨ys, hy, hc, h1⟩ := row_cells hp
    exact wpList_append_own w hgd s x 22 ho base 78 i0 _ 4 56 Try.underlying22 hi hz0 hz1 hz2 rfl (by decide) v n xs hs hown ⟨b, off, none⟩ k.length cap ys hx hy.1 (fun j u hj => by rw [int_add]; exact (cellNext hb hb0 _).trans (hc j u hj)) h1 (by unfold maxLen; omega) hn hbase (fun v' w' h1 h2 _ => h v' w' ys h1 h2 hy)
/-- the new function -/
def nwIn : In := ⟨15, 0, 0, 0, ⟨#[]⟩, []⟩
def nwBk : Bk := ⟨0, [nwIn], ⟨3, 0, 0, [], 0, []⟩⟩
def nwFn (s : ByteArray) : Fn := ⟨s, 1, 0, [nwBk]⟩
theorem nwFn_right {s : ByteArray} (h : nameB s = true) : funcB (nwFn s) = true := by
  unfold nwFn
  rw [funcB_eq, h]
  decide +kernel
theorem nwFn_ok {s : ByteArray} (h : s.size < 9223372036854775808) : FnOk (nwFn s) := ⟨h, by simp [nwFn], fun b hb => by
  obtain rfl : b = nwBk := (by simpa [nwFn] using hb)
  exact ⟨by decide, by decide, by decide, fun i hi => by obtain rfl : i = nwIn := (by simpa [nwBk] using hi); exact ⟨by decide, by decide⟩⟩⟩
theorem more_right {m : Md} {s : ByteArray} (h : checkE m = 0) (hl : m.f.length ≤ 15) (hs : nameB s = true) (hf : fIdx (m.f.map (·.s)) s = none) (hg : fIdx (m.g.map (·.s)) s = none) : checkE ⟨m.f ++ [nwFn s], m.g⟩ = 0 := by
  obtain ⟨h1, h2, h3, h4, h5, h6⟩ := check_parts h
  have nf : ∀ x ∈ m.f, (x.s == s) = false := fun x hx => by
    have := List.findIdx?_eq_none_iff.1 hf x.s (List.mem_map_of_mem hx)
    exact this
  have ng : ∀ x ∈ m.g, (x.s == s) = false := fun x hx => by
    have := List.findIdx?_eq_none_iff.1 hg x.s (List.mem_map_of_mem hx)
    exact this
  have hne : ∀ {x : ByteArray}, (x == s) = false → x ≠ s := fun h e => by rw [e, jba_refl] at h; cases h
  have hi : insM ⟨m.f ++ [nwFn s], m.g⟩ = insM m ++ [nwIn] := by
    unfold insM
    simp only [List.map_append, List.map_cons, List.map_nil, List.flatten_append, List.flatten_cons, List.flatten_nil]
    rfl
  refine check_of (by simp only [List.length_append, List.length_cons, List.length_nil]; omega) h2 ?_ ?_ ?_ ?_
  · unfold aloneB at h3 ⊢
    rw [Bool.and_eq_true] at h3 ⊢
    exact ⟨by rw [List.all_append, h3.1]; simp [nwFn_right hs], h3.2⟩
  · unfold namesM at h4 ⊢
    simp only [List.map_append, List.map_cons, List.map_nil]
    rw [List.append_assoc]
    obtain ⟨a1, a2, a3⟩ := List.nodup_append.1 h4
    refine List.nodup_append.2 ⟨a1, ?_, ?_⟩
    · rw [List.singleton_append, List.nodup_cons]
      exact ⟨fun hm => by
        obtain ⟨g, hgm, e⟩ := List.mem_map.1 hm
        exact hne (ng g hgm) e, a2⟩
    · intro x hx y hy
      rw [List.singleton_append, List.mem_cons] at hy
      rcases hy with rfl | hy
      · obtain ⟨f, hfm, e⟩ := List.mem_map.1 hx
        rw [← e]
        exact hne (nf f hfm)
      · exact a3 x hx y hy
  · rw [hi, List.any_append, Bool.or_eq_false_iff]
    refine ⟨?_, rfl⟩
    rw [List.any_eq_false] at h5 ⊢
    intro x hx
    have := h5 x hx
    unfold noneI at this ⊢
    simp only [List.any_append]
    revert this
    generalize (x.o == 14) = a
    generalize (x.o == 12 || x.o == 13) = b
    generalize (m.f.any fun f => f.s == x.s) = c
    generalize (m.g.any fun g => g.s == x.s) = d
    generalize ([nwFn s].any fun f => f.s == x.s) = e
    revert a b c d e
    decide
  · rw [hi, List.any_append, Bool.or_eq_false_iff]
    refine ⟨?_, rfl⟩
    rw [List.any_eq_false] at h5 h6 ⊢
    intro x hx
    have h5 := h5 x hx
    have h6 := h6 x hx
    unfold noneI at h5
    unfold oddI at h6 ⊢
    simp only [List.find?_append]
    cases h14 : x.o == 14 with
    | false => simp
    | true =>
      rw [h14] at h5 h6
      cases hff : m.f.find? (fun f => f.s == x.s) with
      | some f => rw [hff] at h6; simpa using h6
      | none =>
        exfalso
        have ha : m.f.any (fun f => f.s == x.s) = false := by
          rw [List.any_eq_false]
          exact fun f hfm => by have := List.find?_eq_none.1 hff f hfm; simpa using this
        rw [ha] at h5
        simp at h5
end Go.Proofs.Ytcfniagmnkngfaa
