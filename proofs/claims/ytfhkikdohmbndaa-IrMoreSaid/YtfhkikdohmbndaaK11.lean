/- IrJumps: in a right function each end leads to a block that there is, with as many values as that one is handed. -/
import Derived.Test.YtfhkikdohmbndaaK9
namespace Go.Proofs.Ytfhkikdohmbndaa
open Go.RowKit

theorem goes_parts {all : List Bk} {n dest : Int} {l : List Int} (h : goesB all n dest l = true) : ∃ i : Nat, dest = i ∧ ∃ hi : i < all.length, (l.length : Int) = all[i].p ∧ amongB n l = true := by
  unfold goesB at h
  simp only [Bool.and_eq_true, decide_eq_true_eq] at h
  obtain ⟨⟨⟨h0, h1⟩, h2⟩, h3⟩ := h
  obtain ⟨i, rfl⟩ := Int.eq_ofNat_of_zero_le h0
  have hi : i < all.length := by omega
  rw [Int.toNat_natCast, List.getElem?_eq_getElem hi] at h2
  exact ⟨i, rfl, hi, by simpa using h2, h3⟩
theorem func_parts {f : Fn} (h : funcB f = true) : f.l.length ≤ 16 ∧ (∀ b ∈ f.l, blockB f.l b = true) ∧ (∀ (h : 0 < f.l.length), f.l[0].p = f.p) := by
  obtain ⟨s, b, p, l⟩ := f
  rw [funcB_eq] at h
  simp only [Bool.and_eq_true, decide_eq_true_eq] at h
  obtain ⟨⟨-, h16⟩, hl⟩ := h
  refine ⟨h16, ?_, ?_⟩
  · cases l with
    | nil => simp
    | cons c l =>
      simp only [Bool.and_eq_true] at hl
      exact List.all_eq_true.1 hl.2
  · cases l with
    | nil => simp
    | cons c l =>
      simp only [Bool.and_eq_true] at hl
      intro _
      simpa using hl.1
theorem block_parts {all : List Bk} {b : Bk} (h : blockB all b = true) : 0 ≤ b.p ∧ b.p ≤ 6 ∧ b.i.length ≤ 32 ∧ endB all (b.p + b.i.length) b.e = true ∧ instsB b.p b.i = true := by
  unfold blockB at h
  simp only [Bool.and_eq_true, decide_eq_true_eq] at h
  exact ⟨h.1.1.1.1, h.1.1.1.2, h.1.1.2, h.1.2, h.2⟩
theorem end_cases {all : List Bk} {n : Int} {t : Tm} (h : endB all n t = true) : (t.k = 1 ∧ goesB all n t.t t.l = true) ∨ (t.k = 2 ∧ amongB n [t.a] = true ∧ goesB all n t.t t.l = true ∧ goesB all n t.e t.m = true) ∨ (t.k = 3 ∧ amongB n [t.a] = true) := by
  unfold endB at h
  by_cases h1 : t.k = 1
  · rw [if_pos h1] at h
    simp only [Bool.and_eq_true] at h
    exact .inl ⟨h1, h.1.1.1⟩
  · rw [if_neg h1] at h
    by_cases h2 : t.k = 2
    · rw [if_pos h2] at h
      simp only [Bool.and_eq_true] at h
      exact .inr (.inl ⟨h2, h.1.1, h.1.2, h.2⟩)
    · rw [if_neg h2] at h
      by_cases h3 : t.k = 3
      · rw [if_pos h3] at h
        simp only [Bool.and_eq_true] at h
        exact .inr (.inr ⟨h3, h.1.1.1.1⟩)
      · rw [if_neg h3] at h
        cases h
theorem below_drewN {n : Nat} {w W : World} (h : Below n w W) (k : Nat) : Below n w (W.drewN k) := below_re h rfl rfl rfl rfl
set_option maxRecDepth 100000 in
set_option maxHeartbeats 8000000 in
theorem jumps_all (f : Fn) (C : Option Addr) (ca : Nat) (w : World) (hok : FnOk f) (hS : Blocks w (.slice C f.l.length ca) f.l) :
    Calls Try.prog 13 #[.agg #[.string f.s, .int .i64 f.b, .int .i64 f.p, .slice C f.l.length ca]] w fun e w' => e = .returned (.bool true) ∧ Below w.heap.size w w' := by
  have HF := Lib.hid (fun (W : World) (hb : Below w.heap.size w W) => func_any f C ca W hok (hS.next hb))
  have HS := Lib.hid hS
  obtain ⟨s, b, p, l⟩ := f
  simp only at HF HS ⊢
  obtain ⟨nl, hnl⟩ : ∃ n, l.length = n := ⟨_, rfl⟩
  have HL := Lib.hid (show l.length ≤ nl ∧ nl ≤ l.length by omega)
  rw [hnl] at HF HS ⊢
  obtain ⟨fb, hfb⟩ : ∃ x, funcB ⟨s, b, p, l⟩ = x := ⟨_, rfl⟩
  have HFB := Lib.hid (show fb = true → l.length ≤ 16 ∧ (∀ b ∈ l, blockB l b = true) ∧ (∀ (h : 0 < l.length), l[0].p = p) from fun h => func_parts (hfb.trans h))
  rw [hfb] at HF
  clear hS hok hnl hfb
  have HIN := Lib.hid (heap_alloc_new w (.cells #[.string s, .int .i64 b, .int .i64 p, .slice C nl ca] 72))
  have HBW := Lib.hid (balloc (Below.refl _ w) (.cells #[.string s, .int .i64 b, .int .i64 p, .slice C nl ca] 72))
  go_enter Try.func13, Try.ntmps13
  go_wp2_with fail
  generalize w.alloc (.cells #[.string s, .int .i64 b, .int .i64 p, .slice C nl ca] 72) = W0 at *
  refine (ishown_any _).mono ?_
  rintro r w1 ⟨rfl, hb⟩
  have hin := (hb.block _ (Array.getElem?_eq_some_iff.1 HIN.out).1).trans HIN.out
  have c0 := Lib.cell_of_heap hin 0
  have c1 := Lib.cell_of_heap hin 1
  have c2 := Lib.cell_of_heap hin 2
  have c3 := Lib.cell_of_heap hin 3
  simp only [List.getElem?_toArray, List.getElem?_cons_zero, List.getElem?_cons_succ] at c0 c1 c2 c3
  have HB1 := Lib.hid (bthen HBW.out hb)
  have HIN1 := Lib.hid hin
  clear hb hin
  go_wp2_with fail
  refine (HF.out _ HB1.out).mono ?_
  rintro r w2 ⟨rfl, hb⟩
  have HB2 := Lib.hid (bthen HB1.out hb)
  have HIN2 := Lib.hid ((hb.block _ (Array.getElem?_eq_some_iff.1 HIN1.out).1).trans HIN1.out)
  clear hb c0 c1 c2 c3
  cases fb with
  | false =>
    go_wp2_with fail
    go_ret
    exact ⟨rfl, HB2.out⟩
  | true =>
    have HP := Lib.hid (HFB.out rfl)
    go_wp2_with fail
    have n16 : (nl : Int) ≤ 16 := by have := HP.out.1; have := HL.out; omega
    go_loopw [4] (fun iv wr => ∃ i : Nat, i ≤ nl ∧ iv = .int .i64 i ∧ wr.heap[w.heap.size]? = some (.cells #[.string s, .int .i64 b, .int .i64 p, .slice C nl ca] 72 (0, 0)) ∧ Below w.heap.size w wr) (fun iv _ => nl - (intOf iv).toNat)
    case atStart => exact ⟨0, Nat.zero_le _, rfl, HIN2.out, HB2.out⟩
    case round =>
      obtain ⟨i, hi, rfl, hin, hb⟩ := hrel
      have HI := Lib.hid hin
      have HB := Lib.hid hb
      have c2 := Lib.cell_of_heap hin 2
      have c3 := Lib.cell_of_heap hin 3
      simp only [List.getElem?_toArray, List.getElem?_cons_zero, List.getElem?_cons_succ] at c2 c3
      clear hin hb
      by_cases hlt : i < nl
      · have hm : i < l.length := by have := HL.out; omega
        have hbp := block_parts (HP.out.2.1 l[i] (List.getElem_mem hm))
        obtain ⟨b1, off, hA, hbl, e0⟩ := RowOf.at_ HS.out hm
        subst hA
        obtain ⟨g0, -, g2, g3, g4, ⟨A5, z5, g5, -⟩, g6, A7, z7, g7, -⟩ := BkAt.next _ _ _ _ _ hbl HB.out e0
        have HAT := Lib.hid (fun (U : World) (hU : Below w.heap.size w U) (j : Nat) (hj : j < l.length) => ((BkAt.next _ _ _ _ _ hbl hU (by
          obtain ⟨b2, off2, hA2, _, e2⟩ := RowOf.at_ HS.out hj
          cases hA2
          exact e2)) : BkAt U b1 (off + j * 8) l[j]).1)
        have HEN := Lib.hid (end_cases hbp.2.2.2.1)
        obtain ⟨⟨ek, ea, et, el, ee, em⟩, het⟩ : ∃ t, l[i].e = t := ⟨_, rfl⟩
        rw [het] at g2 g3 g4 g5 g6 g7 HEN
        simp only at g2 g3 g4 g5 g6 g7 HEN
        obtain ⟨ll, hll⟩ : ∃ x, el.length = x := ⟨_, rfl⟩
        obtain ⟨lm, hlm⟩ : ∃ x, em.length = x := ⟨_, rfl⟩
        rw [hll] at g5
        rw [hlm] at g7
        have hk0 : (0 : Int) ≤ (i : Int) := Int.natCast_nonneg _
        have hk1 : (i : Int) < (nl : Int) := by omega
        have HLT := Lib.hid hlt
        have hbx := balloc (Below.refl _ wr) (.cells #[.int .i64 ek, .int .i64 ea, .int .i64 et, .slice A5 ll z5, .int .i64 ee, .slice A7 lm z7] 62)
        have hix := heap_alloc_new wr (.cells #[.int .i64 ek, .int .i64 ea, .int .i64 et, .slice A5 ll z5, .int .i64 ee, .slice A7 lm z7] 62)
        have HBX := Lib.hid hbx
        have HIX := Lib.hid hix
        clear hbx hix hbp e0 g0 hlt
        go_upto_region 1 with fail
        generalize wr.alloc (.cells #[.int .i64 ek, .int .i64 ea, .int .i64 et, .slice A5 ll z5, .int .i64 ee, .slice A7 lm z7] 62) = W1 at *
        clear g2 g3 g4 g5 g6 g7 c2 c3
        have g0 := Lib.cell_of_heap HIX.out 0
        have g2 := Lib.cell_of_heap HIX.out 2
        have g3 := Lib.cell_of_heap HIX.out 3
        have g4 := Lib.cell_of_heap HIX.out 4
        have g5 := Lib.cell_of_heap HIX.out 5
        have hin1 := (HBX.out.block _ (Array.getElem?_eq_some_iff.1 HI.out).1).trans HI.out
        have c3 := Lib.cell_of_heap hin1 3
        simp only [List.getElem?_toArray, List.getElem?_cons_zero, List.getElem?_cons_succ] at g0 g2 g3 g4 g5 c3
        have HI1 := Lib.hid hin1
        have HB1 := Lib.hid (bthen HB.out HBX.out)
        have HLL := Lib.hid hll
        have HLM := Lib.hid hlm
        generalize wr.heap.size = BX at *
        clear hin1 hll hlm
        rcases HEN.out with ⟨rfl, h1⟩ | ⟨rfl, -, h1, h2⟩ | ⟨rfl, -⟩
        · obtain ⟨x, rfl, hx, hp, -⟩ := goes_parts h1
          have cx := HAT.out W1 HB1.out x hx
          rw [← hp, HLL.out] at cx
          have x0 : (0 : Int) ≤ (x : Int) := Int.natCast_nonneg _
          have x1 : (x : Int) < (nl : Int) := by have := HL.out; omega
          have d0 : decide ((x : Int) < 0) = false := decide_eq_false (by omega)
          have d1 : decide (nl ≤ x) = false := decide_eq_false (by omega)
          clear h1 hx hp
          go_quiet (fail)
          go_wp2_with fail
          go_quiet (fail)
          go_wp2_with fail
          go_roundw
          case rel => exact ⟨i + 1, HLT.out, by go_num, HI1.out, below_drewN HB1.out _⟩
          case measure => have := HLT.out; simp [intOf]; omega
        · obtain ⟨x, rfl, hx, hp, -⟩ := goes_parts h1
          have cx := HAT.out W1 HB1.out x hx
          rw [← hp, HLL.out] at cx
          have x0 : (0 : Int) ≤ (x : Int) := Int.natCast_nonneg _
          have x1 : (x : Int) < (nl : Int) := by have := HL.out; omega
          have d0 : decide ((x : Int) < 0) = false := decide_eq_false (by omega)
          have d1 : decide (nl ≤ x) = false := decide_eq_false (by omega)
          obtain ⟨y, rfl, hy, hq, -⟩ := goes_parts h2
          have cy := HAT.out W1 HB1.out y hy
          rw [← hq, HLM.out] at cy
          have y0 : (0 : Int) ≤ (y : Int) := Int.natCast_nonneg _
          have y1 : (y : Int) < (nl : Int) := by have := HL.out; omega
          have d2 : decide ((y : Int) < 0) = false := decide_eq_false (by omega)
          have d3 : decide (nl ≤ y) = false := decide_eq_false (by omega)
          clear h1 hx hp h2 hy hq
          go_quiet (fail)
          go_wp2_with fail
          go_quiet (fail)
          go_wp2_with fail
          go_roundw
          case rel => exact ⟨i + 1, HLT.out, by go_num, HI1.out, below_drewN HB1.out _⟩
          case measure => have := HLT.out; simp [intOf]; omega
        · go_quiet (fail)
          go_wp2_with fail
          go_quiet (fail)
          go_wp2_with fail
          go_roundw
          case rel => exact ⟨i + 1, HLT.out, by go_num, HI1.out, below_drewN HB1.out _⟩
          case measure => have := HLT.out; simp [intOf]; omega
      · have hd : decide ((i : Int) < (nl : Int)) = false := by simp; omega
        by_cases hz : nl = 0
        · subst hz
          go_upto_region 1 with fail
          go_quiet (fail)
          go_wp2_with fail
          go_ret
          exact ⟨rfl, below_drewN HB.out nq⟩
        · have ez : ((nl : Int) == 0) = false := by simp; omega
          have hm : 0 < l.length := by have := HL.out; omega
          obtain ⟨b1, off, hA, hbl, e0⟩ := RowOf.at_ HS.out hm
          subst hA
          obtain ⟨g0, -⟩ := BkAt.next _ _ _ _ _ hbl HB.out e0
          rw [HP.out.2.2 hm] at g0
          simp only [Nat.zero_mul, Nat.add_zero] at g0
          have i1 : (0 : Int) < (nl : Int) := by omega
          clear e0 hz
          go_upto_region 1 with fail
          go_quiet (fail)
          go_wp2_with fail
          go_ret
          exact ⟨rfl, below_drewN HB.out nq⟩
end Go.Proofs.Ytfhkikdohmbndaa
