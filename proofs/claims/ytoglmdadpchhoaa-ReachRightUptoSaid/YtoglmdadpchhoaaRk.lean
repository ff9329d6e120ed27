/- ReachTwice: the walk. -/
import Derived.Test.YtoglmdadpchhoaaRh
import Derived.Test.YtoglmdadpchhoaaHY3
namespace Go.Proofs.Ytoglmdadpchhoaa
open Go.RowKit Go.Shelf

theorem filter_sum {α : Type} (p : α → Bool) (f : α → Nat) : ∀ l : List α, ((l.filter p).map f).sum ≤ (l.map f).sum
  | [] => by simp
  | a :: l => by
    have := filter_sum p f l
    cases h : p a
    · simp only [List.filter_cons, h, List.map_cons, List.sum_cons]; simp; omega
    · simp only [List.filter_cons, h, List.map_cons, List.sum_cons]; simp; omega
theorem drop_ok {m : Md} (hok : MdOk m) : MdOk (dropE m) := by
  refine ⟨fun f hf => hok.1 f (List.mem_filter.1 hf).1, fun g hg => hok.2.1 g (List.mem_filter.1 hg).1, ?_, ?_⟩
  · exact Nat.le_trans (List.length_filter_le _ _) hok.2.2.1
  · exact Nat.le_trans (List.length_filter_le _ _) hok.2.2.2
theorem drop_few {k : Nat} {m : Md} (hk : MdK k m) : MdK k (dropE m) := by
  refine ⟨?_, Nat.le_trans (filter_sum _ _ _) hk.2.1, fun f hf => hk.2.2 f (List.mem_filter.1 hf).1⟩
  have h1 := List.length_filter_le (fun f : Fn => decide (f.s ∈ fromE m (rootsE m))) m.f
  have h2 := List.length_filter_le (fun g : Gl => decide (g.s ∈ fromE m (rootsE m))) m.g
  have := hk.1
  show (m.f.filter _).length + (m.g.filter _).length ≤ k
  omega
theorem tw_next {w W W' : World} {B B2 : Nat} {c0 c1 d0 d1 : Value} (hb : Below W.heap.size W W') (h : W.cell? ⟨B, 0, none⟩ = some c0 ∧ W.cell? ⟨B, 1, none⟩ = some c1 ∧ W.cell? ⟨B2, 0, none⟩ = some d0 ∧ W.cell? ⟨B2, 1, none⟩ = some d1 ∧ Below w.heap.size w W) :
    W'.cell? ⟨B, 0, none⟩ = some c0 ∧ W'.cell? ⟨B, 1, none⟩ = some c1 ∧ W'.cell? ⟨B2, 0, none⟩ = some d0 ∧ W'.cell? ⟨B2, 1, none⟩ = some d1 ∧ Below w.heap.size w W' := by
  obtain ⟨h0, h1, h2, h3, h5⟩ := h
  have hB := World.block_lt_of_cell? W _ h0
  have hB2 := World.block_lt_of_cell? W _ h2
  exact ⟨(cellNext hB hb _).trans h0, (cellNext hB hb _).trans h1, (cellNext hB2 hb _).trans h2, (cellNext hB2 hb _).trans h3, bthen h5 hb⟩
theorem tw_below {w W : World} {B B2 : Nat} {c0 c1 d0 d1 : Value} (h : W.cell? ⟨B, 0, none⟩ = some c0 ∧ W.cell? ⟨B, 1, none⟩ = some c1 ∧ W.cell? ⟨B2, 0, none⟩ = some d0 ∧ W.cell? ⟨B2, 1, none⟩ = some d1 ∧ Below w.heap.size w W) : Below w.heap.size w W := h.2.2.2.2
set_option maxRecDepth 100000 in
set_option maxHeartbeats 8000000 in
theorem twice_all (m : Md) (F G : Option Addr) (cf cg : Nat) (w : World) (hok : MdOk m) (hk : MdK 1048576 m) (hS : MdAt w (.slice F m.f.length cf) (.slice G m.g.length cg) m) :
    Calls Try.prog 7 #[.agg #[.slice F m.f.length cf, .slice G m.g.length cg]] w fun e w' => e = .returned (.bool true) ∧ Below w.heap.size w w' := by
  obtain ⟨nf, hnf⟩ : ∃ q, m.f.length = q := ⟨_, rfl⟩
  obtain ⟨ng, hng⟩ : ∃ q, m.g.length = q := ⟨_, rfl⟩
  rw [hnf, hng] at hS ⊢
  have h20 : nf + ng ≤ 1048576 := by have := hk.1; omega
  have HFE := Lib.hid (fun (U : World) => few_any m F G nf cf ng cg U hnf hng h20)
  have hDR := fun (U : World) (hU : Below w.heap.size w U) => drop_any m F G nf cf ng cg U hok hk hnf hng (hS.next hU)
  have hD2 := fun (U : World) (F' G' : Option Addr) (c' d' : Nat) (hS' : MdAt U (.slice F' (dropE m).f.length c') (.slice G' (dropE m).g.length d') (dropE m)) => drop_any (dropE m) F' G' _ c' _ d' U (drop_ok hok) (drop_few hk) rfl rfl hS'
  have hSM := fun (U : World) (F' G' F'' G'' : Option Addr) (c' d' c'' d'' : Nat) (hS' : MdAt U (.slice F' (dropE m).f.length c') (.slice G' (dropE m).g.length d') (dropE m)) (hS'' : MdAt U (.slice F'' (dropE m).f.length c'') (.slice G'' (dropE m).g.length d'') (dropE m)) =>
    refSame_any (dropE m) (dropE m) F' G' F'' G'' _ c' _ d' _ c'' _ d'' U (drop_ok hok) (drop_ok hok) rfl rfl rfl rfl hS' hS''
  simp only [drop_twice] at hD2
  simp only [sameM_refl] at hSM
  have hl1 : (dropE m).f.length ≤ nf := by rw [← hnf]; exact List.length_filter_le _ _
  have hl2 : (dropE m).g.length ≤ ng := by rw [← hng]; exact List.length_filter_le _ _
  obtain ⟨D, hD⟩ : ∃ D, dropE m = D := ⟨_, rfl⟩
  unfold GivenMd at hDR hD2
  rw [hD] at hDR hD2 hSM hl1 hl2
  obtain ⟨n3, hn3⟩ : ∃ q, D.f.length = q := ⟨_, rfl⟩
  obtain ⟨g3, hg3⟩ : ∃ q, D.g.length = q := ⟨_, rfl⟩
  rw [hn3, hg3] at hDR hD2 hSM
  rw [hn3] at hl1
  rw [hg3] at hl2
  have HDR := Lib.hid hDR
  have HD2 := Lib.hid hD2
  have HSM := Lib.hid hSM
  have n1 : (n3 : Int) ≤ (nf : Int) := by omega
  have n2 : (g3 : Int) ≤ (ng : Int) := by omega
  have hcb := heap_alloc_new w (.cells #[.slice F nf cf, .slice G ng cg] 25)
  have hb0 := balloc (Below.refl _ w) (.cells #[.slice F nf cf, .slice G ng cg] 25)
  obtain ⟨W0, hW0⟩ : ∃ U, w.alloc (.cells #[.slice F nf cf, .slice G ng cg] 25) = U := ⟨_, rfl⟩
  rw [hW0] at hcb hb0
  have HCB := Lib.hid (show Whole W0 w.heap.size 25 #[.slice F nf cf, .slice G ng cg] from hcb)
  have HB0 := Lib.hid hb0
  clear hok hk hS hnf hng h20 hD hDR hD2 hSM hn3 hg3 hl1 hl2 hcb hb0
  go_enter Try.func7, Try.ntmps7
  go_wp2_with fail
  refine (rshown11_any W0).mono ?_
  rintro r w1 ⟨rfl, hb1⟩
  have HC1 := Lib.hid (HCB.out.next hb1)
  have HB1 := Lib.hid (bthen HB0.out hb1)
  have c0 : w1.cell? ⟨w.heap.size, 0, none⟩ = some (.slice F nf cf) := HC1.out.cell 0
  have c1 : w1.cell? ⟨w.heap.size, 1, none⟩ = some (.slice G ng cg) := HC1.out.cell 1
  clear hb1
  go_wp2_with fail
  refine (HFE.out w1).mono ?_
  rintro r w2 ⟨rfl, hb2⟩
  have HC2 := Lib.hid (HC1.out.next hb2)
  have HB2 := Lib.hid (bthen HB1.out hb2)
  have d0 : w2.cell? ⟨w.heap.size, 0, none⟩ = some (.slice F nf cf) := HC2.out.cell 0
  have d1 : w2.cell? ⟨w.heap.size, 1, none⟩ = some (.slice G ng cg) := HC2.out.cell 1
  clear hb2 c0 c1
  obtain ⟨V, hV⟩ : ∃ V, fewE m = V := ⟨_, rfl⟩
  rw [hV]
  clear hV
  cases V with
  | false =>
    go_wp2_with fail
    go_ret
    exact ⟨rfl, HB2.out⟩
  | true =>
    go_wp2_with fail
    refine (HDR.out w2 HB2.out).mono ?_
    rintro r w3 ⟨F3, c3, G3, e3, rfl, hb3, hm3⟩
    obtain ⟨w4, hw4⟩ : ∃ X, w3.alloc (.cells #[.slice F3 n3 c3, .slice G3 g3 e3] 25) = X := ⟨_, rfl⟩
    have hb4 : Below w3.heap.size w3 w4 := by rw [← hw4]; exact balloc (Below.refl _ w3) _
    have HC4 := Lib.hid ((HC2.out.next hb3).next hb4)
    have HZ4 := Lib.hid (show Whole w4 w3.heap.size 25 #[.slice F3 n3 c3, .slice G3 g3 e3] by rw [← hw4]; exact heap_alloc_new w3 _)
    have HB4 := Lib.hid (bthen (bthen HB2.out hb3) hb4)
    have HM4 := Lib.hid (hm3.next hb4)
    have f0 : w4.cell? ⟨w.heap.size, 0, none⟩ = some (.slice F nf cf) := HC4.out.cell 0
    have f1 : w4.cell? ⟨w.heap.size, 1, none⟩ = some (.slice G ng cg) := HC4.out.cell 1
    have g0 : w4.cell? ⟨w3.heap.size, 0, none⟩ = some (.slice F3 n3 c3) := HZ4.out.cell 0
    have g1 : w4.cell? ⟨w3.heap.size, 1, none⟩ = some (.slice G3 g3 e3) := HZ4.out.cell 1
    have hd : w4.drew.cell? ⟨w.heap.size, 0, none⟩ = some (.slice F nf cf) ∧ w4.drew.cell? ⟨w.heap.size, 1, none⟩ = some (.slice G ng cg) ∧ w4.drew.cell? ⟨w3.heap.size, 0, none⟩ = some (.slice F3 n3 c3) ∧ w4.drew.cell? ⟨w3.heap.size, 1, none⟩ = some (.slice G3 g3 e3) ∧ Below w4.heap.size w4 w4.drew := ⟨f0, f1, g0, g1, (Below.refl _ _).drew⟩
    have HDA := Lib.hid (fun (U : World) (hU : Below w4.heap.size w4 U) => HD2.out U F3 G3 c3 e3 (HM4.out.next hU))
    have HSA := Lib.hid (fun (U : World) (hU : Below w4.heap.size w4 U) (F' G' : Option Addr) (c' d' : Nat) (hS' : MdAt U (.slice F' n3 c') (.slice G' g3 d') D) => HSM.out U F' G' F3 G3 c' d' c3 e3 hS' (HM4.out.next hU))
    clear hb3 hm3 hb4 f0 f1 g0 g1 d0 d1 HDR HD2 HSM HFE HCB HB0 hW0 HC1 HB1 HC2 HB2
    go_upto_region 6 with fail
    go_region_held3 (fun U => U.cell? ⟨w.heap.size, 0, none⟩ = some (.slice F nf cf) ∧ U.cell? ⟨w.heap.size, 1, none⟩ = some (.slice G ng cg) ∧ U.cell? ⟨w3.heap.size, 0, none⟩ = some (.slice F3 n3 c3) ∧ U.cell? ⟨w3.heap.size, 1, none⟩ = some (.slice G3 g3 e3) ∧ Below w4.heap.size w4 U) (first | assumption | exact hd | exact tw_next (by assumption) (by assumption))
      (first
        | (go_at_call 18; refine Calls.mono (HDA.out _ (tw_below (by assumption))) ?_; rintro r wa ⟨Fa, ca, Ga, ea, rfl, hba, hma⟩; have HMa := Lib.hid hma; clear hma)
        | (go_at_call 26; refine Calls.mono (HSA.out _ (tw_below (by assumption)) Fa Ga ca ea (by first | exact HMa.out | exact HMa.out.next (Below.refl _ _).drew)) ?_; rintro r wc ⟨rfl, hbc⟩))
    all_goals
      have hfin := tw_below (w := w4) (by assumption)
      have HB5 := Lib.hid (bthen HB4.out hfin)
      clear hfin
      go_wp2_with fail
      go_ret
      exact ⟨rfl, HB5.out⟩
end Go.Proofs.Ytoglmdadpchhoaa
