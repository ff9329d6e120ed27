/- ReachRight: the walk. -/
import Derived.Test.YtoglmdadpchhoaaRr
namespace Go.Proofs.Ytoglmdadpchhoaa
open Go.RowKit Go.Shelf

theorem drop_w {m : Md} (hw : MdW m) : MdW (dropE m) := ⟨fun f hf => hw.1 f (List.mem_filter.1 hf).1, fun g hg => hw.2 g (List.mem_filter.1 hg).1⟩
set_option maxRecDepth 100000 in
set_option maxHeartbeats 16000000 in
theorem right_all (m : Md) (F G : Option Addr) (cf cg : Nat) (w : World) (hok : MdOk m) (hw : MdW m) (hk : MdK 1048576 m) (hS : MdAt w (.slice F m.f.length cf) (.slice G m.g.length cg) m) :
    Calls Try.prog 4 #[.agg #[.slice F m.f.length cf, .slice G m.g.length cg]] w fun e w' => e = .returned (.bool true) ∧ Below w.heap.size w w' := by
  obtain ⟨nf, hnf⟩ : ∃ q, m.f.length = q := ⟨_, rfl⟩
  obtain ⟨ng, hng⟩ : ∃ q, m.g.length = q := ⟨_, rfl⟩
  rw [hnf, hng] at hS ⊢
  have HCK := Lib.hid (fun (U : World) (hU : Below w.heap.size w U) => refCheck_any m F G nf cf ng cg U hok hw hnf hng (hS.next hU))
  have HWH := Lib.hid (fun (U : World) (hU : Below w.heap.size w U) => refWhole_any m F G nf cf ng cg U hok hw hk hnf hng (hS.next hU))
  have hDR := fun (U : World) (hU : Below w.heap.size w U) => drop_any m F G nf cf ng cg U hok hk hnf hng (hS.next hU)
  have hC2 := fun (U : World) (F' G' : Option Addr) (c' d' : Nat) (hS' : MdAt U (.slice F' (dropE m).f.length c') (.slice G' (dropE m).g.length d') (dropE m)) => refCheck_any (dropE m) F' G' _ c' _ d' U (drop_ok hok) (drop_w hw) rfl rfl hS'
  have hW2 := fun (U : World) (F' G' : Option Addr) (c' d' : Nat) (hS' : MdAt U (.slice F' (dropE m).f.length c') (.slice G' (dropE m).g.length d') (dropE m)) => refWhole_any (dropE m) F' G' _ c' _ d' U (drop_ok hok) (drop_w hw) (drop_few hk) rfl rfl hS'
  have hcase : ∃ X Y X2 Y2, checkE m = X ∧ wholeR m = Y ∧ checkE (dropE m) = X2 ∧ wholeR (dropE m) = Y2 ∧ ((X = 0 ∧ Y = 0 ∧ X2 = 0 ∧ Y2 = 0) ∨ (X = 0 ∧ Y ≠ 0 ∧ X2 = 0) ∨ (X ≠ 0 ∧ Y ≠ 0)) := by
    refine ⟨_, _, _, _, rfl, rfl, rfl, rfl, ?_⟩
    by_cases h1 : checkE m = 0
    · by_cases h2 : wholeR m = 0
      · exact .inl ⟨h1, h2, check_drop h1, whole_drop h2⟩
      · exact .inr (.inl ⟨h1, h2, check_drop h1⟩)
    · exact .inr (.inr ⟨h1, by rw [(wholeR_parts m).1 h1]; exact h1⟩)
  obtain ⟨X, Y, X2, Y2, e1, e2, e3, e4, hcase⟩ := hcase
  rw [e1] at HCK
  rw [e2] at HWH
  rw [e3] at hC2
  rw [e4] at hW2
  obtain ⟨D, hD⟩ : ∃ D, dropE m = D := ⟨_, rfl⟩
  unfold GivenMd at hDR
  rw [hD] at hDR hC2 hW2
  obtain ⟨n3, hn3⟩ : ∃ q, D.f.length = q := ⟨_, rfl⟩
  obtain ⟨g3, hg3⟩ : ∃ q, D.g.length = q := ⟨_, rfl⟩
  rw [hn3, hg3] at hDR hC2 hW2
  have HDR := Lib.hid hDR
  have HC2 := Lib.hid hC2
  have HW2 := Lib.hid hW2
  have hcb := heap_alloc_new w (.cells #[.slice F nf cf, .slice G ng cg] 25)
  have hb0 := balloc (Below.refl _ w) (.cells #[.slice F nf cf, .slice G ng cg] 25)
  obtain ⟨W0, hW0⟩ : ∃ U, w.alloc (.cells #[.slice F nf cf, .slice G ng cg] 25) = U := ⟨_, rfl⟩
  rw [hW0] at hcb hb0
  have HCB := Lib.hid (show Whole W0 w.heap.size 25 #[.slice F nf cf, .slice G ng cg] from hcb)
  have HB0 := Lib.hid hb0
  clear hok hw hk hS hnf hng e1 e2 e3 e4 hD hDR hC2 hW2 hn3 hg3 hcb hb0
  go_enter Try.func4, Try.ntmps4
  go_wp2_with fail
  refine (rshown11_any W0).mono ?_
  rintro r w1 ⟨rfl, hb1⟩
  have HC1 := Lib.hid (HCB.out.next hb1)
  have HB1 := Lib.hid (bthen HB0.out hb1)
  have c0 : w1.cell? ⟨w.heap.size, 0, none⟩ = some (.slice F nf cf) := HC1.out.cell 0
  have c1 : w1.cell? ⟨w.heap.size, 1, none⟩ = some (.slice G ng cg) := HC1.out.cell 1
  clear hb1
  go_wp2_with fail
  refine (HDR.out w1 HB1.out).mono ?_
  rintro r w3 ⟨F3, c3, G3, e3, rfl, hb3, hm3⟩
  obtain ⟨w4, hw4⟩ : ∃ X, w3.alloc (.cells #[.slice F3 n3 c3, .slice G3 g3 e3] 25) = X := ⟨_, rfl⟩
  have hb4 : Below w3.heap.size w3 w4 := by rw [← hw4]; exact balloc (Below.refl _ w3) _
  have HC4 := Lib.hid ((HC1.out.next hb3).next hb4)
  have HZ4 := Lib.hid (show Whole w4 w3.heap.size 25 #[.slice F3 n3 c3, .slice G3 g3 e3] by rw [← hw4]; exact heap_alloc_new w3 _)
  have HB4 := Lib.hid (bthen (bthen HB1.out hb3) hb4)
  have HM4 := Lib.hid (hm3.next hb4)
  have f0 : w4.cell? ⟨w.heap.size, 0, none⟩ = some (.slice F nf cf) := HC4.out.cell 0
  have f1 : w4.cell? ⟨w.heap.size, 1, none⟩ = some (.slice G ng cg) := HC4.out.cell 1
  clear hb3 hm3 hb4 c0 c1 hW0
  go_wp2_with fail
  clear hw4
  refine (HCK.out w4 HB4.out).mono ?_
  rintro r w5 ⟨rfl, hb5⟩
  have HC5 := Lib.hid (HC4.out.next hb5)
  have HZ5 := Lib.hid (HZ4.out.next hb5)
  have HB5 := Lib.hid (bthen HB4.out hb5)
  have HM5 := Lib.hid (HM4.out.next hb5)
  have g0 : w5.cell? ⟨w.heap.size, 0, none⟩ = some (.slice F nf cf) := HC5.out.cell 0
  have g1 : w5.cell? ⟨w.heap.size, 1, none⟩ = some (.slice G ng cg) := HC5.out.cell 1
  have z0 : w5.cell? ⟨w3.heap.size, 0, none⟩ = some (.slice F3 n3 c3) := HZ5.out.cell 0
  have z1 : w5.cell? ⟨w3.heap.size, 1, none⟩ = some (.slice G3 g3 e3) := HZ5.out.cell 1
  clear hb5 f0 f1
  rcases hcase with ⟨rfl, rfl, rfl, rfl⟩ | ⟨rfl, hY, rfl⟩ | ⟨hX, hY⟩
  · go_wp2_with fail
    refine (HC2.out w5 F3 G3 c3 e3 HM5.out).mono ?_
    rintro r w6 ⟨rfl, hb6⟩
    have HC6 := Lib.hid (HC5.out.next hb6)
    have HZ6 := Lib.hid (HZ5.out.next hb6)
    have HB6 := Lib.hid (bthen HB5.out hb6)
    have HM6 := Lib.hid (HM5.out.next hb6)
    have h0 : w6.cell? ⟨w.heap.size, 0, none⟩ = some (.slice F nf cf) := HC6.out.cell 0
    have h1 : w6.cell? ⟨w.heap.size, 1, none⟩ = some (.slice G ng cg) := HC6.out.cell 1
    clear hb6 g0 g1 z0 z1
    go_wp2_with fail
    refine (HWH.out w6 HB6.out).mono ?_
    rintro r w7 ⟨rfl, hb7⟩
    have HZ7 := Lib.hid (HZ6.out.next hb7)
    have HB7 := Lib.hid (bthen HB6.out hb7)
    have HM7 := Lib.hid (HM6.out.next hb7)
    have z0 : w7.cell? ⟨w3.heap.size, 0, none⟩ = some (.slice F3 n3 c3) := HZ7.out.cell 0
    have z1 : w7.cell? ⟨w3.heap.size, 1, none⟩ = some (.slice G3 g3 e3) := HZ7.out.cell 1
    clear hb7 h0 h1
    go_wp2_with fail
    refine (HW2.out w7 F3 G3 c3 e3 HM7.out).mono ?_
    rintro r w8 ⟨rfl, hb8⟩
    have HB8 := Lib.hid (bthen HB7.out hb8)
    clear hb8
    go_wp2_with fail
    go_ret
    exact ⟨rfl, HB8.out⟩
  · have hY2 : (Y != 0) = true := by simpa using hY
    go_wp2_with fail
    refine (HC2.out w5 F3 G3 c3 e3 HM5.out).mono ?_
    rintro r w6 ⟨rfl, hb6⟩
    have HC6 := Lib.hid (HC5.out.next hb6)
    have HB6 := Lib.hid (bthen HB5.out hb6)
    have h0 : w6.cell? ⟨w.heap.size, 0, none⟩ = some (.slice F nf cf) := HC6.out.cell 0
    have h1 : w6.cell? ⟨w.heap.size, 1, none⟩ = some (.slice G ng cg) := HC6.out.cell 1
    clear hb6 g0 g1 z0 z1
    go_wp2_with fail
    refine (HWH.out w6 HB6.out).mono ?_
    rintro r w7 ⟨rfl, hb7⟩
    have HB7 := Lib.hid (bthen HB6.out hb7)
    clear hb7
    go_wp2_with fail
    go_ret
    exact ⟨rfl, HB7.out⟩
  · have hX2 : (X == 0) = false := by simpa using hX
    have hY2 : (Y != 0) = true := by simpa using hY
    go_wp2_with fail
    refine (HWH.out w5 HB5.out).mono ?_
    rintro r w7 ⟨rfl, hb7⟩
    have HB7 := Lib.hid (bthen HB5.out hb7)
    clear hb7
    go_wp2_with fail
    go_ret
    exact ⟨rfl, HB7.out⟩
end Go.Proofs.Ytoglmdadpchhoaa
