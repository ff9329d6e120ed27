/- rv's Run over a row of steps that write nothing. -/
import Derived.Test.YtclbkdnihhmglaaDoorZNE
import Derived.Test.YtclbkdnihhmglaaDoorZF
import Derived.Test.YtclbkdnihhmglaaDoorZP9
import Derived.Test.YtclbkdnihhmglaaDoorZP14
namespace Go.Proofs.YtclbkdnihhmglaaDoor
open Go.RowKit

theorem builder_mach {W W' : World} {B b r : Nat} {bs : List Value} {k : Mc} (h : Lib.IsBuilderF 47 5 B b bs W) (hg : W.grownBy W' (some r)) (hr : Mach W r k) : Lib.IsBuilderF 47 5 B b bs W' := by
  have hr' : W.heap[r]? = some (.cells (mcells k) 26 (0, 0)) := hr
  have G : ∀ p, Lib.BuilderAtF 47 5 B b p bs W → Lib.BuilderAtF 47 5 B b p bs W' := by
    rintro p ⟨hB, v, hb, hw, hne⟩
    refine ⟨hB, v, (hg.block b (Array.getElem?_eq_some_iff.1 hb).1 (fun e => ?_)).trans hb, hw.kept hg ?_, hne⟩
    · have e' : b = r := Option.some.inj e
      subst e'
      rw [hb] at hr'; cases hr'
    · cases hv : v.ownBlock with
      | none => exact .inl rfl
      | some g =>
        refine .inr (fun e => ?_)
        have e' : g = r := Option.some.inj e
        subst e'
        obtain ⟨c, fz, hg'⟩ := Lib.ownsRowF_kind hw g hv
        rw [hg'] at hr'; cases hr'
  rcases h with h | h
  · exact .inl (G _ h)
  · exact .inr (G _ h)
theorem grownBy_row (W : World) (B : Nat) (cs : Array Value) : W.grownBy (W.setRow B cs) (some B) :=
  ⟨rfl, rfl, rfl, by simp [World.setRow], fun k _ hk => by simp [World.setRow, Array.getElem?_modify, show ¬ B = k from fun e => hk (by rw [e])]⟩
theorem setOut_same (k : Mc) (v : ByteArray) (h : k.out = v) : { k with out := v } = k := by
  cases k; simp at h; subst h; rfl
theorem Pages.keep {W W' : World} {v : Value} {m : List M.Pg} {r : Nat} {k : Mc} (h : Pages W v m) (hg : W.grownBy W' (some r)) (hr : Mach W r k) (hne : ∀ b off n c, v = .slice (some ⟨b, off, none⟩) n c → b ≠ r) : Pages W' v m := by
  rcases h with h | ⟨h1, b, off, cap, rfl, h2⟩
  · exact .inl h
  · refine .inr ⟨h1, b, off, cap, rfl, Nat.lt_of_lt_of_le h2.1 hg.size, fun i hi => ?_⟩
    have hb : W'.heap[b]? = W.heap[b]? := hg.block b h2.1 (fun e => hne b off _ cap rfl (Option.some.inj e))
    have hc : ∀ j, W'.cell? ⟨b, j, none⟩ = W.cell? ⟨b, j, none⟩ := fun j => by unfold World.cell?; simp only [hb]
    obtain ⟨e0, e1, e2⟩ := h2.2 i hi
    exact ⟨(hc _).trans e0, (hc _).trans e1, (hc _).trans e2⟩
theorem Mach.belowB {W W' : World} {B N : Nat} {k : Mc} (h : Mach W N k) (hb : Below B W W') (hN : N < B) : Mach W' N k := (hb.block N hN).trans h
/-- all blocks below B but N are as they were -/
def KeepN (B N : Nat) (W W' : World) : Prop := W.heap.size ≤ W'.heap.size ∧ ∀ b, b < B → b ≠ N → W'.heap[b]? = W.heap[b]?
theorem KeepN.grown {B N : Nat} {W W' W2 : World} (h : KeepN B N W W') (hg : W'.grownBy W2 (some N)) (hB : B ≤ W'.heap.size) : KeepN B N W W2 :=
  ⟨Nat.le_trans h.1 hg.size, fun b hb hn => (hg.block b (by omega) (fun e => hn (Option.some.inj e))).trans (h.2 b hb hn)⟩
theorem KeepN.below {B N : Nat} {W W' W2 : World} (h : KeepN B N W W') (hB : B ≤ W'.heap.size) (hb : Below W'.heap.size W' W2) : KeepN B N W W2 :=
  ⟨Nat.le_trans h.1 hb.size, fun b hb' hn => (hb.block b (by omega)).trans (h.2 b hb' hn)⟩
theorem KeepN.belowB {B N : Nat} {W W' W2 : World} (h : KeepN B N W W') (hb : Below B W' W2) : KeepN B N W W2 :=
  ⟨Nat.le_trans h.1 hb.size, fun b hb' hn => (hb.block b hb').trans (h.2 b hb' hn)⟩
theorem KeepN.pages {B N : Nat} {W W' : World} {v : Value} {m : List M.Pg} (h : KeepN B N W W') (hP : Pages W v m) (hB : W.heap.size = B) (hne : ∀ b off n c, v = .slice (some ⟨b, off, none⟩) n c → b ≠ N) : Pages W' v m := by
  rcases hP with hP | ⟨h1, b, off, cap, rfl, h2⟩
  · exact .inl hP
  · refine .inr ⟨h1, b, off, cap, rfl, Nat.lt_of_lt_of_le h2.1 h.1, fun i hi => ?_⟩
    have hb : W'.heap[b]? = W.heap[b]? := h.2 b (hB ▸ h2.1) (hne b off _ cap rfl)
    have hc : ∀ j, W'.cell? ⟨b, j, none⟩ = W.cell? ⟨b, j, none⟩ := fun j => by unfold World.cell?; simp only [hb]
    obtain ⟨e0, e1, e2⟩ := h2.2 i hi
    exact ⟨(hc _).trans e0, (hc _).trans e1, (hc _).trans e2⟩
def RunPost (K : Option Addr → Nat → Nat → Nat → Mc) (n : Nat) (w : World) (e : Ending) (w' : World) : Prop :=
  ∃ A l c, e = .returned (.agg (mcells { K A l c n with out := ⟨#[]⟩ })) ∧ Below w.heap.size w w'
set_option maxRecDepth 100000 in
set_option maxHeartbeats 4000000 in
theorem run_seq (k : Mc) (m : List M.Pg) (n : Nat) (K : Option Addr → Nat → Nat → Nat → Mc) (w : World) (hP : Pages w (.slice k.ma k.ml k.mc) m) (hm : m.length * 32 ≤ 140737488355328) (hn : n ≤ 1000000) (ho : k.out = ⟨#[]⟩)
    (h0 : ∀ A l c, K A l c 0 = { k with ma := A, ml := l, mc := c }) (hst : ∀ A l c j, j < n → (K A l c j).st = 0) (hout : ∀ A l c j, j ≤ n → (K A l c j).out = ⟨#[]⟩)
    (hK : ∀ A l c j W, j < n → Pages W (.slice A l c) m → Below w.heap.size w W → Calls Tryd.prog 15 #[.agg (mcells (K A l c j))] W (RetIs (.agg (mcells (K A l c (j + 1)))) W)) :
    Calls Tryd.prog 7 #[.agg (mcells k), .int .i64 n] w (RunPost K n w) := by
  have HS := Lib.hid (fun W h => call_start k w W h)
  have HC := Lib.hid (fun (W : World) (hb : Below w.heap.size w W) => clone_any (hP.next hb) hm)
  have HK := Lib.hid hK
  have H0 := Lib.hid h0
  have HST := Lib.hid hst
  have HOUT := Lib.hid hout
  have HO := Lib.hid ho
  obtain ⟨nv, hnv⟩ : ∃ n, m.length = n := ⟨_, rfl⟩
  have HN := Lib.hid hnv
  clear hP hm ho h0 hst hout hK hnv
  go_enter Tryd.func7, Tryd.ntmps7
  go_wp2_with (
    refine alloc_mach rfl rfl ?_
    obtain ⟨W, hW⟩ : ∃ W, W = ((w.alloc (.cells (mcells k) 26)).alloc (.cells (mcells zeroMc) 26)) := ⟨_, rfl⟩
    obtain ⟨hM, hZ, hB⟩ := HS.out W hW
    rw [← hW]
    clear hW HS
    have z1 : w.heap.size + 1 < W.heap.size := hZ.lt
    obtain ⟨mx, m32, m33, m34, m35, m36, m37, m38, mf⟩ := hM.cells
    have HM := Lib.hid hM
    have HZ := Lib.hid hZ
    have HB := Lib.hid hB
    clear hM hZ hB mx m32 m34 m35 m36 m37 m38)
  refine (HC.out _ HB.out).mono ?_
  rintro e w2 ⟨v2, rfl, ho2, hb2⟩
  have hp2 := ho2.pages
  have hne2 : ∀ b off n c', v2 = .slice (some ⟨b, off, none⟩) n c' → b ≠ w.heap.size := by
    intro b off n c' e
    subst e
    have h' : w2.ownsRow _ 43 3 (.slice (some ⟨b, off, none⟩) n c') m.length (cellsOf m) := ho2
    rcases h'.2 with ⟨e, _⟩ | ⟨g, cap, cur, e, hg, _⟩
    · cases e
    · cases e
      omega
  obtain ⟨A, c, rfl⟩ := hp2.slice
  rw [HN.out] at hne2
  have HNE := Lib.hid hne2
  clear hne2
  rw [HN.out] at hp2
  rw [HN.out]
  have HP2 := Lib.hid hp2
  have HM2 := Lib.hid (HM.out.next hb2)
  have HZ2 := Lib.hid (HZ.out.next hb2)
  have HB2 := Lib.hid (bthen HB.out hb2)
  have z2 : w.heap.size + 1 < w2.heap.size := HZ2.out.lt
  have z3 : w.heap.size < w2.heap.size := by omega
  clear hb2 ho2 hp2 m33 mf z1
  obtain ⟨-, -, m33, -, m35, -, -, -, mf⟩ := HM2.out.cells
  rw [HO.out] at m35
  have hown : ∀ b off n c', (Value.slice A nv c) = .slice (some ⟨b, off, none⟩) n c' → b ≠ w.heap.size := HNE.out
  have hM3 := Whole.put HM2.out 33 (.slice A nv c)
  rw [mcells_set33] at hM3
  have hM3 : Mach (w2.setCell ⟨w.heap.size, 33, none⟩ (.slice A nv c)) w.heap.size (K A nv c 0) := by rw [H0.out]; exact hM3
  have hgr := grownBy_put w2 w.heap.size 33 (.slice A nv c)
  have HM3 := Lib.hid hM3
  have HZ3 := Lib.hid (HZ2.out.other ⟨w.heap.size, 33, none⟩ (.slice A nv c) (by simp))
  have HP3 := Lib.hid (HP2.out.keep hgr HM2.out hown)
  have HB3 := Lib.hid (HB2.out.setCell (p := ⟨w.heap.size, 33, none⟩) (by simp) (.slice A nv c))
  have HBS := Lib.hid (show (w2.setCell ⟨w.heap.size, 33, none⟩ (.slice A nv c)).heap.size = w2.heap.size from by simp [World.setCell])
  have HBU := Lib.hid (builder_new (w2.setCell ⟨w.heap.size, 33, none⟩ (.slice A nv c)) w2.heap.size (by rw [HBS.out]; exact Nat.le_refl _))
  rw [HBS.out] at HBU
  clear hM3 hgr
  go_wp2_with fail
  generalize w2.setCell ⟨w.heap.size, 33, none⟩ (.slice A nv c) = W3 at *
  refine (write_any w2.heap.size w2.heap.size [] ⟨#[]⟩ _ HBU.out (by simp; decide) (by simp; have := HBS.out; omega)).mono ?_
  rintro e w4 ⟨rfl, hbu, hb4, -⟩
  have hbu : Lib.IsBuilderF 47 5 w2.heap.size w2.heap.size [] w4 := by simpa [Lib.strCells] using hbu
  have hb34 : Below w2.heap.size W3 w4 := ((Below.refl _ _).alloc (by rw [HBS.out]; exact Nat.le_refl _) _).trans hb4
  have HM4 := Lib.hid (HM3.out.belowB hb34 z3)
  have HB4 := Lib.hid (HB3.out.trans (hb34.mono (by omega)))
  have HKP := Lib.hid (show KeepN w2.heap.size w.heap.size W3 w4 from ⟨hb34.size, fun b hb _ => hb34.block b hb⟩)
  have HBU4 := Lib.hid hbu
  obtain ⟨B, hB⟩ : ∃ B, w2.heap.size = B := ⟨_, rfl⟩
  rw [hB] at HBU4 HKP HBS z2 z3
  rw [hB]
  have hz4 : B ≤ w4.heap.size := by have := HKP.out.1; have := HBS.out; omega
  have HZ4 := Lib.hid hz4
  clear hbu hb34 hb4 HBU m33 m35 mf hown hz4
  go_wp2_with fail
  go_loopw [14] (fun i wr => ∃ j : Nat, j ≤ n ∧ i = .int .i64 j ∧ Mach wr w.heap.size (K A nv c j) ∧ Lib.IsBuilderF 47 5 B B [] wr ∧ KeepN B w.heap.size W3 wr ∧ B ≤ wr.heap.size ∧ Below w.heap.size w wr) (fun i _ => n - (intOf i).toNat)
  case atStart => exact ⟨0, Nat.zero_le _, rfl, HM4.out, HBU4.out, HKP.out, HZ4.out, HB4.out⟩
  case round =>
    obtain ⟨j, hj, rfl, hM, hbu, hkp, hz, hb⟩ := hrel
    have HM := Lib.hid hM
    have HBU := Lib.hid hbu
    have HKP := Lib.hid hkp
    have HZ := Lib.hid hz
    have HB := Lib.hid hb
    clear hM hbu hkp hz hb
    obtain ⟨mx, m32, m33, m34, m35, m36, m37, m38, mf⟩ := HM.out.cells
    by_cases hlt : j < n
    · rw [HST.out A nv c j hlt] at m36
      rw [HOUT.out A nv c j hj] at m35
      have h2 := Whole.put HM.out 35 (.string ⟨#[]⟩)
      rw [mcells_set35, setOut_same _ _ (HOUT.out A nv c j hj)] at h2
      have HM2 := Lib.hid (show Mach (wr.setCell ⟨w.heap.size, 35, none⟩ (.string ⟨#[]⟩)) w.heap.size (K A nv c j) from h2)
      have hg2 := grownBy_put wr w.heap.size 35 (.string ⟨#[]⟩)
      have HBU2 := Lib.hid (builder_mach HBU.out hg2 HM.out)
      have HKP2 := Lib.hid (show KeepN B w.heap.size W3 (wr.setCell ⟨w.heap.size, 35, none⟩ (.string ⟨#[]⟩)) from HKP.out.grown hg2 HZ.out)
      have HB2 := Lib.hid (HB.out.setCell (p := ⟨w.heap.size, 35, none⟩) (by simp) (.string ⟨#[]⟩))
      have HZ2 := Lib.hid (show B ≤ (wr.setCell ⟨w.heap.size, 35, none⟩ (.string ⟨#[]⟩)).heap.size from by simpa [World.setCell] using HZ.out)
      have HP2 := Lib.hid (HKP2.out.pages HP3.out HBS.out HNE.out)
      clear mx m32 m33 m34 m37 m38 h2 hg2
      go_wp2_with (refine load_mach rfl _ rfl _ rfl _ HM2.out ?_)
      refine (HK.out A nv c j _ hlt HP2.out HB2.out).mono ?_
      rintro e w5 ⟨rfl, hb5⟩
      have hM5 := HM2.out.next hb5
      have hg6 := grownBy_row w5 w.heap.size (mcells (K A nv c (j + 1)))
      have HM5 := Lib.hid hM5
      have HM6 := Lib.hid (hM5.row (K A nv c (j + 1)))
      have HBU6 := Lib.hid (builder_mach (builder_below HBU2.out hb5) hg6 hM5)
      have HZ5 := Lib.hid (Nat.le_trans HZ2.out hb5.size)
      have HKP6 := Lib.hid ((HKP2.out.below HZ2.out hb5).grown hg6 HZ5.out)
      have HB6 := Lib.hid (below_row (bthen HB2.out hb5) (B := w.heap.size) (mcells (K A nv c (j + 1))) (Nat.le_refl _))
      have HZ6 := Lib.hid (Nat.le_trans HZ5.out hg6.size)
      have m35' : (w5.setRow w.heap.size (mcells (K A nv c (j + 1)))).cell? ⟨w.heap.size, 35, none⟩ = some (.string ⟨#[]⟩) := by
        rw [HM6.out.cells.2.2.2.2.1, HOUT.out A nv c (j + 1) hlt]
      clear hb5 hM5 hg6 m35 m36 mf
      go_wp2_with (refine store_mach rfl _ _ rfl _ _ rfl rfl _ HM5.out ?_)
      refine (write_any B B [] ⟨#[]⟩ _ HBU6.out (by simp; decide) HZ6.out).mono ?_
      rintro e w7 ⟨rfl, hbu7, hb7, -⟩
      have HBU7 := Lib.hid (show Lib.IsBuilderF 47 5 B B [] w7 by simpa [Lib.strCells] using hbu7)
      have HM7 := Lib.hid (HM6.out.belowB hb7 z3)
      have HKP7 := Lib.hid (HKP6.out.belowB hb7)
      have HZ7 := Lib.hid (Nat.le_trans HZ6.out hb7.size)
      have HB7 := Lib.hid (HB6.out.trans (hb7.mono (by omega)))
      clear hbu7 hb7 m35'
      go_wp2_with fail
      go_roundw
      case rel => exact ⟨j + 1, by omega, by go_num, HM7.out, HBU7.out, HKP7.out, HZ7.out, HB7.out⟩
      case measure => simp [intOf]; omega
    · obtain rfl : j = n := by omega
      have hnl : ¬ (j : Int) < (j : Int) := by omega
      clear mx m32 m33 m34 m35 m36 m37 m38 mf
      go_wp2_with fail
      refine (string_any B B [] _ HBU.out HZ.out).mono ?_
      rintro e w8 ⟨rfl, -, hb8, -⟩
      have hM8 := HM.out.belowB hb8 z3
      have hZ8 : Mach w8 (w.heap.size + 1) zeroMc := by
        have h1 := hb8.block (w.heap.size + 1) (by omega)
        have h2 := HKP.out.2 (w.heap.size + 1) (by omega) (by omega)
        exact h1.trans (h2.trans HZ3.out)
      have hB8 := HB.out.trans (hb8.mono (by omega))
      have h9 := Whole.put hM8 35 (.string ⟨([] : List UInt8).toArray⟩)
      rw [mcells_set35] at h9
      have HM9 := Lib.hid (show Mach (w8.setCell ⟨w.heap.size, 35, none⟩ (.string ⟨([] : List UInt8).toArray⟩)) w.heap.size { K A nv c j with out := ⟨#[]⟩ } from h9)
      have HZ9 := Lib.hid (hZ8.other ⟨w.heap.size, 35, none⟩ (.string ⟨([] : List UInt8).toArray⟩) (by simp))
      have HB9 := Lib.hid (hB8.setCell (p := ⟨w.heap.size, 35, none⟩) (by simp) (.string ⟨([] : List UInt8).toArray⟩))
      obtain ⟨-, -, -, -, m35, -, -, -, mf⟩ := hM8.cells
      clear hM8 hZ8 hB8 h9 hb8
      go_wp2_with (first | (refine load_mach rfl _ rfl _ rfl _ HM9.out ?_) | (refine store_mach rfl _ _ rfl _ _ rfl rfl _ HZ9.out ?_))
      exact bodyPost_ret (results_mach Tryd.results7 _ _ _ _ rfl (HZ9.out.row _)) rfl ⟨A, nv, c, rfl, below_row HB9.out _ (by omega)⟩
end Go.Proofs.YtclbkdnihhmglaaDoor
