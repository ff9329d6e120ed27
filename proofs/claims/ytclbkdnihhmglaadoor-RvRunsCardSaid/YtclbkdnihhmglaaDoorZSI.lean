/- rv's Run, for every machine whose register 0 is 0: so many steps. -/
import Derived.Test.YtclbkdnihhmglaaDoorZSH
import Derived.Test.YtclbkdnihhmglaaDoorZNF
namespace Go.Proofs.YtclbkdnihhmglaaDoor
open Go.RowKit

theorem pgTy_others {W W' : World} {A : Option Addr} {b : Nat} (h : PgTy W A) (hk : Lib.OthersKept 5 (some b) W W') (hb : ∃ cs fz, W.heap[b]? = some (.cells cs 47 fz)) : PgTy W' A := fun p off e => by
  obtain ⟨cs, fz, h1⟩ := h p off e
  obtain ⟨cs2, fz2, h2⟩ := hb
  refine ⟨cs, fz, hk p _ h1 (fun e' => ?_) (fun c f e' => by cases e')⟩
  have e2 : p = b := Option.some.inj e'
  subst e2
  rw [h1] at h2; cases h2
theorem pages_others {W W' : World} {A : Option Addr} {n c b : Nat} {m : List M.Pg} (hP : Pages W (.slice A n c) m) (h : PgTy W A) (hk : Lib.OthersKept 5 (some b) W W') (hs : W.heap.size ≤ W'.heap.size) (hb : ∃ cs fz, W.heap[b]? = some (.cells cs 47 fz)) : Pages W' (.slice A n c) m := by
  rcases hP with hP | ⟨h1, p, off, cap, e, h2⟩
  · exact .inl hP
  · refine .inr ⟨h1, p, off, cap, e, Nat.lt_of_lt_of_le h2.1 hs, fun i hi => ?_⟩
    obtain ⟨cs, fz, g1⟩ := h p off (Value.slice.inj e).1
    obtain ⟨cs2, fz2, g2⟩ := hb
    have hb' : W'.heap[p]? = W.heap[p]? := by
      rw [g1]
      refine hk p _ g1 (fun e' => ?_) (fun c f e' => by cases e')
      have e2 : p = b := Option.some.inj e'
      subst e2
      rw [g1] at g2; cases g2
    have hc : ∀ j, W'.cell? ⟨p, j, none⟩ = W.cell? ⟨p, j, none⟩ := fun j => by unfold World.cell?; simp only [hb']
    obtain ⟨e0, e1, e2⟩ := h2.2 i hi
    exact ⟨(hc _).trans e0, (hc _).trans e1, (hc _).trans e2⟩
theorem builder_typ {W : World} {B b : Nat} {bs : List Value} (h : Lib.IsBuilderF 47 5 B b bs W) : ∃ cs fz, W.heap[b]? = some (.cells cs 47 fz) := by
  obtain ⟨cs, h⟩ := builder_type h
  exact ⟨cs, _, h⟩
/-- what is asked of a machine for a row of steps -/
structure Fits (k : Mc) (m : List M.Pg) : Prop where
  b : MI k m
  n : m.length * 32 ≤ 140737488355328
  z : k.x 0 = 0
  o : k.out.size ≤ 140737488354000
theorem Fits.fit {k : Mc} {m : List M.Pg} (h : Fits k m) (j : Nat) (A : Option Addr) (l c : Nat) (hl : l = m.length) : Fit { (runR j k m).1 with ma := A, ml := l, mc := c, out := ⟨#[]⟩ } (runR j k m).2 := by
  obtain ⟨h1, h2⟩ := runR_mi h.b j
  exact ⟨⟨h1.x, h1.pc, h1.cd, h1.n, h1.st, h1.wf, by rw [h2]; exact hl⟩, by rw [h2]; exact h.n, runR_zero h.z j, by show 0 + 1 ≤ _; omega⟩
/-- the machine of round j as it lies -/
def runM (k : Mc) (m : List M.Pg) (j : Nat) (A : Option Addr) (l c : Nat) (o : ByteArray) : Mc := { (runR j k m).1 with ma := A, ml := l, mc := c, out := o }
theorem runM_fresh (k : Mc) (m : List M.Pg) (j : Nat) (A : Option Addr) (l c : Nat) : stepR (runM k m j A l c ⟨#[]⟩) (runR j k m).2 = (withM (stepR { (runR j k m).1 with out := ⟨#[]⟩ } (runR j k m).2).1 A l c, (runR (j + 1) k m).2) := by
  have h := stepR_with { (runR j k m).1 with out := ⟨#[]⟩ } A l c (runR j k m).2
  have h2 : (stepR { (runR j k m).1 with out := ⟨#[]⟩ } (runR j k m).2).2 = (runR (j + 1) k m).2 := by
    show _ = (stepR (runR j k m).1 (runR j k m).2).2
    rw [stepR_fresh (runR j k m).1]
  rw [← h2]
  exact h
theorem runM_next (k : Mc) (m : List M.Pg) (j : Nat) (A : Option Addr) (l c : Nat) :
    { (stepR { (runR j k m).1 with out := ⟨#[]⟩ } (runR j k m).2).1 with ma := A, ml := l, mc := c } = runM k m (j + 1) A l c (stepR { (runR j k m).1 with out := ⟨#[]⟩ } (runR j k m).2).1.out := by
  unfold runM
  show _ = ({ (stepR (runR j k m).1 (runR j k m).2).1 with ma := A, ml := l, mc := c, out := _ } : Mc)
  rw [stepR_fresh (runR j k m).1]
  rfl
theorem runR_bytes (k : Mc) (m : List M.Pg) (j : Nat) : Lib.byteCells (runR j k m).1.out.data.toList ++ Lib.strCells (stepR { (runR j k m).1 with out := ⟨#[]⟩ } (runR j k m).2).1.out = Lib.byteCells (runR (j + 1) k m).1.out.data.toList := by
  show _ = Lib.byteCells (stepR (runR j k m).1 (runR j k m).2).1.out.data.toList
  rw [stepR_fresh (runR j k m).1, Lib.strCells_eq, ← Lib.byteCells_append]
  show _ = Lib.byteCells ((runR j k m).1.out ++ _).data.toList
  rw [ByteArray.data_append, Array.toList_append]
theorem fresh_out (k : Mc) (m : List M.Pg) : (stepR { k with out := ⟨#[]⟩ } m).1.out.size ≤ 1 := stepR_out { k with out := ⟨#[]⟩ } m
set_option maxRecDepth 100000 in
set_option maxHeartbeats 16000000 in
theorem Run_any (k : Mc) (m : List M.Pg) (n : Int) (w : World) (hP : Pages w (.slice k.ma k.ml k.mc) m) (H : Fits k m) (hn : n ≤ 300) (T : E.Tabs w) :
    Calls Tryd.prog 7 #[.agg (mcells k), .int .i64 n] w (StepPost (runR n.toNat k m).1 (runR n.toNat k m).2 w) := by
  have HS := Lib.hid (fun W h => call_start k w W h)
  have HC := Lib.hid (fun (W : World) (hb : Below w.heap.size w W) => clone_any (hP.next hb) H.n)
  have HT := Lib.hid T
  have HF := Lib.hid H
  have HN3 := Lib.hid hn
  obtain ⟨nv, hnv⟩ : ∃ n, m.length = n := ⟨_, rfl⟩
  have HN := Lib.hid hnv
  clear hP H T hnv hn
  go_enter Tryd.func7, Tryd.ntmps7
  go_wp2_with (
    refine alloc_mach rfl rfl ?_
    obtain ⟨W, hW⟩ : ∃ W, W = ((w.alloc (.cells (mcells k) 26)).alloc (.cells (mcells zeroMc) 26)) := ⟨_, rfl⟩
    obtain ⟨hM, hZ, hB⟩ := HS.out W hW
    rw [← hW]
    clear hW HS
    have z1 : w.heap.size + 1 < W.heap.size := hZ.lt
    obtain ⟨mx, m32, m33, m34, m35, m36, m37, m38, mf⟩ := hM.cells
    have HM := Lib.hid hM
    have HZ := Lib.hid hZ
    have HB := Lib.hid hB
    clear hM hZ hB mx m32 m34 m35 m36 m37 m38)
  refine (HC.out _ HB.out).mono ?_
  rintro e w2 ⟨v2, rfl, ho2, hb2⟩
  have hp2 := ho2.pages
  obtain ⟨A, c, rfl⟩ := hp2.slice
  have HT2 := Lib.hid (pgTy_owns ho2)
  rw [HN.out] at hp2
  rw [HN.out]
  have HP2 := Lib.hid hp2
  have HM2 := Lib.hid (HM.out.next hb2)
  have HZ2 := Lib.hid (HZ.out.next hb2)
  have HB2 := Lib.hid (bthen HB.out hb2)
  have z2 : w.heap.size + 1 < w2.heap.size := HZ2.out.lt
  have z3 : w.heap.size < w2.heap.size := by omega
  clear hb2 ho2 hp2 m33 mf z1
  obtain ⟨-, -, m33, -, m35, -, -, -, mf⟩ := HM2.out.cells
  have hM3 := Whole.put HM2.out 33 (.slice A nv c)
  rw [mcells_set33] at hM3
  have hgr := grownBy_put w2 w.heap.size 33 (.slice A nv c)
  have HM3 := Lib.hid (show Mach (w2.setCell ⟨w.heap.size, 33, none⟩ (.slice A nv c)) w.heap.size (withM k A nv c) from hM3)
  have HZ3 := Lib.hid (HZ2.out.other ⟨w.heap.size, 33, none⟩ (.slice A nv c) (by simp))
  have HP3 := Lib.hid (pages_keepM HP2.out HM2.out hgr)
  have HT3 := Lib.hid (HT2.out.keepM HM2.out hgr)
  have HB3 := Lib.hid (HB2.out.setCell (p := ⟨w.heap.size, 33, none⟩) (by simp) (.slice A nv c))
  have HBS := Lib.hid (show (w2.setCell ⟨w.heap.size, 33, none⟩ (.slice A nv c)).heap.size = w2.heap.size from by simp [World.setCell])
  have HBU := Lib.hid (builder_new (w2.setCell ⟨w.heap.size, 33, none⟩ (.slice A nv c)) w2.heap.size (by rw [HBS.out]; exact Nat.le_refl _))
  rw [HBS.out] at HBU
  clear hM3 hgr
  go_wp2_with fail
  generalize w2.setCell ⟨w.heap.size, 33, none⟩ (.slice A nv c) = W3 at *
  have HP3a := Lib.hid (HP3.out.next (balloc (Below.refl _ _) (.cells #[.pointer none, .slice none 0 0] 47)))
  have HT3a := Lib.hid (HT3.out.next (balloc (Below.refl _ _) (.cells #[.pointer none, .slice none 0 0] 47)))
  have HZ3a := Lib.hid (HZ3.out.next (balloc (Below.refl _ _) (.cells #[.pointer none, .slice none 0 0] 47)))
  have HM3a := Lib.hid (HM3.out.next (balloc (Below.refl _ _) (.cells #[.pointer none, .slice none 0 0] 47)))
  refine (write_any w2.heap.size w2.heap.size [] k.out _ HBU.out (by have := HF.out.o; simp; omega) (by simp; have := HBS.out; omega)).mono ?_
  rintro e w4 ⟨rfl, hbu, hb4, hk4⟩
  have hbu : Lib.IsBuilderF 47 5 w2.heap.size w2.heap.size (Lib.byteCells (runR 0 k m).1.out.data.toList) w4 := by
    have h : Lib.IsBuilderF 47 5 w2.heap.size w2.heap.size (Lib.byteCells k.out.data.toList) w4 := by simpa [Lib.strCells_eq] using hbu
    exact h
  have hb34 : Below w2.heap.size W3 w4 := ((Below.refl _ _).alloc (by rw [HBS.out]; exact Nat.le_refl _) _).trans hb4
  have HM4 := Lib.hid (show Mach w4 w.heap.size (runM k m 0 A nv c k.out) from HM3.out.belowB hb34 z3)
  have HZ4 := Lib.hid (show Mach w4 (w.heap.size + 1) zeroMc from HZ3.out.belowB hb34 z2)
  have HB4 := Lib.hid (HB3.out.trans (hb34.mono (by omega)))
  have HP4 := Lib.hid (show Pages w4 (.slice A nv c) (runR 0 k m).2 from pages_others HP3a.out HT3a.out hk4 hb4.size (builder_typ HBU.out))
  have HT4 := Lib.hid (pgTy_others HT3a.out hk4 (builder_typ HBU.out))
  have HBU4 := Lib.hid hbu
  obtain ⟨B, hB⟩ : ∃ B, w2.heap.size = B := ⟨_, rfl⟩
  rw [hB] at HBU4 HBS z2 z3 hb34
  rw [hB]
  have hz4 : B ≤ w4.heap.size := by have := hb34.size; have := HBS.out; omega
  have HZZ4 := Lib.hid hz4
  clear hbu hb34 hb4 hk4 HBU m33 m35 mf hz4 HP3a HT3a HZ3a HM3a
  go_wp2_with fail
  go_loopw [14] (fun i wr => ∃ (j : Nat) (A' : Option Addr) (c' : Nat) (o : ByteArray), j ≤ n.toNat ∧ i = .int .i64 j ∧ Mach wr w.heap.size (runM k m j A' nv c' o) ∧ Lib.IsBuilderF 47 5 B B (Lib.byteCells (runR j k m).1.out.data.toList) wr ∧ Pages wr (.slice A' nv c') (runR j k m).2 ∧ PgTy wr A' ∧ Mach wr (w.heap.size + 1) zeroMc ∧ B ≤ wr.heap.size ∧ Below w.heap.size w wr) (fun i _ => n.toNat - (intOf i).toNat)
  case atStart => exact ⟨0, A, c, k.out, Nat.zero_le _, rfl, HM4.out, HBU4.out, HP4.out, HT4.out, HZ4.out, HZZ4.out, HB4.out⟩
  case round =>
    obtain ⟨j, A1, c1, o1, hj, rfl, hM, hbu, hp, ht, hzz, hz, hb⟩ := hrel
    have HM := Lib.hid hM
    have HBU := Lib.hid hbu
    have HP := Lib.hid hp
    have HT1 := Lib.hid ht
    have HZM := Lib.hid hzz
    have HZ := Lib.hid hz
    have HB := Lib.hid hb
    have HJ := Lib.hid hj
    clear hM hbu hp ht hzz hz hb hj
    obtain ⟨mx, m32, m33, m34, m35, m36, m37, m38, mf⟩ := HM.out.cells
    clear mx m32 m33 m34 m37 m38
    have m36' : wr.cell? ⟨w.heap.size, 36, none⟩ = some (.int .i64 (runR j k m).1.st) := m36
    clear m36
    by_cases hgo : (j : Int) < n ∧ (runR j k m).1.st = 0
    · obtain ⟨hlt, hst⟩ := hgo
      rw [hst] at m36'
      have HJN := Lib.hid (show j + 1 ≤ n.toNat by omega)
      have h2 := Whole.put HM.out 35 (.string ⟨#[]⟩)
      rw [mcells_set35] at h2
      have HM2 := Lib.hid (show Mach (wr.setCell ⟨w.heap.size, 35, none⟩ (.string ⟨#[]⟩)) w.heap.size (runM k m j A1 nv c1 ⟨#[]⟩) from h2)
      have hg2 := grownBy_put wr w.heap.size 35 (.string ⟨#[]⟩)
      have HBU2 := Lib.hid (builder_mach HBU.out hg2 HM.out)
      have HB2 := Lib.hid (HB.out.setCell (p := ⟨w.heap.size, 35, none⟩) (by simp) (.string ⟨#[]⟩))
      have HZ2 := Lib.hid (show B ≤ (wr.setCell ⟨w.heap.size, 35, none⟩ (.string ⟨#[]⟩)).heap.size from by simpa [World.setCell] using HZ.out)
      have HP2 := Lib.hid (pages_keepM HP.out HM.out hg2)
      have HT2 := Lib.hid (HT1.out.keepM HM.out hg2)
      have HZM2 := Lib.hid (HZM.out.other ⟨w.heap.size, 35, none⟩ (.string ⟨#[]⟩) (by simp))
      clear h2 hg2 hst
      go_wp2_with (refine load_mach rfl _ rfl _ rfl _ HM2.out ?_)
      refine (step_any (runM k m j A1 nv c1 ⟨#[]⟩) (runR j k m).2 _ HP2.out (HF.out.fit j A1 nv c1 HN.out.symm) (HT.out.next HB2.out)).mono ?_
      rintro e w5 ⟨A5, l5, c5, rfl, hp5, hb5, ht5⟩
      rw [runM_fresh] at hp5 ht5
      rw [runM_fresh]
      have hE : ({ withM (stepR { (runR j k m).1 with out := ⟨#[]⟩ } (runR j k m).2).1 A1 nv c1 with ma := A5, ml := l5, mc := c5 } : Mc) = runM k m (j + 1) A5 l5 c5 (stepR { (runR j k m).1 with out := ⟨#[]⟩ } (runR j k m).2).1.out := runM_next k m j A5 l5 c5
      rw [hE]
      have hl5 : l5 = nv := by
        obtain ⟨A', c', e⟩ := hp5.slice
        rw [(Value.slice.inj e).2.1, (runR_mi HF.out.b (j + 1)).2, HN.out]
      subst hl5
      have hbs := runR_bytes k m j
      have hos := fresh_out (runR j k m).1 (runR j k m).2
      have hro := runR_out k m j
      obtain ⟨o5, ho5⟩ : ∃ o, (stepR { (runR j k m).1 with out := ⟨#[]⟩ } (runR j k m).2).1.out = o := ⟨_, rfl⟩
      rw [ho5] at hbs hos
      rw [ho5]
      have HBSS := Lib.hid hbs
      have HOS := Lib.hid hos
      have HRO := Lib.hid hro
      have hM5 := HM2.out.next hb5
      have hg6 := grownBy_row w5 w.heap.size (mcells (runM k m (j + 1) A5 l5 c5 o5))
      have HM5 := Lib.hid hM5
      have HM6 := Lib.hid (hM5.row (runM k m (j + 1) A5 l5 c5 o5))
      have HBU6 := Lib.hid (builder_mach (builder_below HBU2.out hb5) hg6 hM5)
      have HZ5 := Lib.hid (Nat.le_trans HZ2.out hb5.size)
      have HB6 := Lib.hid (below_row (bthen HB2.out hb5) (B := w.heap.size) (mcells (runM k m (j + 1) A5 l5 c5 o5)) (Nat.le_refl _))
      have HZ6 := Lib.hid (Nat.le_trans HZ5.out hg6.size)
      have HP6 := Lib.hid (pages_keepM hp5 hM5 hg6)
      have HT6 := Lib.hid ((ht5 HT2.out).keepM hM5 hg6)
      have HZM6 := Lib.hid ((HZM2.out.next hb5).rowOther (B' := w.heap.size) (mcells (runM k m (j + 1) A5 l5 c5 o5)) (by omega))
      have m35' : (w5.setRow w.heap.size (mcells (runM k m (j + 1) A5 l5 c5 o5))).cell? ⟨w.heap.size, 35, none⟩ = some (.string o5) := HM6.out.cells.2.2.2.2.1
      clear hb5 hM5 hg6 m35 m36' mf hE hbs hos hro ho5 hp5 ht5
      go_wp2_with (refine store_mach rfl _ _ rfl _ _ rfl rfl _ HM5.out ?_)
      refine (write_any B B _ o5 _ HBU6.out (by rw [Lib.byteCells_length]; have h1 := HRO.out; have h2 := HF.out.o; have h3 := HOS.out; have h4 := HJN.out; have h5 := HN3.out; rw [← Lib.size_eq]; omega) HZ6.out).mono ?_
      rintro e w7 ⟨rfl, hbu7, hb7, hk7⟩
      rw [HBSS.out] at hbu7
      have HBU7 := Lib.hid hbu7
      have HM7 := Lib.hid (HM6.out.belowB hb7 z3)
      have HZM7 := Lib.hid (HZM6.out.belowB hb7 z2)
      have HZ7 := Lib.hid (Nat.le_trans HZ6.out hb7.size)
      have HB7 := Lib.hid (HB6.out.trans (hb7.mono (by omega)))
      have HP7 := Lib.hid (pages_others HP6.out HT6.out hk7 hb7.size (builder_typ HBU6.out))
      have HT7 := Lib.hid (pgTy_others HT6.out hk7 (builder_typ HBU6.out))
      clear hbu7 hb7 hk7 m35'
      have hj3 : (j : Int) ≤ 300 := by have := HJN.out; have := HN3.out; omega
      go_wp2_with fail
      go_roundw
      case rel => exact ⟨j + 1, A5, c5, o5, HJN.out, by go_num, HM7.out, HBU7.out, HP7.out, HT7.out, HZM7.out, HZ7.out, HB7.out⟩
      case measure => have := HJN.out; simp [intOf]; omega
    · have HE := Lib.hid (show runR n.toNat k m = runR j k m from by
        by_cases hlt : (j : Int) < n
        · exact runR_halt (fun e => hgo ⟨hlt, e⟩) _ HJ.out
        · have hJ := HJ.out
          rw [show n.toNat = j by omega])
      have hw : ¬ (j : Int) < n ∨ ((j : Int) < n ∧ ((runR j k m).1.st != 0) = true) := by
        by_cases hlt : (j : Int) < n
        · exact .inr ⟨hlt, by simpa using fun e => hgo ⟨hlt, e⟩⟩
        · exact .inl hlt
      clear hgo
      obtain ⟨S, hS⟩ : ∃ S, (runR j k m).1.st = S := ⟨_, rfl⟩
      rw [hS] at m36' hw
      clear hS
      rcases hw with hlt | ⟨hlt, hst⟩
      all_goals
        go_wp2_with fail
        refine (string_any B B _ _ HBU.out HZ.out).mono ?_
        rintro e w8 ⟨rfl, -, hb8, hk8⟩
        have hM8 := HM.out.belowB hb8 z3
        have hZ8 := HZM.out.belowB hb8 z2
        have hB8 := HB.out.trans (hb8.mono (by omega))
        have hP8 := pages_others HP.out HT1.out hk8 hb8.size (builder_typ HBU.out)
        have h9 := Whole.put hM8 35 (.string (runR j k m).1.out)
        rw [mcells_set35] at h9
        have HM9 := Lib.hid (show Mach (w8.setCell ⟨w.heap.size, 35, none⟩ (.string (runR j k m).1.out)) w.heap.size { (runR j k m).1 with ma := A1, ml := nv, mc := c1 } from h9)
        have HZ9 := Lib.hid (hZ8.other ⟨w.heap.size, 35, none⟩ (.string (runR j k m).1.out) (by simp))
        have HB9 := Lib.hid (hB8.setCell (p := ⟨w.heap.size, 35, none⟩) (by simp) (.string (runR j k m).1.out))
        have HP9 := Lib.hid (pages_keepM hP8 hM8 (grownBy_put w8 w.heap.size 35 (.string (runR j k m).1.out)))
        have e9 : (⟨(runR j k m).1.out.data.toList.toArray⟩ : ByteArray) = (runR j k m).1.out := rfl
        rw [e9]
        obtain ⟨-, -, -, -, m35', -, -, -, mf'⟩ := hM8.cells
        clear hM8 hZ8 hB8 h9 hb8 hk8 hP8 m35 mf m36' e9
        go_wp2_with (first | (refine load_mach rfl _ rfl _ rfl _ HM9.out ?_) | (refine store_mach rfl _ _ rfl _ _ rfl rfl _ HZ9.out ?_))
        refine bodyPost_ret (results_mach Tryd.results7 _ _ _ _ rfl (HZ9.out.row _)) rfl ?_
        rw [HE.out]
        exact ⟨A1, nv, c1, rfl, pages_keepM HP9.out HZ9.out (grownBy_row _ _ _), below_row HB9.out _ (by omega)⟩
end Go.Proofs.YtclbkdnihhmglaaDoor
