/- RvParts: so many steps, and so many more, are those of both together. -/
import Derived.Test.YthaieajakdcodaaDoorZSI
import Derived.Test.YthaieajakdcodaaDoorZNG
import Derived.Deep.RegionHeld
import Derived.IntWalk
namespace Go.Proofs.YthaieajakdcodaaDoor
open Go.RowKit

theorem exec_mach {o : Oper} {a : Act} (x : Operand) (ho : o.op = .load 34 x) (B : Nat) (hx : a.eval x = .pointer (some ⟨B, 0, none⟩)) {w : World} {k : Mc} (hM : Mach w B k) :
    (execOp a.eval o).run Tryd.prog w = .ok (.value (.agg (mcells k))) w := by
  unfold execOp
  simp only [ho, hx, Instr.loadAt, Instr.sureAddr, Sem.run_bind, Sem.run_pure, Result.andThen_ok, run_loadVar_row w B _ 34 _ _ _ hM Tryd.underlying34 rfl (mach_info k)]
theorem runR_with (k : Mc) (A : Option Addr) (l c : Nat) (m : List M.Pg) (n : Nat) : runR n (withM k A l c) m = (withM (runR n k m).1 A l c, (runR n k m).2) := by
  induction n with
  | zero => rfl
  | succ n ih =>
    show stepR (runR n (withM k A l c) m).1 (runR n (withM k A l c) m).2 = _
    rw [ih, stepR_with]
    rfl
theorem fits_of {k : Mc} {m : List M.Pg} (hB : MB k m) (ho : k.out.size ≤ 140737488351232) (hf : fewB k = true) : Fits k m := by
  have h := fit_of hB ho hf
  exact ⟨hB.mi, h.n, h.z, by omega⟩
theorem Fits.run {k : Mc} {m : List M.Pg} (h : Fits k m) (ho : k.out.size ≤ 140737488351232) (n : Nat) (hn : n ≤ 300) (A : Option Addr) (l c : Nat) : Fits { (runR n k m).1 with ma := A, ml := l, mc := c } (runR n k m).2 := by
  obtain ⟨h1, h2⟩ := runR_mi h.b n
  have h3 := runR_out k m n
  exact ⟨⟨h1.x, h1.pc, h1.cd, h1.n, h1.st, h1.wf⟩, by rw [h2]; exact h.n, runR_zero h.z n, by show (runR n k m).1.out.size ≤ _; omega⟩
theorem parts_same {k k1 k2 k3 : Mc} {m m1 m2 m3 : List M.Pg} {a b : Int} {A1 A2 A3 : Option Addr} {l1 l2 l3 c1 c2 c3 : Nat} (a0 : 0 ≤ a) (b0 : 0 ≤ b)
    (h1 : ({ (runR a.toNat k m).1 with ma := A1, ml := l1, mc := c1 } : Mc) = k1) (g1 : (runR a.toNat k m).2 = m1) (h2 : ({ (runR b.toNat k1 m1).1 with ma := A2, ml := l2, mc := c2 } : Mc) = k2) (g2 : (runR b.toNat k1 m1).2 = m2)
    (h3 : ({ (runR (a + b).toNat k m).1 with ma := A3, ml := l3, mc := c3 } : Mc) = k3) (g3 : (runR (a + b).toNat k m).2 = m3) : sameMc k2 k3 m2 m3 = true := by
  have e : (a + b).toNat = a.toNat + b.toNat := by omega
  have e1 : k1 = withM (runR a.toNat k m).1 A1 l1 c1 := h1.symm
  rw [e1, ← g1, runR_with] at h2 g2
  rw [e, runR_add] at h3 g3
  subst h2 g2 h3 g3
  exact sameMc_true rfl (fun _ _ => rfl) rfl rfl rfl rfl rfl rfl
theorem same_with {k : Mc} {m : List M.Pg} {A A' : Option Addr} {l l' c c' : Nat} : sameMc { k with ma := A, ml := l, mc := c } { k with ma := A', ml := l', mc := c' } m m = true :=
  sameMc_true rfl (fun _ _ => rfl) rfl rfl rfl rfl rfl rfl
set_option maxRecDepth 100000 in
set_option maxHeartbeats 8000000 in
theorem parts_no (k : Mc) (m : List M.Pg) (a b : Int) (w : World) (hP : Pages w (.slice k.ma k.ml k.mc) m) (hB : MB k m) (ho : k.out.size ≤ 140737488351232) (T : E.Tabs w) (hf : fewB k = false) :
    Calls Tryd.prog 10 #[.agg (mcells k), .int .i64 a, .int .i64 b] w (RetIs (.bool true) w) := by
  have HSH := Lib.hid (fun (W : World) (hb : Below w.heap.size w W) => shown_any W (T.next hb))
  have HT := Lib.hid T
  have HP := Lib.hid hP
  have HL := Lib.hid (law_start k w)
  have HFW := Lib.hid (fun W => few_any k W)
  have HBB := Lib.hid hB
  have HO := Lib.hid ho
  rw [hf] at HFW
  clear T hP hB ho
  go_enter Tryd.func10, Tryd.ntmps10
  go_wp2_with fail
  obtain ⟨W, hW⟩ : ∃ W, W = (w.alloc (.cells (mcells k) 34)) := ⟨_, rfl⟩
  obtain ⟨hM, hB⟩ := HL.out
  rw [← hW] at hM hB ⊢
  clear hW HL
  refine (HSH.out _ hB).mono ?_
  rintro e w1 ⟨rfl, hb1⟩
  have HM := Lib.hid (hM.next hb1)
  have HB := Lib.hid (bthen hB hb1)
  clear hM hB hb1
  go_wp2_with (refine load_mach rfl _ rfl _ rfl _ HM.out ?_)
  refine (HFW.out _).mono ?_
  rintro e w2 ⟨rfl, hb2⟩
  have HM := Lib.hid (HM.out.next hb2)
  have HB := Lib.hid (bthen HB.out hb2)
  clear hb2
  go_wp2_with fail
  go_ret
  exact ⟨rfl, HB.out⟩
set_option maxRecDepth 100000 in
set_option maxHeartbeats 8000000 in
theorem parts_a (k : Mc) (m : List M.Pg) (a b : Int) (w : World) (hP : Pages w (.slice k.ma k.ml k.mc) m) (hB : MB k m) (ho : k.out.size ≤ 140737488351232) (T : E.Tabs w) (hf : fewB k = true) (h1 : a < 0) :
    Calls Tryd.prog 10 #[.agg (mcells k), .int .i64 a, .int .i64 b] w (RetIs (.bool true) w) := by
  have HSH := Lib.hid (fun (W : World) (hb : Below w.heap.size w W) => shown_any W (T.next hb))
  have HT := Lib.hid T
  have HP := Lib.hid hP
  have HL := Lib.hid (law_start k w)
  have HFW := Lib.hid (fun W => few_any k W)
  have HBB := Lib.hid hB
  have HO := Lib.hid ho
  rw [hf] at HFW
  clear T hP hB ho
  go_enter Tryd.func10, Tryd.ntmps10
  go_wp2_with fail
  obtain ⟨W, hW⟩ : ∃ W, W = (w.alloc (.cells (mcells k) 34)) := ⟨_, rfl⟩
  obtain ⟨hM, hB⟩ := HL.out
  rw [← hW] at hM hB ⊢
  clear hW HL
  refine (HSH.out _ hB).mono ?_
  rintro e w1 ⟨rfl, hb1⟩
  have HM := Lib.hid (hM.next hb1)
  have HB := Lib.hid (bthen hB hb1)
  clear hM hB hb1
  go_wp2_with (refine load_mach rfl _ rfl _ rfl _ HM.out ?_)
  refine (HFW.out _).mono ?_
  rintro e w2 ⟨rfl, hb2⟩
  have HM := Lib.hid (HM.out.next hb2)
  have HB := Lib.hid (bthen HB.out hb2)
  clear hb2
  go_wp2_with fail
  go_ret
  exact ⟨rfl, HB.out⟩
set_option maxRecDepth 100000 in
set_option maxHeartbeats 8000000 in
theorem parts_b (k : Mc) (m : List M.Pg) (a b : Int) (w : World) (hP : Pages w (.slice k.ma k.ml k.mc) m) (hB : MB k m) (ho : k.out.size ≤ 140737488351232) (T : E.Tabs w) (hf : fewB k = true) (h1 : ¬ a < 0) (h2 : b < 0) :
    Calls Tryd.prog 10 #[.agg (mcells k), .int .i64 a, .int .i64 b] w (RetIs (.bool true) w) := by
  have HSH := Lib.hid (fun (W : World) (hb : Below w.heap.size w W) => shown_any W (T.next hb))
  have HT := Lib.hid T
  have HP := Lib.hid hP
  have HL := Lib.hid (law_start k w)
  have HFW := Lib.hid (fun W => few_any k W)
  have HBB := Lib.hid hB
  have HO := Lib.hid ho
  rw [hf] at HFW
  clear T hP hB ho
  go_enter Tryd.func10, Tryd.ntmps10
  go_wp2_with fail
  obtain ⟨W, hW⟩ : ∃ W, W = (w.alloc (.cells (mcells k) 34)) := ⟨_, rfl⟩
  obtain ⟨hM, hB⟩ := HL.out
  rw [← hW] at hM hB ⊢
  clear hW HL
  refine (HSH.out _ hB).mono ?_
  rintro e w1 ⟨rfl, hb1⟩
  have HM := Lib.hid (hM.next hb1)
  have HB := Lib.hid (bthen hB hb1)
  clear hM hB hb1
  go_wp2_with (refine load_mach rfl _ rfl _ rfl _ HM.out ?_)
  refine (HFW.out _).mono ?_
  rintro e w2 ⟨rfl, hb2⟩
  have HM := Lib.hid (HM.out.next hb2)
  have HB := Lib.hid (bthen HB.out hb2)
  clear hb2
  go_wp2_with fail
  go_ret
  exact ⟨rfl, HB.out⟩
set_option maxRecDepth 100000 in
set_option maxHeartbeats 8000000 in
theorem parts_c (k : Mc) (m : List M.Pg) (a b : Int) (w : World) (hP : Pages w (.slice k.ma k.ml k.mc) m) (hB : MB k m) (ho : k.out.size ≤ 140737488351232) (T : E.Tabs w) (hf : fewB k = true) (h1 : ¬ a < 0) (h2 : ¬ b < 0) (h3 : 150 < a) :
    Calls Tryd.prog 10 #[.agg (mcells k), .int .i64 a, .int .i64 b] w (RetIs (.bool true) w) := by
  have HSH := Lib.hid (fun (W : World) (hb : Below w.heap.size w W) => shown_any W (T.next hb))
  have HT := Lib.hid T
  have HP := Lib.hid hP
  have HL := Lib.hid (law_start k w)
  have HFW := Lib.hid (fun W => few_any k W)
  have HBB := Lib.hid hB
  have HO := Lib.hid ho
  rw [hf] at HFW
  clear T hP hB ho
  go_enter Tryd.func10, Tryd.ntmps10
  go_wp2_with fail
  obtain ⟨W, hW⟩ : ∃ W, W = (w.alloc (.cells (mcells k) 34)) := ⟨_, rfl⟩
  obtain ⟨hM, hB⟩ := HL.out
  rw [← hW] at hM hB ⊢
  clear hW HL
  refine (HSH.out _ hB).mono ?_
  rintro e w1 ⟨rfl, hb1⟩
  have HM := Lib.hid (hM.next hb1)
  have HB := Lib.hid (bthen hB hb1)
  clear hM hB hb1
  go_wp2_with (refine load_mach rfl _ rfl _ rfl _ HM.out ?_)
  refine (HFW.out _).mono ?_
  rintro e w2 ⟨rfl, hb2⟩
  have HM := Lib.hid (HM.out.next hb2)
  have HB := Lib.hid (bthen HB.out hb2)
  clear hb2
  go_wp2_with fail
  go_ret
  exact ⟨rfl, HB.out⟩
set_option maxRecDepth 100000 in
set_option maxHeartbeats 8000000 in
theorem parts_d (k : Mc) (m : List M.Pg) (a b : Int) (w : World) (hP : Pages w (.slice k.ma k.ml k.mc) m) (hB : MB k m) (ho : k.out.size ≤ 140737488351232) (T : E.Tabs w) (hf : fewB k = true) (h1 : ¬ a < 0) (h2 : ¬ b < 0) (h3 : ¬ 150 < a) (h4 : 150 < b) :
    Calls Tryd.prog 10 #[.agg (mcells k), .int .i64 a, .int .i64 b] w (RetIs (.bool true) w) := by
  have HSH := Lib.hid (fun (W : World) (hb : Below w.heap.size w W) => shown_any W (T.next hb))
  have HT := Lib.hid T
  have HP := Lib.hid hP
  have HL := Lib.hid (law_start k w)
  have HFW := Lib.hid (fun W => few_any k W)
  have HBB := Lib.hid hB
  have HO := Lib.hid ho
  rw [hf] at HFW
  clear T hP hB ho
  go_enter Tryd.func10, Tryd.ntmps10
  go_wp2_with fail
  obtain ⟨W, hW⟩ : ∃ W, W = (w.alloc (.cells (mcells k) 34)) := ⟨_, rfl⟩
  obtain ⟨hM, hB⟩ := HL.out
  rw [← hW] at hM hB ⊢
  clear hW HL
  refine (HSH.out _ hB).mono ?_
  rintro e w1 ⟨rfl, hb1⟩
  have HM := Lib.hid (hM.next hb1)
  have HB := Lib.hid (bthen hB hb1)
  clear hM hB hb1
  go_wp2_with (refine load_mach rfl _ rfl _ rfl _ HM.out ?_)
  refine (HFW.out _).mono ?_
  rintro e w2 ⟨rfl, hb2⟩
  have HM := Lib.hid (HM.out.next hb2)
  have HB := Lib.hid (bthen HB.out hb2)
  clear hb2
  go_wp2_with fail
  go_ret
  exact ⟨rfl, HB.out⟩
set_option maxRecDepth 100000 in
set_option maxHeartbeats 8000000 in
theorem parts_walk (k : Mc) (m : List M.Pg) (a b : Int) (w : World) (hP : Pages w (.slice k.ma k.ml k.mc) m) (hB : MB k m) (ho : k.out.size ≤ 140737488351232) (T : E.Tabs w) (hf : fewB k = true) (h1 : ¬ a < 0) (h2 : ¬ b < 0) (h3 : ¬ 150 < a) (h4 : ¬ 150 < b) :
    Calls Tryd.prog 10 #[.agg (mcells k), .int .i64 a, .int .i64 b] w (RetIs (.bool true) w) := by
  have HSH := Lib.hid (fun (W : World) (hb : Below w.heap.size w W) => shown_any W (T.next hb))
  have HT := Lib.hid T
  have HP := Lib.hid hP
  have HL := Lib.hid (law_start k w)
  have HFW := Lib.hid (fun W => few_any k W)
  have HBB := Lib.hid hB
  have HO := Lib.hid ho
  rw [hf] at HFW
  clear T hP hB ho
  have HF := Lib.hid (fits_of HBB.out HO.out hf)
  have hab : IntKind.i64.wrap (a + b) = a + b := IntWalk.i64_in _ (by omega)
  have HLN := Lib.hid (few_len HBB.out hf)
  go_enter Tryd.func10, Tryd.ntmps10
  go_wp2_with fail
  obtain ⟨W, hW⟩ : ∃ W, W = (w.alloc (.cells (mcells k) 34)) := ⟨_, rfl⟩
  obtain ⟨hM, hB⟩ := HL.out
  rw [← hW] at hM hB ⊢
  clear hW HL
  refine (HSH.out _ hB).mono ?_
  rintro e w1 ⟨rfl, hb1⟩
  have HM := Lib.hid (hM.next hb1)
  have HB := Lib.hid (bthen hB hb1)
  clear hM hB hb1
  go_wp2_with (refine load_mach rfl _ rfl _ rfl _ HM.out ?_)
  refine (HFW.out _).mono ?_
  rintro e w2 ⟨rfl, hb2⟩
  have HM := Lib.hid (HM.out.next hb2)
  have HB := Lib.hid (bthen HB.out hb2)
  clear hb2
  go_wp2_with fail
  refine wp_region_held_drew (S := fun W => Mach W w.heap.size k ∧ Below w.heap.size w W) (by kernel_rfl) (⟨HM.out.drew, HB.out.drew⟩) (fun hHeld => ?_)
  have HM := Lib.hid hHeld.1
  have HB := Lib.hid hHeld.2
  refine wpAnyH_take (i := 0) (v := ?_) rfl (by kernel_rfl) (by kernel_rfl) (by kernel_rfl) (fun _ _ _ h => h) (Or.inl ⟨by rfl, ?_⟩) (by assumption) ?_
  rotate_left
  · intro W hSw; (try dsimp only at hSw); refine exec_mach (.tmp 3) ?_ w.heap.size ?_ hSw.1 <;> rfl
  (try simp only [Act.put])
  refine wpAnyH_take (i := 1) (v := ?_) rfl (by kernel_rfl) (by kernel_rfl) (by kernel_rfl) (fun _ _ _ h => h) (Or.inl ⟨by rfl, ?_⟩) (by assumption) ?_
  rotate_left
  · intro W hSw; (try dsimp only at hSw); go_simp; try (with_reducible rfl)
  (try simp only [Act.put])
  refine wpAnyH_take (i := 3) (v := ?_) rfl (by kernel_rfl) (by kernel_rfl) (by kernel_rfl) (fun _ _ _ h => h) (Or.inl ⟨by rfl, ?_⟩) (by assumption) ?_
  rotate_left
  · intro W hSw; (try dsimp only at hSw); go_simp; try (with_reducible rfl)
  (try simp only [Act.put])
  refine wpAnyH_take (i := 5) (v := ?_) rfl (by kernel_rfl) (by kernel_rfl) (by kernel_rfl) (fun _ _ _ h => h) (Or.inl ⟨by rfl, ?_⟩) (by assumption) ?_
  rotate_left
  · intro W hSw; (try dsimp only at hSw); refine exec_mach (.tmp 3) ?_ w.heap.size ?_ hSw.1 <;> rfl
  (try simp only [Act.put])
  refine wpAnyH_take (i := 6) (v := ?_) rfl (by kernel_rfl) (by kernel_rfl) (by kernel_rfl) (fun _ _ _ h => h) (Or.inl ⟨by rfl, ?_⟩) (by assumption) ?_
  rotate_left
  · intro W hSw; (try dsimp only at hSw); go_simp; try (with_reducible rfl)
  (try simp only [Act.put])
  refine wpAnyH_take (i := 7) (v := ?_) rfl (by kernel_rfl) (by kernel_rfl) (by kernel_rfl) (fun _ _ _ h => h) (Or.inl ⟨by rfl, ?_⟩) (by assumption) ?_
  rotate_left
  · intro W hSw; (try dsimp only at hSw); go_simp; try (with_reducible rfl)
  (try simp only [Act.put])
  refine wpAnyH_take (i := 8) (v := ?_) rfl (by kernel_rfl) (by kernel_rfl) (by kernel_rfl) (fun _ _ _ h => h) (Or.inl ⟨by rfl, ?_⟩) (by assumption) ?_
  rotate_left
  · intro W hSw; (try dsimp only at hSw); go_simp; try (with_reducible rfl)
  (try simp only [Act.put])
  refine wpAnyH_ready (rs := [2]) (by kernel_rfl) (by simp) ?_
  refine AllReadyH.cons rfl (fun K hK => ?_) AllReadyH.nil
  go_simp
  refine (Run_any k m a _ (HP.out.next HB.out) HF.out (by omega) (HT.out.next HB.out)).mono ?_
  rintro e wn ⟨A1, l1, c1, rfl, hp, hb⟩
  have HM := Lib.hid (HM.out.next hb)
  have HB := Lib.hid (bthen HB.out hb)
  obtain ⟨k1, hk⟩ : ∃ q, ({ (runR a.toNat k m).1 with ma := A1, ml := l1, mc := c1 } : Mc) = q := ⟨_, rfl⟩
  rw [hk]
  have HK1 := Lib.hid hk
  obtain ⟨m1, hm⟩ : ∃ q, (runR a.toNat k m).2 = q := ⟨_, rfl⟩
  rw [hm] at hp
  have HM1 := Lib.hid hm
  have HP1 := Lib.hid (show Pages wn (.slice k1.ma k1.ml k1.mc) m1 by rw [← hk]; exact hp)
  have HF1 := Lib.hid (show Fits k1 m1 by rw [← hk, ← hm]; exact HF.out.run HO.out a.toNat (by omega) A1 l1 c1)
  clear hp hb hk hm
  refine hK.out _ _ ⟨HM.out, HB.out⟩ (fun hHeld => ?_)
  clear hK K
  (try simp only [Act.put])
  refine wpAnyH_ready (rs := [4]) (by kernel_rfl) (by simp) ?_
  refine AllReadyH.cons rfl (fun K hK => ?_) AllReadyH.nil
  go_simp
  refine (Run_any k1 m1 b _ HP1.out HF1.out (by omega) (HT.out.next HB.out)).mono ?_
  rintro e wn ⟨A2, l2, c2, rfl, hp, hb⟩
  have HM := Lib.hid (HM.out.next hb)
  have HB := Lib.hid (bthen HB.out hb)
  obtain ⟨k2, hk⟩ : ∃ q, ({ (runR b.toNat k1 m1).1 with ma := A2, ml := l2, mc := c2 } : Mc) = q := ⟨_, rfl⟩
  rw [hk]
  have HK2 := Lib.hid hk
  obtain ⟨m2, hm⟩ : ∃ q, (runR b.toNat k1 m1).2 = q := ⟨_, rfl⟩
  rw [hm] at hp
  have HM2 := Lib.hid hm
  have HP2 := Lib.hid (show Pages wn (.slice k2.ma k2.ml k2.mc) m2 by rw [← hk]; exact hp)
  clear hp hb hk hm
  refine hK.out _ _ ⟨HM.out, HB.out⟩ (fun hHeld => ?_)
  clear hK K
  (try simp only [Act.put])
  refine wpAnyH_ready (rs := [9]) (by kernel_rfl) (by simp) ?_
  refine AllReadyH.cons rfl (fun K hK => ?_) AllReadyH.nil
  go_simp
  refine (Run_any k m (a + b) _ (HP.out.next HB.out) HF.out (by omega) (HT.out.next HB.out)).mono ?_
  rintro e wn ⟨A3, l3, c3, rfl, hp, hb⟩
  have HM := Lib.hid (HM.out.next hb)
  have HB := Lib.hid (bthen HB.out hb)
  have HP2 := Lib.hid (HP2.out.next hb)
  obtain ⟨k3, hk⟩ : ∃ q, ({ (runR (a + b).toNat k m).1 with ma := A3, ml := l3, mc := c3 } : Mc) = q := ⟨_, rfl⟩
  rw [hk]
  have HK3 := Lib.hid hk
  obtain ⟨m3, hm⟩ : ∃ q, (runR (a + b).toNat k m).2 = q := ⟨_, rfl⟩
  rw [hm] at hp
  have HM3 := Lib.hid hm
  have HP3 := Lib.hid (show Pages wn (.slice k3.ma k3.ml k3.mc) m3 by rw [← hk]; exact hp)
  clear hp hb hk hm
  refine hK.out _ _ ⟨HM.out, HB.out⟩ (fun hHeld => ?_)
  clear hK K
  (try simp only [Act.put])
  refine wpAnyH_ready (rs := [10]) (by kernel_rfl) (by simp) ?_
  refine AllReadyH.cons rfl (fun K hK => ?_) AllReadyH.nil
  go_simp
  have hsm : sameMc k2 k3 m2 m3 = true := parts_same (by omega) (by omega) HK1.out HM1.out HK2.out HM2.out HK3.out HM3.out
  have hlm : m2.length ≤ 1000000 := by rw [← HM2.out, (runR_mi HF1.out.b _).2, ← HM1.out, (runR_mi HF.out.b _).2]; have := HLN.out; omega
  have hs := rsameM_any k2 k3 m2 m3 _ HP2.out HP3.out hlm
  rw [hsm] at hs
  clear hsm hlm
  refine hs.mono ?_
  rintro e wn ⟨rfl, hb⟩
  have HM := Lib.hid (HM.out.next hb)
  have HB := Lib.hid (bthen HB.out hb)
  clear hb hs
  refine hK.out _ _ ⟨HM.out, HB.out⟩ (fun hHeld => ?_)
  clear hK K
  (try simp only [Act.put])
  refine wpAnyH_ready (rs := [11]) (by kernel_rfl) (by simp) ?_
  refine AllReadyH.cons rfl (fun K hK => ?_) AllReadyH.nil
  go_simp
  refine hK.out _ _ ⟨HM.out, HB.out⟩ (fun hHeld => ?_)
  clear hK K
  (try simp only [Act.put])
  refine wpAnyH_done (by kernel_rfl) ?_ _
  clear hHeld
  go_wp2_with fail
  go_ret
  exact ⟨rfl, HB.out⟩
theorem parts_all (k : Mc) (m : List M.Pg) (a b : Int) (w : World) (hP : Pages w (.slice k.ma k.ml k.mc) m) (hB : MB k m) (ho : k.out.size ≤ 140737488351232) (T : E.Tabs w) :
    Calls Tryd.prog 10 #[.agg (mcells k), .int .i64 a, .int .i64 b] w (RetIs (.bool true) w) := by
  cases hf : fewB k with
  | false => exact parts_no k m a b w hP hB ho T hf
  | true =>
    by_cases h1 : a < 0
    · exact parts_a k m a b w hP hB ho T hf h1
    by_cases h2 : b < 0
    · exact parts_b k m a b w hP hB ho T hf h1 h2
    by_cases h3 : 150 < a
    · exact parts_c k m a b w hP hB ho T hf h1 h2 h3
    by_cases h4 : 150 < b
    · exact parts_d k m a b w hP hB ho T hf h1 h2 h3 h4
    exact parts_walk k m a b w hP hB ho T hf h1 h2 h3 h4
end Go.Proofs.YthaieajakdcodaaDoor
