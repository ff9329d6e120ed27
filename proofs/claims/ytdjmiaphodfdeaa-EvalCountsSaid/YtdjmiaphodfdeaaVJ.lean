/- EvalCounts: the walk. -/
import Derived.Test.YtdjmiaphodfdeaaVH
namespace Go.Proofs.Ytdjmiaphodfdeaa
open Go.RowKit

def mostE (n : Int) : Int := if 2000 < n ∧ n ≤ 100000 then 2000 else n
set_option maxRecDepth 100000 in
set_option maxHeartbeats 1000000 in
theorem most_any (n : Int) (w : World) : Calls Try.prog 33 #[.int .i64 n] w fun e w' => e = .returned (.int .i64 (mostE n)) ∧ w = w' := by
  by_cases h1 : 2000 < n
  · have d1 : decide (2000 < n) = true := by simpa using h1
    by_cases h2 : n ≤ 100000
    · have d2 : decide (n ≤ 100000) = true := by simpa using h2
      rw [show mostE n = 2000 from if_pos ⟨h1, h2⟩]
      go_enter Try.func33, Try.ntmps33
      go_wp2_with fail
      go_ret
      exact ⟨rfl, rfl⟩
    · have d2 : decide (n ≤ 100000) = false := by simpa using h2
      rw [show mostE n = n from if_neg (fun h => h2 h.2)]
      go_enter Try.func33, Try.ntmps33
      go_wp2_with fail
      go_ret
      exact ⟨rfl, rfl⟩
  · have d1 : decide (2000 < n) = false := by simpa using h1
    rw [show mostE n = n from if_neg (fun h => h1 h.1)]
    go_enter Try.func33, Try.ntmps33
    go_wp2_with fail
    go_ret
    exact ⟨rfl, rfl⟩
theorem step_store_row {P : Program} {w : World} {ops : Array Oper} {o : Oper} {a : Act} {K : Act → World → Prop} {Q : Exit → Act → World → Prop} {E : Prop} (hgd : o.guard = none) (ty : TypeId) (x y : Operand) (ho : o.op = .store ty x y)
    (g : Nat) (cells : Array Value) (hx : a.eval x = .pointer (some ⟨g, 0, none⟩)) (hy : a.eval y = .agg cells)
    (t : TypeId) (old : Array Value) (hg : w.heap[g]? = some (.cells old t (0, 0))) (hi : (P.info? ty).map (·.size) = some cells.size)
    (hold : old.size = cells.size) (h1 : cells.all (·.oneCell') = true)
    (h : K (a.put o.dst undef) (w.setRow g cells)) : if Region.wanted o (yielded ops a.tmps) = true then Oper.wp P o a w K Q else E := by
  have hw : Region.wanted o (yielded ops a.tmps) = true := by simp [Region.wanted, hgd]
  rw [if_pos hw]
  exact wp_store_row ty x y ho g cells hx hy t old hg hi hold h1 h
theorem below_setRow {w X : World} {n B : Nat} {cells : Array Value} (h : Below n w X) (hB : n ≤ B) : Below n w (X.setRow B cells) :=
  h.trans ⟨rfl, rfl, rfl, by simp, fun k hk => setRow_other X _ k _ (by omega)⟩
set_option maxRecDepth 100000 in
set_option maxHeartbeats 4000000 in
theorem counts_ok (m : Md) (inp : ByteArray) (fuel deep k : Int) (F G : Option Addr) (nf cf ng cg : Nat) (w : World) (hS : MdAt w (.slice F nf cf) (.slice G ng cg) m) (co : Int) (so : ByteArray) (rd st dp : Nat) (h : rd ≤ inp.size ∧ (st : Int) ≤ fuel ∧ 1 ≤ dp ∧ (dp : Int) ≤ deep ∧ so.size ≤ st) (hk : mostE fuel = k)
    (hR : ∀ W, MdAt W (.slice F nf cf) (.slice G ng cg) m → Calls Try.prog 32 #[.agg #[.slice F nf cf, .slice G ng cg], .string inp, .int .i64 k, .int .i64 deep] W fun e w' => e = .returned (.tuple #[.agg #[.bool true, .int .u64 co, .string so, .int .i64 rd, .int .i64 st, .int .i64 dp], .int .i64 0]) ∧ Below W.heap.size W w') :
    Calls Try.prog 11 #[.agg #[.slice F nf cf, .slice G ng cg, .string inp, .int .i64 fuel, .int .i64 deep]] w fun e w' => e = .returned (.bool true) ∧ Below w.heap.size w w' := by
  have HR := Lib.hid hR
  have HM := Lib.hid (fun W => most_any fuel W)
  rw [hk] at HM
  have HSU := Lib.hid (fun (U : World) (hb : Below w.heap.size w U) => hS.next hb)
  have HW := Lib.hid (fun (W : World) (hW : W = (w.alloc (.cells #[.slice F nf cf, .slice G ng cg, .string inp, .int .i64 fuel, .int .i64 deep] 71)).alloc (.cells #[.slice F nf cf, .slice G ng cg] 47)) => (show Below w.heap.size w W ∧ W.heap[w.heap.size + 1]? = some (.cells #[.slice F nf cf, .slice G ng cg] 47 (0, 0)) from by
    subst hW
    have e := heap_alloc_new (w.alloc (.cells #[.slice F nf cf, .slice G ng cg, .string inp, .int .i64 fuel, .int .i64 deep] 71)) (.cells #[.slice F nf cf, .slice G ng cg] 47)
    rw [World.size_alloc] at e
    exact ⟨balloc (balloc (Below.refl _ w) _) _, e⟩))
  clear hR hk hS
  go_enter Try.func11, Try.ntmps11
  go_wp2_with fail
  obtain ⟨W, hW⟩ : ∃ W, W = (w.alloc (.cells #[.slice F nf cf, .slice G ng cg, .string inp, .int .i64 fuel, .int .i64 deep] 71)).alloc (.cells #[.slice F nf cf, .slice G ng cg] 47) := ⟨_, rfl⟩
  obtain ⟨hb0, hh0⟩ := HW.out W hW
  rw [← hW]
  clear hW HW
  refine (vshown_any W).mono ?_
  rintro r w1 ⟨rfl, hb⟩
  have HB := Lib.hid (show Below w.heap.size w w1 ∧ w1.heap[w.heap.size + 1]? = some (.cells #[.slice F nf cf, .slice G ng cg] 47 (0, 0)) from ⟨bthen hb0 hb, (hb.block _ (Array.getElem?_eq_some_iff.1 hh0).1).trans hh0⟩)
  have HSC := Lib.hid (fun (U : World) (hU : Below w1.heap.size w1 U) => (show U.cell? ⟨w.heap.size + 1, 0, none⟩ = some (.slice F nf cf) ∧ U.cell? ⟨w.heap.size + 1, 1, none⟩ = some (.slice G ng cg) from by
    have h := (hU.block _ (Array.getElem?_eq_some_iff.1 HB.out.2).1).trans HB.out.2
    exact ⟨Lib.cell_of_heap h 0, Lib.cell_of_heap h 1⟩))
  clear hb0 hh0 hb
  have c0 := (HSC.out w1 (Below.refl _ w1)).1
  have c1 := (HSC.out w1 (Below.refl _ w1)).2
  go_upto_region 6 with fail
  go_cut [8, 9] from 19 to 27 (fun v8 v9 wx => ∃ B, v8 = .pointer (some ⟨B, 0, none⟩) ∧ v9 = .int .i64 0 ∧ wx.heap[B]? = some (.cells #[.bool true, .int .u64 co, .string so, .int .i64 rd, .int .i64 st, .int .i64 dp] 56 (0, 0)) ∧ Below w.heap.size w wx)
  case first =>
    have HQ := Lib.hid HB.out
    refine wp_region_held_drew (S := (fun U => U.cell? ⟨w.heap.size + 1, 0, none⟩ = some (.slice F nf cf) ∧ U.cell? ⟨w.heap.size + 1, 1, none⟩ = some (.slice G ng cg))) (by kernel_rfl) (HSC.out _ (Below.refl _ w1).drew) (fun hHeld => ?_)
    have hub := Below.refl w1.drew.heap.size w1.drew
    refine wpAnyH_take (i := 0) (v := ?_) rfl (by kernel_rfl) (by kernel_rfl) (by kernel_rfl) (fun _ _ _ h => h) (Or.inl ⟨by rfl, ?_⟩) hHeld ?_
    rotate_left
    · intro W' hSw; (try dsimp only at hSw); go_simp; try (with_reducible rfl)
    (try simp only [Act.put, List.getElem_toArray, List.getElem_cons_zero, List.setIfInBounds_toArray, List.set_cons_zero, List.set_cons_succ])
    refine wpAnyH_take (i := 1) (v := ?_) rfl (by kernel_rfl) (by kernel_rfl) (by kernel_rfl) (fun _ _ _ h => h) (Or.inl ⟨by rfl, ?_⟩) hHeld ?_
    rotate_left
    · intro W' hSw; (try dsimp only at hSw); go_simp; try (with_reducible rfl)
    (try simp only [Act.put, List.getElem_toArray, List.getElem_cons_zero, List.getElem_cons_succ, List.setIfInBounds_toArray, List.set_cons_zero, List.set_cons_succ])
    refine wpAnyH_take (i := 2) (v := ?_) rfl (by kernel_rfl) (by kernel_rfl) (by kernel_rfl) (fun _ _ _ h => h) (Or.inl ⟨by rfl, ?_⟩) hHeld ?_
    rotate_left
    · intro W' hSw; (try dsimp only at hSw); go_simp; try (with_reducible rfl)
    (try simp only [Act.put, List.getElem_toArray, List.getElem_cons_zero, List.getElem_cons_succ, List.setIfInBounds_toArray, List.set_cons_zero, List.set_cons_succ])
    refine wpAnyH_take (i := 4) (v := ?_) rfl (by kernel_rfl) (by kernel_rfl) (by kernel_rfl) (fun _ _ _ h => h) (Or.inl ⟨by rfl, ?_⟩) hHeld ?_
    rotate_left
    · intro W' hSw; (try dsimp only at hSw); go_simp; try (with_reducible rfl)
    (try simp only [Act.put, List.getElem_toArray, List.getElem_cons_zero, List.getElem_cons_succ, List.setIfInBounds_toArray, List.set_cons_zero, List.set_cons_succ])
    refine wpAnyH_ready (rs := [3, 9]) (by kernel_rfl) (by simp) ?_
    refine AllReadyH.cons rfl (fun K hK => ?_) (AllReadyH.cons rfl (fun K hK => ?_) AllReadyH.nil)
    · go_simp
      refine Calls.mono (HM.out _) ?_
      rintro r u1 ⟨rfl, rfl⟩
      refine hK.out _ _ hHeld (fun _ => ?_)
      clear hK
      (try simp only [Act.put, List.getElem_toArray, List.getElem_cons_zero, List.getElem_cons_succ, List.setIfInBounds_toArray, List.set_cons_zero, List.set_cons_succ])
      refine wpAnyH_ready (rs := [5, 9]) (by kernel_rfl) (by simp) ?_
      refine AllReadyH.cons rfl (fun K hK => ?_) (AllReadyH.cons rfl (fun K hK => ?_) AllReadyH.nil)
      · go_simp
        refine Calls.mono (HR.out _ (HSU.out _ (bthen HQ.out.1 (bthen (Below.refl _ w1).drew hub)))) ?_
        rintro r u3 ⟨rfl, hb3⟩
        have hub3 := bthen hub hb3
        clear hb3
        refine hK.out _ _ (HSC.out _ (bthen (Below.refl _ w1).drew hub3)) (fun hHeld3 => ?_)
        clear hK
        (try simp only [Act.put, List.getElem_toArray, List.getElem_cons_zero, List.getElem_cons_succ, List.setIfInBounds_toArray, List.set_cons_zero, List.set_cons_succ])
        refine wpAnyH_take (i := 6) (v := ?_) rfl (by kernel_rfl) (by kernel_rfl) (by kernel_rfl) (fun _ _ _ h => h) (Or.inl ⟨by rfl, ?_⟩) hHeld3 ?_
        rotate_left
        · intro W' hSw; (try dsimp only at hSw); go_simp; try (with_reducible rfl)
        (try simp only [Act.put, List.getElem_toArray, List.getElem_cons_zero, List.getElem_cons_succ, List.setIfInBounds_toArray, List.set_cons_zero, List.set_cons_succ])
        refine wpAnyH_take (i := 7) (v := ?_) rfl (by kernel_rfl) (by kernel_rfl) (by kernel_rfl) (fun _ _ _ h => h) (Or.inl ⟨by rfl, ?_⟩) hHeld3 ?_
        rotate_left
        · intro W' hSw; (try dsimp only at hSw); go_simp; try (with_reducible rfl)
        (try simp only [Act.put, List.getElem_toArray, List.getElem_cons_zero, List.getElem_cons_succ, List.setIfInBounds_toArray, List.set_cons_zero, List.set_cons_succ])
        refine wpAnyH_take (i := 8) (v := ?_) rfl (by kernel_rfl) (by kernel_rfl) (by kernel_rfl) (fun _ _ _ h => h) (Or.inl ⟨by rfl, ?_⟩) hHeld3 ?_
        rotate_left
        · intro W' hSw; (try dsimp only at hSw); go_simp; try (with_reducible rfl)
        (try simp only [Act.put, List.getElem_toArray, List.getElem_cons_zero, List.getElem_cons_succ, List.setIfInBounds_toArray, List.set_cons_zero, List.set_cons_succ])
        refine wpAnyH_ready (rs := [9]) (by kernel_rfl) (by simp) ?_
        refine AllReadyH.cons rfl (fun K hK => ?_) AllReadyH.nil
        go_simp
        have hz3 := heap_alloc_new u3 (.cells #[.bool false, .int .u64 0, .string ⟨#[]⟩, .int .i64 0, .int .i64 0, .int .i64 0] 56)
        have hle3 : w1.heap.size ≤ u3.heap.size := hub3.size
        have hub3 := bthen hub3 (balloc (Below.refl _ _) (.cells #[.bool false, .int .u64 0, .string ⟨#[]⟩, .int .i64 0, .int .i64 0, .int .i64 0] 56))
        refine hK.out _ _ (HSC.out _ (bthen (Below.refl _ w1).drew hub3)) (fun hHeld4 => ?_)
        clear hK
        (try simp only [Act.put, List.getElem_toArray, List.getElem_cons_zero, List.getElem_cons_succ, List.setIfInBounds_toArray, List.set_cons_zero, List.set_cons_succ])
        refine wpAnyH_ready (rs := [10]) (by kernel_rfl) (by simp) ?_
        refine AllReadyH.cons rfl (fun K hK => ?_) AllReadyH.nil
        have hBw := bthen (Below.refl _ w1).drew hub3
        refine step_store_row rfl _ _ _ rfl _ #[.bool true, .int .u64 co, .string so, .int .i64 rd, .int .i64 st, .int .i64 dp] (by rfl) (by rfl) _ _ hz3 trace_info rfl (by simp [Value.oneCell']) ?_
        refine hK.out _ _ (HSC.out _ (below_setRow hBw hle3)) (fun hHeld5 => ?_)
        clear hK
        (try simp only [Act.put, List.getElem_toArray, List.getElem_cons_zero, List.getElem_cons_succ])
        refine wpAnyH_take (i := 11) (v := ?_) rfl (by kernel_rfl) (by kernel_rfl) (by kernel_rfl) (fun _ _ _ h => h) (Or.inl ⟨by rfl, ?_⟩) hHeld5 ?_
        rotate_left
        · intro W' hSw; (try dsimp only at hSw); go_simp; try (with_reducible rfl)
        (try simp only [Act.put, List.getElem_toArray, List.getElem_cons_zero, List.getElem_cons_succ, List.setIfInBounds_toArray, List.set_cons_zero, List.set_cons_succ])
        refine wpAnyH_done (by kernel_rfl) ?_ _
        go_wp2_with fail
        go_meet
        exact ⟨_, rfl, rfl, setRow_heap _ _ _ _ _ _ hz3, bthen HQ.out.1 (below_setRow hBw hle3)⟩
      · go_simp
        have hz := heap_alloc_new w1.drew (.cells #[.bool false, .int .u64 0, .string ⟨#[]⟩, .int .i64 0, .int .i64 0, .int .i64 0] 56)
        have hub := bthen hub (balloc (Below.refl _ _) (.cells #[.bool false, .int .u64 0, .string ⟨#[]⟩, .int .i64 0, .int .i64 0, .int .i64 0] 56))
        refine hK.out _ _ (HSC.out _ (bthen (Below.refl _ w1).drew hub)) (fun hHeld => ?_)
        clear hK
        (try simp only [Act.put, List.getElem_toArray, List.getElem_cons_zero, List.getElem_cons_succ, List.setIfInBounds_toArray, List.set_cons_zero, List.set_cons_succ])
        refine wpAnyH_ready (rs := [5]) (by kernel_rfl) (by simp) ?_
        refine AllReadyH.cons rfl (fun K hK => ?_) AllReadyH.nil
        go_simp
        refine Calls.mono (HR.out _ (HSU.out _ (bthen HQ.out.1 (bthen (Below.refl _ w1).drew hub)))) ?_
        rintro r u3 ⟨rfl, hb3⟩
        have hub3 := bthen hub hb3
        have hz3 := (hb3.block _ (Array.getElem?_eq_some_iff.1 hz).1).trans hz
        clear hb3
        refine hK.out _ _ (HSC.out _ (bthen (Below.refl _ w1).drew hub3)) (fun hHeld3 => ?_)
        clear hK
        (try simp only [Act.put, List.getElem_toArray, List.getElem_cons_zero, List.getElem_cons_succ, List.setIfInBounds_toArray, List.set_cons_zero, List.set_cons_succ])
        refine wpAnyH_take (i := 6) (v := ?_) rfl (by kernel_rfl) (by kernel_rfl) (by kernel_rfl) (fun _ _ _ h => h) (Or.inl ⟨by rfl, ?_⟩) hHeld3 ?_
        rotate_left
        · intro W' hSw; (try dsimp only at hSw); go_simp; try (with_reducible rfl)
        (try simp only [Act.put, List.getElem_toArray, List.getElem_cons_zero, List.getElem_cons_succ, List.setIfInBounds_toArray, List.set_cons_zero, List.set_cons_succ])
        refine wpAnyH_take (i := 7) (v := ?_) rfl (by kernel_rfl) (by kernel_rfl) (by kernel_rfl) (fun _ _ _ h => h) (Or.inl ⟨by rfl, ?_⟩) hHeld3 ?_
        rotate_left
        · intro W' hSw; (try dsimp only at hSw); go_simp; try (with_reducible rfl)
        (try simp only [Act.put, List.getElem_toArray, List.getElem_cons_zero, List.getElem_cons_succ, List.setIfInBounds_toArray, List.set_cons_zero, List.set_cons_succ])
        refine wpAnyH_take (i := 8) (v := ?_) rfl (by kernel_rfl) (by kernel_rfl) (by kernel_rfl) (fun _ _ _ h => h) (Or.inl ⟨by rfl, ?_⟩) hHeld3 ?_
        rotate_left
        · intro W' hSw; (try dsimp only at hSw); go_simp; try (with_reducible rfl)
        (try simp only [Act.put, List.getElem_toArray, List.getElem_cons_zero, List.getElem_cons_succ, List.setIfInBounds_toArray, List.set_cons_zero, List.set_cons_succ])
        refine wpAnyH_ready (rs := [10]) (by kernel_rfl) (by simp) ?_
        refine AllReadyH.cons rfl (fun K hK => ?_) AllReadyH.nil
        have hBw := bthen (Below.refl _ w1).drew hub3
        refine step_store_row rfl _ _ _ rfl _ #[.bool true, .int .u64 co, .string so, .int .i64 rd, .int .i64 st, .int .i64 dp] (by rfl) (by rfl) _ _ hz3 trace_info rfl (by simp [Value.oneCell']) ?_
        refine hK.out _ _ (HSC.out _ (below_setRow hBw (Nat.le_refl _))) (fun hHeld5 => ?_)
        clear hK
        (try simp only [Act.put, List.getElem_toArray, List.getElem_cons_zero, List.getElem_cons_succ])
        refine wpAnyH_take (i := 11) (v := ?_) rfl (by kernel_rfl) (by kernel_rfl) (by kernel_rfl) (fun _ _ _ h => h) (Or.inl ⟨by rfl, ?_⟩) hHeld5 ?_
        rotate_left
        · intro W' hSw; (try dsimp only at hSw); go_simp; try (with_reducible rfl)
        (try simp only [Act.put, List.getElem_toArray, List.getElem_cons_zero, List.getElem_cons_succ, List.setIfInBounds_toArray, List.set_cons_zero, List.set_cons_succ])
        refine wpAnyH_done (by kernel_rfl) ?_ _
        go_wp2_with fail
        go_meet
        exact ⟨_, rfl, rfl, setRow_heap _ _ _ _ _ _ hz3, bthen HQ.out.1 (below_setRow hBw (Nat.le_refl _))⟩
    · go_simp
      have hz := heap_alloc_new w1.drew (.cells #[.bool false, .int .u64 0, .string ⟨#[]⟩, .int .i64 0, .int .i64 0, .int .i64 0] 56)
      have hub := bthen hub (balloc (Below.refl _ _) (.cells #[.bool false, .int .u64 0, .string ⟨#[]⟩, .int .i64 0, .int .i64 0, .int .i64 0] 56))
      refine hK.out _ _ (HSC.out _ (bthen (Below.refl _ w1).drew hub)) (fun hHeld => ?_)
      clear hK
      (try simp only [Act.put, List.getElem_toArray, List.getElem_cons_zero, List.getElem_cons_succ, List.setIfInBounds_toArray, List.set_cons_zero, List.set_cons_succ])
      refine wpAnyH_ready (rs := [3]) (by kernel_rfl) (by simp) ?_
      refine AllReadyH.cons rfl (fun K hK => ?_) AllReadyH.nil
      go_simp
      refine Calls.mono (HM.out _) ?_
      rintro r u1 ⟨rfl, rfl⟩
      refine hK.out _ _ hHeld (fun _ => ?_)
      clear hK
      (try simp only [Act.put, List.getElem_toArray, List.getElem_cons_zero, List.getElem_cons_succ, List.setIfInBounds_toArray, List.set_cons_zero, List.set_cons_succ])
      refine wpAnyH_ready (rs := [5]) (by kernel_rfl) (by simp) ?_
      refine AllReadyH.cons rfl (fun K hK => ?_) AllReadyH.nil
      go_simp
      refine Calls.mono (HR.out _ (HSU.out _ (bthen HQ.out.1 (bthen (Below.refl _ w1).drew hub)))) ?_
      rintro r u3 ⟨rfl, hb3⟩
      have hub3 := bthen hub hb3
      have hz3 := (hb3.block _ (Array.getElem?_eq_some_iff.1 hz).1).trans hz
      clear hb3
      refine hK.out _ _ (HSC.out _ (bthen (Below.refl _ w1).drew hub3)) (fun hHeld3 => ?_)
      clear hK
      (try simp only [Act.put, List.getElem_toArray, List.getElem_cons_zero, List.getElem_cons_succ, List.setIfInBounds_toArray, List.set_cons_zero, List.set_cons_succ])
      refine wpAnyH_take (i := 6) (v := ?_) rfl (by kernel_rfl) (by kernel_rfl) (by kernel_rfl) (fun _ _ _ h => h) (Or.inl ⟨by rfl, ?_⟩) hHeld3 ?_
      rotate_left
      · intro W' hSw; (try dsimp only at hSw); go_simp; try (with_reducible rfl)
      (try simp only [Act.put, List.getElem_toArray, List.getElem_cons_zero, List.getElem_cons_succ, List.setIfInBounds_toArray, List.set_cons_zero, List.set_cons_succ])
      refine wpAnyH_take (i := 7) (v := ?_) rfl (by kernel_rfl) (by kernel_rfl) (by kernel_rfl) (fun _ _ _ h => h) (Or.inl ⟨by rfl, ?_⟩) hHeld3 ?_
      rotate_left
      · intro W' hSw; (try dsimp only at hSw); go_simp; try (with_reducible rfl)
      (try simp only [Act.put, List.getElem_toArray, List.getElem_cons_zero, List.getElem_cons_succ, List.setIfInBounds_toArray, List.set_cons_zero, List.set_cons_succ])
      refine wpAnyH_take (i := 8) (v := ?_) rfl (by kernel_rfl) (by kernel_rfl) (by kernel_rfl) (fun _ _ _ h => h) (Or.inl ⟨by rfl, ?_⟩) hHeld3 ?_
      rotate_left
      · intro W' hSw; (try dsimp only at hSw); go_simp; try (with_reducible rfl)
      (try simp only [Act.put, List.getElem_toArray, List.getElem_cons_zero, List.getElem_cons_succ, List.setIfInBounds_toArray, List.set_cons_zero, List.set_cons_succ])
      refine wpAnyH_ready (rs := [10]) (by kernel_rfl) (by simp) ?_
      refine AllReadyH.cons rfl (fun K hK => ?_) AllReadyH.nil
      have hBw := bthen (Below.refl _ w1).drew hub3
      refine step_store_row rfl _ _ _ rfl _ #[.bool true, .int .u64 co, .string so, .int .i64 rd, .int .i64 st, .int .i64 dp] (by rfl) (by rfl) _ _ hz3 trace_info rfl (by simp [Value.oneCell']) ?_
      refine hK.out _ _ (HSC.out _ (below_setRow hBw (Nat.le_refl _))) (fun hHeld5 => ?_)
      clear hK
      (try simp only [Act.put, List.getElem_toArray, List.getElem_cons_zero, List.getElem_cons_succ])
      refine wpAnyH_take (i := 11) (v := ?_) rfl (by kernel_rfl) (by kernel_rfl) (by kernel_rfl) (fun _ _ _ h => h) (Or.inl ⟨by rfl, ?_⟩) hHeld5 ?_
      rotate_left
      · intro W' hSw; (try dsimp only at hSw); go_simp; try (with_reducible rfl)
      (try simp only [Act.put, List.getElem_toArray, List.getElem_cons_zero, List.getElem_cons_succ, List.setIfInBounds_toArray, List.set_cons_zero, List.set_cons_succ])
      refine wpAnyH_done (by kernel_rfl) ?_ _
      go_wp2_with fail
      go_meet
      exact ⟨_, rfl, rfl, setRow_heap _ _ _ _ _ _ hz3, bthen HQ.out.1 (below_setRow hBw (Nat.le_refl _))⟩
  case rest =>
    obtain ⟨B, rfl, rfl, hB, hb⟩ := hcut
    have c0 := Lib.cell_of_heap hB 0
    have c1 := Lib.cell_of_heap hB 1
    have c2 := Lib.cell_of_heap hB 2
    have c3 := Lib.cell_of_heap hB 3
    have c4 := Lib.cell_of_heap hB 4
    have c5 := Lib.cell_of_heap hB 5
    simp only [List.getElem?_toArray, List.getElem?_cons_zero, List.getElem?_cons_succ] at c0 c1 c2 c3 c4 c5
    have HBL := Lib.hid hb
    clear hB hb
    obtain ⟨h1, h2, h3, h4, h5⟩ := h
    have d1 : decide (rd ≤ inp.size) = true := by simpa using h1
    have d2 : decide ((st : Int) ≤ fuel) = true := by simpa using h2
    have d3 : decide (1 ≤ dp) = true := by simpa using h3
    have d4 : decide ((dp : Int) ≤ deep) = true := by simpa using h4
    have d5 : decide (so.size ≤ st) = true := by simpa using h5
    go_wp2_with fail
    go_ret
    exact ⟨rfl, HBL.out⟩
set_option maxRecDepth 100000 in
set_option maxHeartbeats 4000000 in
theorem counts_fuel (m : Md) (inp : ByteArray) (fuel deep k : Int) (F G : Option Addr) (nf cf ng cg : Nat) (w : World) (hS : MdAt w (.slice F nf cf) (.slice G ng cg) m) (so : ByteArray) (rd st dp : Nat) (h : rd ≤ inp.size ∧ (st : Int) ≤ fuel ∧ 1 ≤ dp ∧ (dp : Int) ≤ deep ∧ so.size ≤ st) (hk : mostE fuel = k)
    (hR : ∀ W, MdAt W (.slice F nf cf) (.slice G ng cg) m → Calls Try.prog 32 #[.agg #[.slice F nf cf, .slice G ng cg], .string inp, .int .i64 k, .int .i64 deep] W fun e w' => e = .returned (.tuple #[.agg #[.bool false, .int .u64 0, .string so, .int .i64 rd, .int .i64 st, .int .i64 dp], .int .i64 12]) ∧ Below W.heap.size W w') :
    Calls Try.prog 11 #[.agg #[.slice F nf cf, .slice G ng cg, .string inp, .int .i64 fuel, .int .i64 deep]] w fun e w' => e = .returned (.bool true) ∧ Below w.heap.size w w' := by
  have HR := Lib.hid hR
  have HM := Lib.hid (fun W => most_any fuel W)
  rw [hk] at HM
  have HSU := Lib.hid (fun (U : World) (hb : Below w.heap.size w U) => hS.next hb)
  have HW := Lib.hid (fun (W : World) (hW : W = (w.alloc (.cells #[.slice F nf cf, .slice G ng cg, .string inp, .int .i64 fuel, .int .i64 deep] 71)).alloc (.cells #[.slice F nf cf, .slice G ng cg] 47)) => (show Below w.heap.size w W ∧ W.heap[w.heap.size + 1]? = some (.cells #[.slice F nf cf, .slice G ng cg] 47 (0, 0)) from by
    subst hW
    have e := heap_alloc_new (w.alloc (.cells #[.slice F nf cf, .slice G ng cg, .string inp, .int .i64 fuel, .int .i64 deep] 71)) (.cells #[.slice F nf cf, .slice G ng cg] 47)
    rw [World.size_alloc] at e
    exact ⟨balloc (balloc (Below.refl _ w) _) _, e⟩))
  clear hR hk hS
  go_enter Try.func11, Try.ntmps11
  go_wp2_with fail
  obtain ⟨W, hW⟩ : ∃ W, W = (w.alloc (.cells #[.slice F nf cf, .slice G ng cg, .string inp, .int .i64 fuel, .int .i64 deep] 71)).alloc (.cells #[.slice F nf cf, .slice G ng cg] 47) := ⟨_, rfl⟩
  obtain ⟨hb0, hh0⟩ := HW.out W hW
  rw [← hW]
  clear hW HW
  refine (vshown_any W).mono ?_
  rintro r w1 ⟨rfl, hb⟩
  have HB := Lib.hid (show Below w.heap.size w w1 ∧ w1.heap[w.heap.size + 1]? = some (.cells #[.slice F nf cf, .slice G ng cg] 47 (0, 0)) from ⟨bthen hb0 hb, (hb.block _ (Array.getElem?_eq_some_iff.1 hh0).1).trans hh0⟩)
  have HSC := Lib.hid (fun (U : World) (hU : Below w1.heap.size w1 U) => (show U.cell? ⟨w.heap.size + 1, 0, none⟩ = some (.slice F nf cf) ∧ U.cell? ⟨w.heap.size + 1, 1, none⟩ = some (.slice G ng cg) from by
    have h := (hU.block _ (Array.getElem?_eq_some_iff.1 HB.out.2).1).trans HB.out.2
    exact ⟨Lib.cell_of_heap h 0, Lib.cell_of_heap h 1⟩))
  clear hb0 hh0 hb
  have c0 := (HSC.out w1 (Below.refl _ w1)).1
  have c1 := (HSC.out w1 (Below.refl _ w1)).2
  go_upto_region 6 with fail
  go_cut [8, 9] from 19 to 27 (fun v8 v9 wx => ∃ B, v8 = .pointer (some ⟨B, 0, none⟩) ∧ v9 = .int .i64 12 ∧ wx.heap[B]? = some (.cells #[.bool false, .int .u64 0, .string so, .int .i64 rd, .int .i64 st, .int .i64 dp] 56 (0, 0)) ∧ Below w.heap.size w wx)
  case first =>
    have HQ := Lib.hid HB.out
    refine wp_region_held_drew (S := (fun U => U.cell? ⟨w.heap.size + 1, 0, none⟩ = some (.slice F nf cf) ∧ U.cell? ⟨w.heap.size + 1, 1, none⟩ = some (.slice G ng cg))) (by kernel_rfl) (HSC.out _ (Below.refl _ w1).drew) (fun hHeld => ?_)
    have hub := Below.refl w1.drew.heap.size w1.drew
    refine wpAnyH_take (i := 0) (v := ?_) rfl (by kernel_rfl) (by kernel_rfl) (by kernel_rfl) (fun _ _ _ h => h) (Or.inl ⟨by rfl, ?_⟩) hHeld ?_
    rotate_left
    · intro W' hSw; (try dsimp only at hSw); go_simp; try (with_reducible rfl)
    (try simp only [Act.put, List.getElem_toArray, List.getElem_cons_zero, List.setIfInBounds_toArray, List.set_cons_zero, List.set_cons_succ])
    refine wpAnyH_take (i := 1) (v := ?_) rfl (by kernel_rfl) (by kernel_rfl) (by kernel_rfl) (fun _ _ _ h => h) (Or.inl ⟨by rfl, ?_⟩) hHeld ?_
    rotate_left
    · intro W' hSw; (try dsimp only at hSw); go_simp; try (with_reducible rfl)
    (try simp only [Act.put, List.getElem_toArray, List.getElem_cons_zero, List.getElem_cons_succ, List.setIfInBounds_toArray, List.set_cons_zero, List.set_cons_succ])
    refine wpAnyH_take (i := 2) (v := ?_) rfl (by kernel_rfl) (by kernel_rfl) (by kernel_rfl) (fun _ _ _ h => h) (Or.inl ⟨by rfl, ?_⟩) hHeld ?_
    rotate_left
    · intro W' hSw; (try dsimp only at hSw); go_simp; try (with_reducible rfl)
    (try simp only [Act.put, List.getElem_toArray, List.getElem_cons_zero, List.getElem_cons_succ, List.setIfInBounds_toArray, List.set_cons_zero, List.set_cons_succ])
    refine wpAnyH_take (i := 4) (v := ?_) rfl (by kernel_rfl) (by kernel_rfl) (by kernel_rfl) (fun _ _ _ h => h) (Or.inl ⟨by rfl, ?_⟩) hHeld ?_
    rotate_left
    · intro W' hSw; (try dsimp only at hSw); go_simp; try (with_reducible rfl)
    (try simp only [Act.put, List.getElem_toArray, List.getElem_cons_zero, List.getElem_cons_succ, List.setIfInBounds_toArray, List.set_cons_zero, List.set_cons_succ])
    refine wpAnyH_ready (rs := [3, 9]) (by kernel_rfl) (by simp) ?_
    refine AllReadyH.cons rfl (fun K hK => ?_) (AllReadyH.cons rfl (fun K hK => ?_) AllReadyH.nil)
    · go_simp
      refine Calls.mono (HM.out _) ?_
      rintro r u1 ⟨rfl, rfl⟩
      refine hK.out _ _ hHeld (fun _ => ?_)
      clear hK
      (try simp only [Act.put, List.getElem_toArray, List.getElem_cons_zero, List.getElem_cons_succ, List.setIfInBounds_toArray, List.set_cons_zero, List.set_cons_succ])
      refine wpAnyH_ready (rs := [5, 9]) (by kernel_rfl) (by simp) ?_
      refine AllReadyH.cons rfl (fun K hK => ?_) (AllReadyH.cons rfl (fun K hK => ?_) AllReadyH.nil)
      · go_simp
        refine Calls.mono (HR.out _ (HSU.out _ (bthen HQ.out.1 (bthen (Below.refl _ w1).drew hub)))) ?_
        rintro r u3 ⟨rfl, hb3⟩
        have hub3 := bthen hub hb3
        clear hb3
        refine hK.out _ _ (HSC.out _ (bthen (Below.refl _ w1).drew hub3)) (fun hHeld3 => ?_)
        clear hK
        (try simp only [Act.put, List.getElem_toArray, List.getElem_cons_zero, List.getElem_cons_succ, List.setIfInBounds_toArray, List.set_cons_zero, List.set_cons_succ])
        refine wpAnyH_take (i := 6) (v := ?_) rfl (by kernel_rfl) (by kernel_rfl) (by kernel_rfl) (fun _ _ _ h => h) (Or.inl ⟨by rfl, ?_⟩) hHeld3 ?_
        rotate_left
        · intro W' hSw; (try dsimp only at hSw); go_simp; try (with_reducible rfl)
        (try simp only [Act.put, List.getElem_toArray, List.getElem_cons_zero, List.getElem_cons_succ, List.setIfInBounds_toArray, List.set_cons_zero, List.set_cons_succ])
        refine wpAnyH_take (i := 7) (v := ?_) rfl (by kernel_rfl) (by kernel_rfl) (by kernel_rfl) (fun _ _ _ h => h) (Or.inl ⟨by rfl, ?_⟩) hHeld3 ?_
        rotate_left
        · intro W' hSw; (try dsimp only at hSw); go_simp; try (with_reducible rfl)
        (try simp only [Act.put, List.getElem_toArray, List.getElem_cons_zero, List.getElem_cons_succ, List.setIfInBounds_toArray, List.set_cons_zero, List.set_cons_succ])
        refine wpAnyH_take (i := 8) (v := ?_) rfl (by kernel_rfl) (by kernel_rfl) (by kernel_rfl) (fun _ _ _ h => h) (Or.inl ⟨by rfl, ?_⟩) hHeld3 ?_
        rotate_left
        · intro W' hSw; (try dsimp only at hSw); go_simp; try (with_reducible rfl)
        (try simp only [Act.put, List.getElem_toArray, List.getElem_cons_zero, List.getElem_cons_succ, List.setIfInBounds_toArray, List.set_cons_zero, List.set_cons_succ])
        refine wpAnyH_ready (rs := [9]) (by kernel_rfl) (by simp) ?_
        refine AllReadyH.cons rfl (fun K hK => ?_) AllReadyH.nil
        go_simp
        have hz3 := heap_alloc_new u3 (.cells #[.bool false, .int .u64 0, .string ⟨#[]⟩, .int .i64 0, .int .i64 0, .int .i64 0] 56)
        have hle3 : w1.heap.size ≤ u3.heap.size := hub3.size
        have hub3 := bthen hub3 (balloc (Below.refl _ _) (.cells #[.bool false, .int .u64 0, .string ⟨#[]⟩, .int .i64 0, .int .i64 0, .int .i64 0] 56))
        refine hK.out _ _ (HSC.out _ (bthen (Below.refl _ w1).drew hub3)) (fun hHeld4 => ?_)
        clear hK
        (try simp only [Act.put, List.getElem_toArray, List.getElem_cons_zero, List.getElem_cons_succ, List.setIfInBounds_toArray, List.set_cons_zero, List.set_cons_succ])
        refine wpAnyH_ready (rs := [10]) (by kernel_rfl) (by simp) ?_
        refine AllReadyH.cons rfl (fun K hK => ?_) AllReadyH.nil
        have hBw := bthen (Below.refl _ w1).drew hub3
        refine step_store_row rfl _ _ _ rfl _ #[.bool false, .int .u64 0, .string so, .int .i64 rd, .int .i64 st, .int .i64 dp] (by rfl) (by rfl) _ _ hz3 trace_info rfl (by simp [Value.oneCell']) ?_
        refine hK.out _ _ (HSC.out _ (below_setRow hBw hle3)) (fun hHeld5 => ?_)
        clear hK
        (try simp only [Act.put, List.getElem_toArray, List.getElem_cons_zero, List.getElem_cons_succ])
        refine wpAnyH_take (i := 11) (v := ?_) rfl (by kernel_rfl) (by kernel_rfl) (by kernel_rfl) (fun _ _ _ h => h) (Or.inl ⟨by rfl, ?_⟩) hHeld5 ?_
        rotate_left
        · intro W' hSw; (try dsimp only at hSw); go_simp; try (with_reducible rfl)
        (try simp only [Act.put, List.getElem_toArray, List.getElem_cons_zero, List.getElem_cons_succ, List.setIfInBounds_toArray, List.set_cons_zero, List.set_cons_succ])
        refine wpAnyH_done (by kernel_rfl) ?_ _
        go_wp2_with fail
        go_meet
        exact ⟨_, rfl, rfl, setRow_heap _ _ _ _ _ _ hz3, bthen HQ.out.1 (below_setRow hBw hle3)⟩
      · go_simp
        have hz := heap_alloc_new w1.drew (.cells #[.bool false, .int .u64 0, .string ⟨#[]⟩, .int .i64 0, .int .i64 0, .int .i64 0] 56)
        have hub := bthen hub (balloc (Below.refl _ _) (.cells #[.bool false, .int .u64 0, .string ⟨#[]⟩, .int .i64 0, .int .i64 0, .int .i64 0] 56))
        refine hK.out _ _ (HSC.out _ (bthen (Below.refl _ w1).drew hub)) (fun hHeld => ?_)
        clear hK
        (try simp only [Act.put, List.getElem_toArray, List.getElem_cons_zero, List.getElem_cons_succ, List.setIfInBounds_toArray, List.set_cons_zero, List.set_cons_succ])
        refine wpAnyH_ready (rs := [5]) (by kernel_rfl) (by simp) ?_
        refine AllReadyH.cons rfl (fun K hK => ?_) AllReadyH.nil
        go_simp
        refine Calls.mono (HR.out _ (HSU.out _ (bthen HQ.out.1 (bthen (Below.refl _ w1).drew hub)))) ?_
        rintro r u3 ⟨rfl, hb3⟩
        have hub3 := bthen hub hb3
        have hz3 := (hb3.block _ (Array.getElem?_eq_some_iff.1 hz).1).trans hz
        clear hb3
        refine hK.out _ _ (HSC.out _ (bthen (Below.refl _ w1).drew hub3)) (fun hHeld3 => ?_)
        clear hK
        (try simp only [Act.put, List.getElem_toArray, List.getElem_cons_zero, List.getElem_cons_succ, List.setIfInBounds_toArray, List.set_cons_zero, List.set_cons_succ])
        refine wpAnyH_take (i := 6) (v := ?_) rfl (by kernel_rfl) (by kernel_rfl) (by kernel_rfl) (fun _ _ _ h => h) (Or.inl ⟨by rfl, ?_⟩) hHeld3 ?_
        rotate_left
        · intro W' hSw; (try dsimp only at hSw); go_simp; try (with_reducible rfl)
        (try simp only [Act.put, List.getElem_toArray, List.getElem_cons_zero, List.getElem_cons_succ, List.setIfInBounds_toArray, List.set_cons_zero, List.set_cons_succ])
        refine wpAnyH_take (i := 7) (v := ?_) rfl (by kernel_rfl) (by kernel_rfl) (by kernel_rfl) (fun _ _ _ h => h) (Or.inl ⟨by rfl, ?_⟩) hHeld3 ?_
        rotate_left
        · intro W' hSw; (try dsimp only at hSw); go_simp; try (with_reducible rfl)
        (try simp only [Act.put, List.getElem_toArray, List.getElem_cons_zero, List.getElem_cons_succ, List.setIfInBounds_toArray, List.set_cons_zero, List.set_cons_succ])
        refine wpAnyH_take (i := 8) (v := ?_) rfl (by kernel_rfl) (by kernel_rfl) (by kernel_rfl) (fun _ _ _ h => h) (Or.inl ⟨by rfl, ?_⟩) hHeld3 ?_
        rotate_left
        · intro W' hSw; (try dsimp only at hSw); go_simp; try (with_reducible rfl)
        (try simp only [Act.put, List.getElem_toArray, List.getElem_cons_zero, List.getElem_cons_succ, List.setIfInBounds_toArray, List.set_cons_zero, List.set_cons_succ])
        refine wpAnyH_ready (rs := [10]) (by kernel_rfl) (by simp) ?_
        refine AllReadyH.cons rfl (fun K hK => ?_) AllReadyH.nil
        have hBw := bthen (Below.refl _ w1).drew hub3
        refine step_store_row rfl _ _ _ rfl _ #[.bool false, .int .u64 0, .string so, .int .i64 rd, .int .i64 st, .int .i64 dp] (by rfl) (by rfl) _ _ hz3 trace_info rfl (by simp [Value.oneCell']) ?_
        refine hK.out _ _ (HSC.out _ (below_setRow hBw (Nat.le_refl _))) (fun hHeld5 => ?_)
        clear hK
        (try simp only [Act.put, List.getElem_toArray, List.getElem_cons_zero, List.getElem_cons_succ])
        refine wpAnyH_take (i := 11) (v := ?_) rfl (by kernel_rfl) (by kernel_rfl) (by kernel_rfl) (fun _ _ _ h => h) (Or.inl ⟨by rfl, ?_⟩) hHeld5 ?_
        rotate_left
        · intro W' hSw; (try dsimp only at hSw); go_simp; try (with_reducible rfl)
        (try simp only [Act.put, List.getElem_toArray, List.getElem_cons_zero, List.getElem_cons_succ, List.setIfInBounds_toArray, List.set_cons_zero, List.set_cons_succ])
        refine wpAnyH_done (by kernel_rfl) ?_ _
        go_wp2_with fail
        go_meet
        exact ⟨_, rfl, rfl, setRow_heap _ _ _ _ _ _ hz3, bthen HQ.out.1 (below_setRow hBw (Nat.le_refl _))⟩
    · go_simp
      have hz := heap_alloc_new w1.drew (.cells #[.bool false, .int .u64 0, .string ⟨#[]⟩, .int .i64 0, .int .i64 0, .int .i64 0] 56)
      have hub := bthen hub (balloc (Below.refl _ _) (.cells #[.bool false, .int .u64 0, .string ⟨#[]⟩, .int .i64 0, .int .i64 0, .int .i64 0] 56))
      refine hK.out _ _ (HSC.out _ (bthen (Below.refl _ w1).drew hub)) (fun hHeld => ?_)
      clear hK
      (try simp only [Act.put, List.getElem_toArray, List.getElem_cons_zero, List.getElem_cons_succ, List.setIfInBounds_toArray, List.set_cons_zero, List.set_cons_succ])
      refine wpAnyH_ready (rs := [3]) (by kernel_rfl) (by simp) ?_
      refine AllReadyH.cons rfl (fun K hK => ?_) AllReadyH.nil
      go_simp
      refine Calls.mono (HM.out _) ?_
      rintro r u1 ⟨rfl, rfl⟩
      refine hK.out _ _ hHeld (fun _ => ?_)
      clear hK
      (try simp only [Act.put, List.getElem_toArray, List.getElem_cons_zero, List.getElem_cons_succ, List.setIfInBounds_toArray, List.set_cons_zero, List.set_cons_succ])
      refine wpAnyH_ready (rs := [5]) (by kernel_rfl) (by simp) ?_
      refine AllReadyH.cons rfl (fun K hK => ?_) AllReadyH.nil
      go_simp
      refine Calls.mono (HR.out _ (HSU.out _ (bthen HQ.out.1 (bthen (Below.refl _ w1).drew hub)))) ?_
      rintro r u3 ⟨rfl, hb3⟩
      have hub3 := bthen hub hb3
      have hz3 := (hb3.block _ (Array.getElem?_eq_some_iff.1 hz).1).trans hz
      clear hb3
      refine hK.out _ _ (HSC.out _ (bthen (Below.refl _ w1).drew hub3)) (fun hHeld3 => ?_)
      clear hK
      (try simp only [Act.put, List.getElem_toArray, List.getElem_cons_zero, List.getElem_cons_succ, List.setIfInBounds_toArray, List.set_cons_zero, List.set_cons_succ])
      refine wpAnyH_take (i := 6) (v := ?_) rfl (by kernel_rfl) (by kernel_rfl) (by kernel_rfl) (fun _ _ _ h => h) (Or.inl ⟨by rfl, ?_⟩) hHeld3 ?_
      rotate_left
      · intro W' hSw; (try dsimp only at hSw); go_simp; try (with_reducible rfl)
      (try simp only [Act.put, List.getElem_toArray, List.getElem_cons_zero, List.getElem_cons_succ, List.setIfInBounds_toArray, List.set_cons_zero, List.set_cons_succ])
      refine wpAnyH_take (i := 7) (v := ?_) rfl (by kernel_rfl) (by kernel_rfl) (by kernel_rfl) (fun _ _ _ h => h) (Or.inl ⟨by rfl, ?_⟩) hHeld3 ?_
      rotate_left
      · intro W' hSw; (try dsimp only at hSw); go_simp; try (with_reducible rfl)
      (try simp only [Act.put, List.getElem_toArray, List.getElem_cons_zero, List.getElem_cons_succ, List.setIfInBounds_toArray, List.set_cons_zero, List.set_cons_succ])
      refine wpAnyH_take (i := 8) (v := ?_) rfl (by kernel_rfl) (by kernel_rfl) (by kernel_rfl) (fun _ _ _ h => h) (Or.inl ⟨by rfl, ?_⟩) hHeld3 ?_
      rotate_left
      · intro W' hSw; (try dsimp only at hSw); go_simp; try (with_reducible rfl)
      (try simp only [Act.put, List.getElem_toArray, List.getElem_cons_zero, List.getElem_cons_succ, List.setIfInBounds_toArray, List.set_cons_zero, List.set_cons_succ])
      refine wpAnyH_ready (rs := [10]) (by kernel_rfl) (by simp) ?_
      refine AllReadyH.cons rfl (fun K hK => ?_) AllReadyH.nil
      have hBw := bthen (Below.refl _ w1).drew hub3
      refine step_store_row rfl _ _ _ rfl _ #[.bool false, .int .u64 0, .string so, .int .i64 rd, .int .i64 st, .int .i64 dp] (by rfl) (by rfl) _ _ hz3 trace_info rfl (by simp [Value.oneCell']) ?_
      refine hK.out _ _ (HSC.out _ (below_setRow hBw (Nat.le_refl _))) (fun hHeld5 => ?_)
      clear hK
      (try simp only [Act.put, List.getElem_toArray, List.getElem_cons_zero, List.getElem_cons_succ])
      refine wpAnyH_take (i := 11) (v := ?_) rfl (by kernel_rfl) (by kernel_rfl) (by kernel_rfl) (fun _ _ _ h => h) (Or.inl ⟨by rfl, ?_⟩) hHeld5 ?_
      rotate_left
      · intro W' hSw; (try dsimp only at hSw); go_simp; try (with_reducible rfl)
      (try simp only [Act.put, List.getElem_toArray, List.getElem_cons_zero, List.getElem_cons_succ, List.setIfInBounds_toArray, List.set_cons_zero, List.set_cons_succ])
      refine wpAnyH_done (by kernel_rfl) ?_ _
      go_wp2_with fail
      go_meet
      exact ⟨_, rfl, rfl, setRow_heap _ _ _ _ _ _ hz3, bthen HQ.out.1 (below_setRow hBw (Nat.le_refl _))⟩
  case rest =>
    obtain ⟨B, rfl, rfl, hB, hb⟩ := hcut
    have c0 := Lib.cell_of_heap hB 0
    have c1 := Lib.cell_of_heap hB 1
    have c2 := Lib.cell_of_heap hB 2
    have c3 := Lib.cell_of_heap hB 3
    have c4 := Lib.cell_of_heap hB 4
    have c5 := Lib.cell_of_heap hB 5
    simp only [List.getElem?_toArray, List.getElem?_cons_zero, List.getElem?_cons_succ] at c0 c1 c2 c3 c4 c5
    have HBL := Lib.hid hb
    clear hB hb
    obtain ⟨h1, h2, h3, h4, h5⟩ := h
    have d1 : decide (rd ≤ inp.size) = true := by simpa using h1
    have d2 : decide ((st : Int) ≤ fuel) = true := by simpa using h2
    have d3 : decide (1 ≤ dp) = true := by simpa using h3
    have d4 : decide ((dp : Int) ≤ deep) = true := by simpa using h4
    have d5 : decide (so.size ≤ st) = true := by simpa using h5
    go_wp2_with fail
    go_ret
    exact ⟨rfl, HBL.out⟩
set_option maxRecDepth 100000 in
set_option maxHeartbeats 4000000 in
theorem counts_deep (m : Md) (inp : ByteArray) (fuel deep k : Int) (F G : Option Addr) (nf cf ng cg : Nat) (w : World) (hS : MdAt w (.slice F nf cf) (.slice G ng cg) m) (so : ByteArray) (rd st dp : Nat) (h : rd ≤ inp.size ∧ (st : Int) ≤ fuel ∧ 1 ≤ dp ∧ (dp : Int) ≤ deep ∧ so.size ≤ st) (hk : mostE fuel = k)
    (hR : ∀ W, MdAt W (.slice F nf cf) (.slice G ng cg) m → Calls Try.prog 32 #[.agg #[.slice F nf cf, .slice G ng cg], .string inp, .int .i64 k, .int .i64 deep] W fun e w' => e = .returned (.tuple #[.agg #[.bool false, .int .u64 0, .string so, .int .i64 rd, .int .i64 st, .int .i64 dp], .int .i64 13]) ∧ Below W.heap.size W w') :
    Calls Try.prog 11 #[.agg #[.slice F nf cf, .slice G ng cg, .string inp, .int .i64 fuel, .int .i64 deep]] w fun e w' => e = .returned (.bool true) ∧ Below w.heap.size w w' := by
  have HR := Lib.hid hR
  have HM := Lib.hid (fun W => most_any fuel W)
  rw [hk] at HM
  have HSU := Lib.hid (fun (U : World) (hb : Below w.heap.size w U) => hS.next hb)
  have HW := Lib.hid (fun (W : World) (hW : W = (w.alloc (.cells #[.slice F nf cf, .slice G ng cg, .string inp, .int .i64 fuel, .int .i64 deep] 71)).alloc (.cells #[.slice F nf cf, .slice G ng cg] 47)) => (show Below w.heap.size w W ∧ W.heap[w.heap.size + 1]? = some (.cells #[.slice F nf cf, .slice G ng cg] 47 (0, 0)) from by
    subst hW
    have e := heap_alloc_new (w.alloc (.cells #[.slice F nf cf, .slice G ng cg, .string inp, .int .i64 fuel, .int .i64 deep] 71)) (.cells #[.slice F nf cf, .slice G ng cg] 47)
    rw [World.size_alloc] at e
    exact ⟨balloc (balloc (Below.refl _ w) _) _, e⟩))
  clear hR hk hS
  go_enter Try.func11, Try.ntmps11
  go_wp2_with fail
  obtain ⟨W, hW⟩ : ∃ W, W = (w.alloc (.cells #[.slice F nf cf, .slice G ng cg, .string inp, .int .i64 fuel, .int .i64 deep] 71)).alloc (.cells #[.slice F nf cf, .slice G ng cg] 47) := ⟨_, rfl⟩
  obtain ⟨hb0, hh0⟩ := HW.out W hW
  rw [← hW]
  clear hW HW
  refine (vshown_any W).mono ?_
  rintro r w1 ⟨rfl, hb⟩
  have HB := Lib.hid (show Below w.heap.size w w1 ∧ w1.heap[w.heap.size + 1]? = some (.cells #[.slice F nf cf, .slice G ng cg] 47 (0, 0)) from ⟨bthen hb0 hb, (hb.block _ (Array.getElem?_eq_some_iff.1 hh0).1).trans hh0⟩)
  have HSC := Lib.hid (fun (U : World) (hU : Below w1.heap.size w1 U) => (show U.cell? ⟨w.heap.size + 1, 0, none⟩ = some (.slice F nf cf) ∧ U.cell? ⟨w.heap.size + 1, 1, none⟩ = some (.slice G ng cg) from by
    have h := (hU.block _ (Array.getElem?_eq_some_iff.1 HB.out.2).1).trans HB.out.2
    exact ⟨Lib.cell_of_heap h 0, Lib.cell_of_heap h 1⟩))
  clear hb0 hh0 hb
  have c0 := (HSC.out w1 (Below.refl _ w1)).1
  have c1 := (HSC.out w1 (Below.refl _ w1)).2
  go_upto_region 6 with fail
  go_cut [8, 9] from 19 to 27 (fun v8 v9 wx => ∃ B, v8 = .pointer (some ⟨B, 0, none⟩) ∧ v9 = .int .i64 13 ∧ wx.heap[B]? = some (.cells #[.bool false, .int .u64 0, .string so, .int .i64 rd, .int .i64 st, .int .i64 dp] 56 (0, 0)) ∧ Below w.heap.size w wx)
  case first =>
    have HQ := Lib.hid HB.out
    refine wp_region_held_drew (S := (fun U => U.cell? ⟨w.heap.size + 1, 0, none⟩ = some (.slice F nf cf) ∧ U.cell? ⟨w.heap.size + 1, 1, none⟩ = some (.slice G ng cg))) (by kernel_rfl) (HSC.out _ (Below.refl _ w1).drew) (fun hHeld => ?_)
    have hub := Below.refl w1.drew.heap.size w1.drew
    refine wpAnyH_take (i := 0) (v := ?_) rfl (by kernel_rfl) (by kernel_rfl) (by kernel_rfl) (fun _ _ _ h => h) (Or.inl ⟨by rfl, ?_⟩) hHeld ?_
    rotate_left
    · intro W' hSw; (try dsimp only at hSw); go_simp; try (with_reducible rfl)
    (try simp only [Act.put, List.getElem_toArray, List.getElem_cons_zero, List.setIfInBounds_toArray, List.set_cons_zero, List.set_cons_succ])
    refine wpAnyH_take (i := 1) (v := ?_) rfl (by kernel_rfl) (by kernel_rfl) (by kernel_rfl) (fun _ _ _ h => h) (Or.inl ⟨by rfl, ?_⟩) hHeld ?_
    rotate_left
    · intro W' hSw; (try dsimp only at hSw); go_simp; try (with_reducible rfl)
    (try simp only [Act.put, List.getElem_toArray, List.getElem_cons_zero, List.getElem_cons_succ, List.setIfInBounds_toArray, List.set_cons_zero, List.set_cons_succ])
    refine wpAnyH_take (i := 2) (v := ?_) rfl (by kernel_rfl) (by kernel_rfl) (by kernel_rfl) (fun _ _ _ h => h) (Or.inl ⟨by rfl, ?_⟩) hHeld ?_
    rotate_left
    · intro W' hSw; (try dsimp only at hSw); go_simp; try (with_reducible rfl)
    (try simp only [Act.put, List.getElem_toArray, List.getElem_cons_zero, List.getElem_cons_succ, List.setIfInBounds_toArray, List.set_cons_zero, List.set_cons_succ])
    refine wpAnyH_take (i := 4) (v := ?_) rfl (by kernel_rfl) (by kernel_rfl) (by kernel_rfl) (fun _ _ _ h => h) (Or.inl ⟨by rfl, ?_⟩) hHeld ?_
    rotate_left
    · intro W' hSw; (try dsimp only at hSw); go_simp; try (with_reducible rfl)
    (try simp only [Act.put, List.getElem_toArray, List.getElem_cons_zero, List.getElem_cons_succ, List.setIfInBounds_toArray, List.set_cons_zero, List.set_cons_succ])
    refine wpAnyH_ready (rs := [3, 9]) (by kernel_rfl) (by simp) ?_
    refine AllReadyH.cons rfl (fun K hK => ?_) (AllReadyH.cons rfl (fun K hK => ?_) AllReadyH.nil)
    · go_simp
      refine Calls.mono (HM.out _) ?_
      rintro r u1 ⟨rfl, rfl⟩
      refine hK.out _ _ hHeld (fun _ => ?_)
      clear hK
      (try simp only [Act.put, List.getElem_toArray, List.getElem_cons_zero, List.getElem_cons_succ, List.setIfInBounds_toArray, List.set_cons_zero, List.set_cons_succ])
      refine wpAnyH_ready (rs := [5, 9]) (by kernel_rfl) (by simp) ?_
      refine AllReadyH.cons rfl (fun K hK => ?_) (AllReadyH.cons rfl (fun K hK => ?_) AllReadyH.nil)
      · go_simp
        refine Calls.mono (HR.out _ (HSU.out _ (bthen HQ.out.1 (bthen (Below.refl _ w1).drew hub)))) ?_
        rintro r u3 ⟨rfl, hb3⟩
        have hub3 := bthen hub hb3
        clear hb3
        refine hK.out _ _ (HSC.out _ (bthen (Below.refl _ w1).drew hub3)) (fun hHeld3 => ?_)
        clear hK
        (try simp only [Act.put, List.getElem_toArray, List.getElem_cons_zero, List.getElem_cons_succ, List.setIfInBounds_toArray, List.set_cons_zero, List.set_cons_succ])
        refine wpAnyH_take (i := 6) (v := ?_) rfl (by kernel_rfl) (by kernel_rfl) (by kernel_rfl) (fun _ _ _ h => h) (Or.inl ⟨by rfl, ?_⟩) hHeld3 ?_
        rotate_left
        · intro W' hSw; (try dsimp only at hSw); go_simp; try (with_reducible rfl)
        (try simp only [Act.put, List.getElem_toArray, List.getElem_cons_zero, List.getElem_cons_succ, List.setIfInBounds_toArray, List.set_cons_zero, List.set_cons_succ])
        refine wpAnyH_take (i := 7) (v := ?_) rfl (by kernel_rfl) (by kernel_rfl) (by kernel_rfl) (fun _ _ _ h => h) (Or.inl ⟨by rfl, ?_⟩) hHeld3 ?_
        rotate_left
        · intro W' hSw; (try dsimp only at hSw); go_simp; try (with_reducible rfl)
        (try simp only [Act.put, List.getElem_toArray, List.getElem_cons_zero, List.getElem_cons_succ, List.setIfInBounds_toArray, List.set_cons_zero, List.set_cons_succ])
        refine wpAnyH_take (i := 8) (v := ?_) rfl (by kernel_rfl) (by kernel_rfl) (by kernel_rfl) (fun _ _ _ h => h) (Or.inl ⟨by rfl, ?_⟩) hHeld3 ?_
        rotate_left
        · intro W' hSw; (try dsimp only at hSw); go_simp; try (with_reducible rfl)
        (try simp only [Act.put, List.getElem_toArray, List.getElem_cons_zero, List.getElem_cons_succ, List.setIfInBounds_toArray, List.set_cons_zero, List.set_cons_succ])
        refine wpAnyH_ready (rs := [9]) (by kernel_rfl) (by simp) ?_
        refine AllReadyH.cons rfl (fun K hK => ?_) AllReadyH.nil
        go_simp
        have hz3 := heap_alloc_new u3 (.cells #[.bool false, .int .u64 0, .string ⟨#[]⟩, .int .i64 0, .int .i64 0, .int .i64 0] 56)
        have hle3 : w1.heap.size ≤ u3.heap.size := hub3.size
        have hub3 := bthen hub3 (balloc (Below.refl _ _) (.cells #[.bool false, .int .u64 0, .string ⟨#[]⟩, .int .i64 0, .int .i64 0, .int .i64 0] 56))
        refine hK.out _ _ (HSC.out _ (bthen (Below.refl _ w1).drew hub3)) (fun hHeld4 => ?_)
        clear hK
        (try simp only [Act.put, List.getElem_toArray, List.getElem_cons_zero, List.getElem_cons_succ, List.setIfInBounds_toArray, List.set_cons_zero, List.set_cons_succ])
        refine wpAnyH_ready (rs := [10]) (by kernel_rfl) (by simp) ?_
        refine AllReadyH.cons rfl (fun K hK => ?_) AllReadyH.nil
        have hBw := bthen (Below.refl _ w1).drew hub3
        refine step_store_row rfl _ _ _ rfl _ #[.bool false, .int .u64 0, .string so, .int .i64 rd, .int .i64 st, .int .i64 dp] (by rfl) (by rfl) _ _ hz3 trace_info rfl (by simp [Value.oneCell']) ?_
        refine hK.out _ _ (HSC.out _ (below_setRow hBw hle3)) (fun hHeld5 => ?_)
        clear hK
        (try simp only [Act.put, List.getElem_toArray, List.getElem_cons_zero, List.getElem_cons_succ])
        refine wpAnyH_take (i := 11) (v := ?_) rfl (by kernel_rfl) (by kernel_rfl) (by kernel_rfl) (fun _ _ _ h => h) (Or.inl ⟨by rfl, ?_⟩) hHeld5 ?_
        rotate_left
        · intro W' hSw; (try dsimp only at hSw); go_simp; try (with_reducible rfl)
        (try simp only [Act.put, List.getElem_toArray, List.getElem_cons_zero, List.getElem_cons_succ, List.setIfInBounds_toArray, List.set_cons_zero, List.set_cons_succ])
        refine wpAnyH_done (by kernel_rfl) ?_ _
        go_wp2_with fail
        go_meet
        exact ⟨_, rfl, rfl, setRow_heap _ _ _ _ _ _ hz3, bthen HQ.out.1 (below_setRow hBw hle3)⟩
      · go_simp
        have hz := heap_alloc_new w1.drew (.cells #[.bool false, .int .u64 0, .string ⟨#[]⟩, .int .i64 0, .int .i64 0, .int .i64 0] 56)
        have hub := bthen hub (balloc (Below.refl _ _) (.cells #[.bool false, .int .u64 0, .string ⟨#[]⟩, .int .i64 0, .int .i64 0, .int .i64 0] 56))
        refine hK.out _ _ (HSC.out _ (bthen (Below.refl _ w1).drew hub)) (fun hHeld => ?_)
        clear hK
        (try simp only [Act.put, List.getElem_toArray, List.getElem_cons_zero, List.getElem_cons_succ, List.setIfInBounds_toArray, List.set_cons_zero, List.set_cons_succ])
        refine wpAnyH_ready (rs := [5]) (by kernel_rfl) (by simp) ?_
        refine AllReadyH.cons rfl (fun K hK => ?_) AllReadyH.nil
        go_simp
        refine Calls.mono (HR.out _ (HSU.out _ (bthen HQ.out.1 (bthen (Below.refl _ w1).drew hub)))) ?_
        rintro r u3 ⟨rfl, hb3⟩
        have hub3 := bthen hub hb3
        have hz3 := (hb3.block _ (Array.getElem?_eq_some_iff.1 hz).1).trans hz
        clear hb3
        refine hK.out _ _ (HSC.out _ (bthen (Below.refl _ w1).drew hub3)) (fun hHeld3 => ?_)
        clear hK
        (try simp only [Act.put, List.getElem_toArray, List.getElem_cons_zero, List.getElem_cons_succ, List.setIfInBounds_toArray, List.set_cons_zero, List.set_cons_succ])
        refine wpAnyH_take (i := 6) (v := ?_) rfl (by kernel_rfl) (by kernel_rfl) (by kernel_rfl) (fun _ _ _ h => h) (Or.inl ⟨by rfl, ?_⟩) hHeld3 ?_
        rotate_left
        · intro W' hSw; (try dsimp only at hSw); go_simp; try (with_reducible rfl)
        (try simp only [Act.put, List.getElem_toArray, List.getElem_cons_zero, List.getElem_cons_succ, List.setIfInBounds_toArray, List.set_cons_zero, List.set_cons_succ])
        refine wpAnyH_take (i := 7) (v := ?_) rfl (by kernel_rfl) (by kernel_rfl) (by kernel_rfl) (fun _ _ _ h => h) (Or.inl ⟨by rfl, ?_⟩) hHeld3 ?_
        rotate_left
        · intro W' hSw; (try dsimp only at hSw); go_simp; try (with_reducible rfl)
        (try simp only [Act.put, List.getElem_toArray, List.getElem_cons_zero, List.getElem_cons_succ, List.setIfInBounds_toArray, List.set_cons_zero, List.set_cons_succ])
        refine wpAnyH_take (i := 8) (v := ?_) rfl (by kernel_rfl) (by kernel_rfl) (by kernel_rfl) (fun _ _ _ h => h) (Or.inl ⟨by rfl, ?_⟩) hHeld3 ?_
        rotate_left
        · intro W' hSw; (try dsimp only at hSw); go_simp; try (with_reducible rfl)
        (try simp only [Act.put, List.getElem_toArray, List.getElem_cons_zero, List.getElem_cons_succ, List.setIfInBounds_toArray, List.set_cons_zero, List.set_cons_succ])
        refine wpAnyH_ready (rs := [10]) (by kernel_rfl) (by simp) ?_
        refine AllReadyH.cons rfl (fun K hK => ?_) AllReadyH.nil
        have hBw := bthen (Below.refl _ w1).drew hub3
        refine step_store_row rfl _ _ _ rfl _ #[.bool false, .int .u64 0, .string so, .int .i64 rd, .int .i64 st, .int .i64 dp] (by rfl) (by rfl) _ _ hz3 trace_info rfl (by simp [Value.oneCell']) ?_
        refine hK.out _ _ (HSC.out _ (below_setRow hBw (Nat.le_refl _))) (fun hHeld5 => ?_)
        clear hK
        (try simp only [Act.put, List.getElem_toArray, List.getElem_cons_zero, List.getElem_cons_succ])
        refine wpAnyH_take (i := 11) (v := ?_) rfl (by kernel_rfl) (by kernel_rfl) (by kernel_rfl) (fun _ _ _ h => h) (Or.inl ⟨by rfl, ?_⟩) hHeld5 ?_
        rotate_left
        · intro W' hSw; (try dsimp only at hSw); go_simp; try (with_reducible rfl)
        (try simp only [Act.put, List.getElem_toArray, List.getElem_cons_zero, List.getElem_cons_succ, List.setIfInBounds_toArray, List.set_cons_zero, List.set_cons_succ])
        refine wpAnyH_done (by kernel_rfl) ?_ _
        go_wp2_with fail
        go_meet
        exact ⟨_, rfl, rfl, setRow_heap _ _ _ _ _ _ hz3, bthen HQ.out.1 (below_setRow hBw (Nat.le_refl _))⟩
    · go_simp
      have hz := heap_alloc_new w1.drew (.cells #[.bool false, .int .u64 0, .string ⟨#[]⟩, .int .i64 0, .int .i64 0, .int .i64 0] 56)
      have hub := bthen hub (balloc (Below.refl _ _) (.cells #[.bool false, .int .u64 0, .string ⟨#[]⟩, .int .i64 0, .int .i64 0, .int .i64 0] 56))
      refine hK.out _ _ (HSC.out _ (bthen (Below.refl _ w1).drew hub)) (fun hHeld => ?_)
      clear hK
      (try simp only [Act.put, List.getElem_toArray, List.getElem_cons_zero, List.getElem_cons_succ, List.setIfInBounds_toArray, List.set_cons_zero, List.set_cons_succ])
      refine wpAnyH_ready (rs := [3]) (by kernel_rfl) (by simp) ?_
      refine AllReadyH.cons rfl (fun K hK => ?_) AllReadyH.nil
      go_simp
      refine Calls.mono (HM.out _) ?_
      rintro r u1 ⟨rfl, rfl⟩
      refine hK.out _ _ hHeld (fun _ => ?_)
      clear hK
      (try simp only [Act.put, List.getElem_toArray, List.getElem_cons_zero, List.getElem_cons_succ, List.setIfInBounds_toArray, List.set_cons_zero, List.set_cons_succ])
      refine wpAnyH_ready (rs := [5]) (by kernel_rfl) (by simp) ?_
      refine AllReadyH.cons rfl (fun K hK => ?_) AllReadyH.nil
      go_simp
      refine Calls.mono (HR.out _ (HSU.out _ (bthen HQ.out.1 (bthen (Below.refl _ w1).drew hub)))) ?_
      rintro r u3 ⟨rfl, hb3⟩
      have hub3 := bthen hub hb3
      have hz3 := (hb3.block _ (Array.getElem?_eq_some_iff.1 hz).1).trans hz
      clear hb3
      refine hK.out _ _ (HSC.out _ (bthen (Below.refl _ w1).drew hub3)) (fun hHeld3 => ?_)
      clear hK
      (try simp only [Act.put, List.getElem_toArray, List.getElem_cons_zero, List.getElem_cons_succ, List.setIfInBounds_toArray, List.set_cons_zero, List.set_cons_succ])
      refine wpAnyH_take (i := 6) (v := ?_) rfl (by kernel_rfl) (by kernel_rfl) (by kernel_rfl) (fun _ _ _ h => h) (Or.inl ⟨by rfl, ?_⟩) hHeld3 ?_
      rotate_left
      · intro W' hSw; (try dsimp only at hSw); go_simp; try (with_reducible rfl)
      (try simp only [Act.put, List.getElem_toArray, List.getElem_cons_zero, List.getElem_cons_succ, List.setIfInBounds_toArray, List.set_cons_zero, List.set_cons_succ])
      refine wpAnyH_take (i := 7) (v := ?_) rfl (by kernel_rfl) (by kernel_rfl) (by kernel_rfl) (fun _ _ _ h => h) (Or.inl ⟨by rfl, ?_⟩) hHeld3 ?_
      rotate_left
      · intro W' hSw; (try dsimp only at hSw); go_simp; try (with_reducible rfl)
      (try simp only [Act.put, List.getElem_toArray, List.getElem_cons_zero, List.getElem_cons_succ, List.setIfInBounds_toArray, List.set_cons_zero, List.set_cons_succ])
      refine wpAnyH_take (i := 8) (v := ?_) rfl (by kernel_rfl) (by kernel_rfl) (by kernel_rfl) (fun _ _ _ h => h) (Or.inl ⟨by rfl, ?_⟩) hHeld3 ?_
      rotate_left
      · intro W' hSw; (try dsimp only at hSw); go_simp; try (with_reducible rfl)
      (try simp only [Act.put, List.getElem_toArray, List.getElem_cons_zero, List.getElem_cons_succ, List.setIfInBounds_toArray, List.set_cons_zero, List.set_cons_succ])
      refine wpAnyH_ready (rs := [10]) (by kernel_rfl) (by simp) ?_
      refine AllReadyH.cons rfl (fun K hK => ?_) AllReadyH.nil
      have hBw := bthen (Below.refl _ w1).drew hub3
      refine step_store_row rfl _ _ _ rfl _ #[.bool false, .int .u64 0, .string so, .int .i64 rd, .int .i64 st, .int .i64 dp] (by rfl) (by rfl) _ _ hz3 trace_info rfl (by simp [Value.oneCell']) ?_
      refine hK.out _ _ (HSC.out _ (below_setRow hBw (Nat.le_refl _))) (fun hHeld5 => ?_)
      clear hK
      (try simp only [Act.put, List.getElem_toArray, List.getElem_cons_zero, List.getElem_cons_succ])
      refine wpAnyH_take (i := 11) (v := ?_) rfl (by kernel_rfl) (by kernel_rfl) (by kernel_rfl) (fun _ _ _ h => h) (Or.inl ⟨by rfl, ?_⟩) hHeld5 ?_
      rotate_left
      · intro W' hSw; (try dsimp only at hSw); go_simp; try (with_reducible rfl)
      (try simp only [Act.put, List.getElem_toArray, List.getElem_cons_zero, List.getElem_cons_succ, List.setIfInBounds_toArray, List.set_cons_zero, List.set_cons_succ])
      refine wpAnyH_done (by kernel_rfl) ?_ _
      go_wp2_with fail
      go_meet
      exact ⟨_, rfl, rfl, setRow_heap _ _ _ _ _ _ hz3, bthen HQ.out.1 (below_setRow hBw (Nat.le_refl _))⟩
  case rest =>
    obtain ⟨B, rfl, rfl, hB, hb⟩ := hcut
    have c0 := Lib.cell_of_heap hB 0
    have c1 := Lib.cell_of_heap hB 1
    have c2 := Lib.cell_of_heap hB 2
    have c3 := Lib.cell_of_heap hB 3
    have c4 := Lib.cell_of_heap hB 4
    have c5 := Lib.cell_of_heap hB 5
    simp only [List.getElem?_toArray, List.getElem?_cons_zero, List.getElem?_cons_succ] at c0 c1 c2 c3 c4 c5
    have HBL := Lib.hid hb
    clear hB hb
    obtain ⟨h1, h2, h3, h4, h5⟩ := h
    have d1 : decide (rd ≤ inp.size) = true := by simpa using h1
    have d2 : decide ((st : Int) ≤ fuel) = true := by simpa using h2
    have d3 : decide (1 ≤ dp) = true := by simpa using h3
    have d4 : decide ((dp : Int) ≤ deep) = true := by simpa using h4
    have d5 : decide (so.size ≤ st) = true := by simpa using h5
    go_wp2_with fail
    go_ret
    exact ⟨rfl, HBL.out⟩
set_option maxRecDepth 100000 in
set_option maxHeartbeats 4000000 in
theorem counts_bad (m : Md) (inp : ByteArray) (fuel deep k : Int) (F G : Option Addr) (nf cf ng cg : Nat) (w : World) (hS : MdAt w (.slice F nf cf) (.slice G ng cg) m) (x : Int) (h : x ≠ 0 ∧ x ≠ 12 ∧ x ≠ 13) (hk : mostE fuel = k)
    (hR : ∀ W, MdAt W (.slice F nf cf) (.slice G ng cg) m → Calls Try.prog 32 #[.agg #[.slice F nf cf, .slice G ng cg], .string inp, .int .i64 k, .int .i64 deep] W fun e w' => e = .returned (.tuple #[.agg #[.bool false, .int .u64 0, .string ⟨#[]⟩, .int .i64 0, .int .i64 0, .int .i64 0], .int .i64 x]) ∧ Below W.heap.size W w') :
    Calls Try.prog 11 #[.agg #[.slice F nf cf, .slice G ng cg, .string inp, .int .i64 fuel, .int .i64 deep]] w fun e w' => e = .returned (.bool true) ∧ Below w.heap.size w w' := by
  have HR := Lib.hid hR
  have HM := Lib.hid (fun W => most_any fuel W)
  rw [hk] at HM
  have HSU := Lib.hid (fun (U : World) (hb : Below w.heap.size w U) => hS.next hb)
  have HW := Lib.hid (fun (W : World) (hW : W = (w.alloc (.cells #[.slice F nf cf, .slice G ng cg, .string inp, .int .i64 fuel, .int .i64 deep] 71)).alloc (.cells #[.slice F nf cf, .slice G ng cg] 47)) => (show Below w.heap.size w W ∧ W.heap[w.heap.size + 1]? = some (.cells #[.slice F nf cf, .slice G ng cg] 47 (0, 0)) from by
    subst hW
    have e := heap_alloc_new (w.alloc (.cells #[.slice F nf cf, .slice G ng cg, .string inp, .int .i64 fuel, .int .i64 deep] 71)) (.cells #[.slice F nf cf, .slice G ng cg] 47)
    rw [World.size_alloc] at e
    exact ⟨balloc (balloc (Below.refl _ w) _) _, e⟩))
  clear hR hk hS
  go_enter Try.func11, Try.ntmps11
  go_wp2_with fail
  obtain ⟨W, hW⟩ : ∃ W, W = (w.alloc (.cells #[.slice F nf cf, .slice G ng cg, .string inp, .int .i64 fuel, .int .i64 deep] 71)).alloc (.cells #[.slice F nf cf, .slice G ng cg] 47) := ⟨_, rfl⟩
  obtain ⟨hb0, hh0⟩ := HW.out W hW
  rw [← hW]
  clear hW HW
  refine (vshown_any W).mono ?_
  rintro r w1 ⟨rfl, hb⟩
  have HB := Lib.hid (show Below w.heap.size w w1 ∧ w1.heap[w.heap.size + 1]? = some (.cells #[.slice F nf cf, .slice G ng cg] 47 (0, 0)) from ⟨bthen hb0 hb, (hb.block _ (Array.getElem?_eq_some_iff.1 hh0).1).trans hh0⟩)
  have HSC := Lib.hid (fun (U : World) (hU : Below w1.heap.size w1 U) => (show U.cell? ⟨w.heap.size + 1, 0, none⟩ = some (.slice F nf cf) ∧ U.cell? ⟨w.heap.size + 1, 1, none⟩ = some (.slice G ng cg) from by
    have h := (hU.block _ (Array.getElem?_eq_some_iff.1 HB.out.2).1).trans HB.out.2
    exact ⟨Lib.cell_of_heap h 0, Lib.cell_of_heap h 1⟩))
  clear hb0 hh0 hb
  have c0 := (HSC.out w1 (Below.refl _ w1)).1
  have c1 := (HSC.out w1 (Below.refl _ w1)).2
  go_upto_region 6 with fail
  go_cut [8, 9] from 19 to 27 (fun v8 v9 wx => ∃ B, v8 = .pointer (some ⟨B, 0, none⟩) ∧ v9 = .int .i64 x ∧ wx.heap[B]? = some (.cells #[.bool false, .int .u64 0, .string ⟨#[]⟩, .int .i64 0, .int .i64 0, .int .i64 0] 56 (0, 0)) ∧ Below w.heap.size w wx)
  case first =>
    have HQ := Lib.hid HB.out
    refine wp_region_held_drew (S := (fun U => U.cell? ⟨w.heap.size + 1, 0, none⟩ = some (.slice F nf cf) ∧ U.cell? ⟨w.heap.size + 1, 1, none⟩ = some (.slice G ng cg))) (by kernel_rfl) (HSC.out _ (Below.refl _ w1).drew) (fun hHeld => ?_)
    have hub := Below.refl w1.drew.heap.size w1.drew
    refine wpAnyH_take (i := 0) (v := ?_) rfl (by kernel_rfl) (by kernel_rfl) (by kernel_rfl) (fun _ _ _ h => h) (Or.inl ⟨by rfl, ?_⟩) hHeld ?_
    rotate_left
    · intro W' hSw; (try dsimp only at hSw); go_simp; try (with_reducible rfl)
    (try simp only [Act.put, List.getElem_toArray, List.getElem_cons_zero, List.setIfInBounds_toArray, List.set_cons_zero, List.set_cons_succ])
    refine wpAnyH_take (i := 1) (v := ?_) rfl (by kernel_rfl) (by kernel_rfl) (by kernel_rfl) (fun _ _ _ h => h) (Or.inl ⟨by rfl, ?_⟩) hHeld ?_
    rotate_left
    · intro W' hSw; (try dsimp only at hSw); go_simp; try (with_reducible rfl)
    (try simp only [Act.put, List.getElem_toArray, List.getElem_cons_zero, List.getElem_cons_succ, List.setIfInBounds_toArray, List.set_cons_zero, List.set_cons_succ])
    refine wpAnyH_take (i := 2) (v := ?_) rfl (by kernel_rfl) (by kernel_rfl) (by kernel_rfl) (fun _ _ _ h => h) (Or.inl ⟨by rfl, ?_⟩) hHeld ?_
    rotate_left
    · intro W' hSw; (try dsimp only at hSw); go_simp; try (with_reducible rfl)
    (try simp only [Act.put, List.getElem_toArray, List.getElem_cons_zero, List.getElem_cons_succ, List.setIfInBounds_toArray, List.set_cons_zero, List.set_cons_succ])
    refine wpAnyH_take (i := 4) (v := ?_) rfl (by kernel_rfl) (by kernel_rfl) (by kernel_rfl) (fun _ _ _ h => h) (Or.inl ⟨by rfl, ?_⟩) hHeld ?_
    rotate_left
    · intro W' hSw; (try dsimp only at hSw); go_simp; try (with_reducible rfl)
    (try simp only [Act.put, List.getElem_toArray, List.getElem_cons_zero, List.getElem_cons_succ, List.setIfInBounds_toArray, List.set_cons_zero, List.set_cons_succ])
    refine wpAnyH_ready (rs := [3, 9]) (by kernel_rfl) (by simp) ?_
    refine AllReadyH.cons rfl (fun K hK => ?_) (AllReadyH.cons rfl (fun K hK => ?_) AllReadyH.nil)
    · go_simp
      refine Calls.mono (HM.out _) ?_
      rintro r u1 ⟨rfl, rfl⟩
      refine hK.out _ _ hHeld (fun _ => ?_)
      clear hK
      (try simp only [Act.put, List.getElem_toArray, List.getElem_cons_zero, List.getElem_cons_succ, List.setIfInBounds_toArray, List.set_cons_zero, List.set_cons_succ])
      refine wpAnyH_ready (rs := [5, 9]) (by kernel_rfl) (by simp) ?_
      refine AllReadyH.cons rfl (fun K hK => ?_) (AllReadyH.cons rfl (fun K hK => ?_) AllReadyH.nil)
      · go_simp
        refine Calls.mono (HR.out _ (HSU.out _ (bthen HQ.out.1 (bthen (Below.refl _ w1).drew hub)))) ?_
        rintro r u3 ⟨rfl, hb3⟩
        have hub3 := bthen hub hb3
        clear hb3
        refine hK.out _ _ (HSC.out _ (bthen (Below.refl _ w1).drew hub3)) (fun hHeld3 => ?_)
        clear hK
        (try simp only [Act.put, List.getElem_toArray, List.getElem_cons_zero, List.getElem_cons_succ, List.setIfInBounds_toArray, List.set_cons_zero, List.set_cons_succ])
        refine wpAnyH_take (i := 6) (v := ?_) rfl (by kernel_rfl) (by kernel_rfl) (by kernel_rfl) (fun _ _ _ h => h) (Or.inl ⟨by rfl, ?_⟩) hHeld3 ?_
        rotate_left
        · intro W' hSw; (try dsimp only at hSw); go_simp; try (with_reducible rfl)
        (try simp only [Act.put, List.getElem_toArray, List.getElem_cons_zero, List.getElem_cons_succ, List.setIfInBounds_toArray, List.set_cons_zero, List.set_cons_succ])
        refine wpAnyH_take (i := 7) (v := ?_) rfl (by kernel_rfl) (by kernel_rfl) (by kernel_rfl) (fun _ _ _ h => h) (Or.inl ⟨by rfl, ?_⟩) hHeld3 ?_
        rotate_left
        · intro W' hSw; (try dsimp only at hSw); go_simp; try (with_reducible rfl)
        (try simp only [Act.put, List.getElem_toArray, List.getElem_cons_zero, List.getElem_cons_succ, List.setIfInBounds_toArray, List.set_cons_zero, List.set_cons_succ])
        refine wpAnyH_take (i := 8) (v := ?_) rfl (by kernel_rfl) (by kernel_rfl) (by kernel_rfl) (fun _ _ _ h => h) (Or.inl ⟨by rfl, ?_⟩) hHeld3 ?_
        rotate_left
        · intro W' hSw; (try dsimp only at hSw); go_simp; try (with_reducible rfl)
        (try simp only [Act.put, List.getElem_toArray, List.getElem_cons_zero, List.getElem_cons_succ, List.setIfInBounds_toArray, List.set_cons_zero, List.set_cons_succ])
        refine wpAnyH_ready (rs := [9]) (by kernel_rfl) (by simp) ?_
        refine AllReadyH.cons rfl (fun K hK => ?_) AllReadyH.nil
        go_simp
        have hz3 := heap_alloc_new u3 (.cells #[.bool false, .int .u64 0, .string ⟨#[]⟩, .int .i64 0, .int .i64 0, .int .i64 0] 56)
        have hle3 : w1.heap.size ≤ u3.heap.size := hub3.size
        have hub3 := bthen hub3 (balloc (Below.refl _ _) (.cells #[.bool false, .int .u64 0, .string ⟨#[]⟩, .int .i64 0, .int .i64 0, .int .i64 0] 56))
        refine hK.out _ _ (HSC.out _ (bthen (Below.refl _ w1).drew hub3)) (fun hHeld4 => ?_)
        clear hK
        (try simp only [Act.put, List.getElem_toArray, List.getElem_cons_zero, List.getElem_cons_succ, List.setIfInBounds_toArray, List.set_cons_zero, List.set_cons_succ])
        refine wpAnyH_ready (rs := [10]) (by kernel_rfl) (by simp) ?_
        refine AllReadyH.cons rfl (fun K hK => ?_) AllReadyH.nil
        have hBw := bthen (Below.refl _ w1).drew hub3
        refine step_store_row rfl _ _ _ rfl _ #[.bool false, .int .u64 0, .string ⟨#[]⟩, .int .i64 0, .int .i64 0, .int .i64 0] (by rfl) (by rfl) _ _ hz3 trace_info rfl (by simp [Value.oneCell']) ?_
        refine hK.out _ _ (HSC.out _ (below_setRow hBw hle3)) (fun hHeld5 => ?_)
        clear hK
        (try simp only [Act.put, List.getElem_toArray, List.getElem_cons_zero, List.getElem_cons_succ])
        refine wpAnyH_take (i := 11) (v := ?_) rfl (by kernel_rfl) (by kernel_rfl) (by kernel_rfl) (fun _ _ _ h => h) (Or.inl ⟨by rfl, ?_⟩) hHeld5 ?_
        rotate_left
        · intro W' hSw; (try dsimp only at hSw); go_simp; try (with_reducible rfl)
        (try simp only [Act.put, List.getElem_toArray, List.getElem_cons_zero, List.getElem_cons_succ, List.setIfInBounds_toArray, List.set_cons_zero, List.set_cons_succ])
        refine wpAnyH_done (by kernel_rfl) ?_ _
        go_wp2_with fail
        go_meet
        exact ⟨_, rfl, rfl, setRow_heap _ _ _ _ _ _ hz3, bthen HQ.out.1 (below_setRow hBw hle3)⟩
      · go_simp
        have hz := heap_alloc_new w1.drew (.cells #[.bool false, .int .u64 0, .string ⟨#[]⟩, .int .i64 0, .int .i64 0, .int .i64 0] 56)
        have hub := bthen hub (balloc (Below.refl _ _) (.cells #[.bool false, .int .u64 0, .string ⟨#[]⟩, .int .i64 0, .int .i64 0, .int .i64 0] 56))
        refine hK.out _ _ (HSC.out _ (bthen (Below.refl _ w1).drew hub)) (fun hHeld => ?_)
        clear hK
        (try simp only [Act.put, List.getElem_toArray, List.getElem_cons_zero, List.getElem_cons_succ, List.setIfInBounds_toArray, List.set_cons_zero, List.set_cons_succ])
        refine wpAnyH_ready (rs := [5]) (by kernel_rfl) (by simp) ?_
        refine AllReadyH.cons rfl (fun K hK => ?_) AllReadyH.nil
        go_simp
        refine Calls.mono (HR.out _ (HSU.out _ (bthen HQ.out.1 (bthen (Below.refl _ w1).drew hub)))) ?_
        rintro r u3 ⟨rfl, hb3⟩
        have hub3 := bthen hub hb3
        have hz3 := (hb3.block _ (Array.getElem?_eq_some_iff.1 hz).1).trans hz
        clear hb3
        refine hK.out _ _ (HSC.out _ (bthen (Below.refl _ w1).drew hub3)) (fun hHeld3 => ?_)
        clear hK
        (try simp only [Act.put, List.getElem_toArray, List.getElem_cons_zero, List.getElem_cons_succ, List.setIfInBounds_toArray, List.set_cons_zero, List.set_cons_succ])
        refine wpAnyH_take (i := 6) (v := ?_) rfl (by kernel_rfl) (by kernel_rfl) (by kernel_rfl) (fun _ _ _ h => h) (Or.inl ⟨by rfl, ?_⟩) hHeld3 ?_
        rotate_left
        · intro W' hSw; (try dsimp only at hSw); go_simp; try (with_reducible rfl)
        (try simp only [Act.put, List.getElem_toArray, List.getElem_cons_zero, List.getElem_cons_succ, List.setIfInBounds_toArray, List.set_cons_zero, List.set_cons_succ])
        refine wpAnyH_take (i := 7) (v := ?_) rfl (by kernel_rfl) (by kernel_rfl) (by kernel_rfl) (fun _ _ _ h => h) (Or.inl ⟨by rfl, ?_⟩) hHeld3 ?_
        rotate_left
        · intro W' hSw; (try dsimp only at hSw); go_simp; try (with_reducible rfl)
        (try simp only [Act.put, List.getElem_toArray, List.getElem_cons_zero, List.getElem_cons_succ, List.setIfInBounds_toArray, List.set_cons_zero, List.set_cons_succ])
        refine wpAnyH_take (i := 8) (v := ?_) rfl (by kernel_rfl) (by kernel_rfl) (by kernel_rfl) (fun _ _ _ h => h) (Or.inl ⟨by rfl, ?_⟩) hHeld3 ?_
        rotate_left
        · intro W' hSw; (try dsimp only at hSw); go_simp; try (with_reducible rfl)
        (try simp only [Act.put, List.getElem_toArray, List.getElem_cons_zero, List.getElem_cons_succ, List.setIfInBounds_toArray, List.set_cons_zero, List.set_cons_succ])
        refine wpAnyH_ready (rs := [10]) (by kernel_rfl) (by simp) ?_
        refine AllReadyH.cons rfl (fun K hK => ?_) AllReadyH.nil
        have hBw := bthen (Below.refl _ w1).drew hub3
        refine step_store_row rfl _ _ _ rfl _ #[.bool false, .int .u64 0, .string ⟨#[]⟩, .int .i64 0, .int .i64 0, .int .i64 0] (by rfl) (by rfl) _ _ hz3 trace_info rfl (by simp [Value.oneCell']) ?_
        refine hK.out _ _ (HSC.out _ (below_setRow hBw (Nat.le_refl _))) (fun hHeld5 => ?_)
        clear hK
        (try simp only [Act.put, List.getElem_toArray, List.getElem_cons_zero, List.getElem_cons_succ])
        refine wpAnyH_take (i := 11) (v := ?_) rfl (by kernel_rfl) (by kernel_rfl) (by kernel_rfl) (fun _ _ _ h => h) (Or.inl ⟨by rfl, ?_⟩) hHeld5 ?_
        rotate_left
        · intro W' hSw; (try dsimp only at hSw); go_simp; try (with_reducible rfl)
        (try simp only [Act.put, List.getElem_toArray, List.getElem_cons_zero, List.getElem_cons_succ, List.setIfInBounds_toArray, List.set_cons_zero, List.set_cons_succ])
        refine wpAnyH_done (by kernel_rfl) ?_ _
        go_wp2_with fail
        go_meet
        exact ⟨_, rfl, rfl, setRow_heap _ _ _ _ _ _ hz3, bthen HQ.out.1 (below_setRow hBw (Nat.le_refl _))⟩
    · go_simp
      have hz := heap_alloc_new w1.drew (.cells #[.bool false, .int .u64 0, .string ⟨#[]⟩, .int .i64 0, .int .i64 0, .int .i64 0] 56)
      have hub := bthen hub (balloc (Below.refl _ _) (.cells #[.bool false, .int .u64 0, .string ⟨#[]⟩, .int .i64 0, .int .i64 0, .int .i64 0] 56))
      refine hK.out _ _ (HSC.out _ (bthen (Below.refl _ w1).drew hub)) (fun hHeld => ?_)
      clear hK
      (try simp only [Act.put, List.getElem_toArray, List.getElem_cons_zero, List.getElem_cons_succ, List.setIfInBounds_toArray, List.set_cons_zero, List.set_cons_succ])
      refine wpAnyH_ready (rs := [3]) (by kernel_rfl) (by simp) ?_
      refine AllReadyH.cons rfl (fun K hK => ?_) AllReadyH.nil
      go_simp
      refine Calls.mono (HM.out _) ?_
      rintro r u1 ⟨rfl, rfl⟩
      refine hK.out _ _ hHeld (fun _ => ?_)
      clear hK
      (try simp only [Act.put, List.getElem_toArray, List.getElem_cons_zero, List.getElem_cons_succ, List.setIfInBounds_toArray, List.set_cons_zero, List.set_cons_succ])
      refine wpAnyH_ready (rs := [5]) (by kernel_rfl) (by simp) ?_
      refine AllReadyH.cons rfl (fun K hK => ?_) AllReadyH.nil
      go_simp
      refine Calls.mono (HR.out _ (HSU.out _ (bthen HQ.out.1 (bthen (Below.refl _ w1).drew hub)))) ?_
      rintro r u3 ⟨rfl, hb3⟩
      have hub3 := bthen hub hb3
      have hz3 := (hb3.block _ (Array.getElem?_eq_some_iff.1 hz).1).trans hz
      clear hb3
      refine hK.out _ _ (HSC.out _ (bthen (Below.refl _ w1).drew hub3)) (fun hHeld3 => ?_)
      clear hK
      (try simp only [Act.put, List.getElem_toArray, List.getElem_cons_zero, List.getElem_cons_succ, List.setIfInBounds_toArray, List.set_cons_zero, List.set_cons_succ])
      refine wpAnyH_take (i := 6) (v := ?_) rfl (by kernel_rfl) (by kernel_rfl) (by kernel_rfl) (fun _ _ _ h => h) (Or.inl ⟨by rfl, ?_⟩) hHeld3 ?_
      rotate_left
      · intro W' hSw; (try dsimp only at hSw); go_simp; try (with_reducible rfl)
      (try simp only [Act.put, List.getElem_toArray, List.getElem_cons_zero, List.getElem_cons_succ, List.setIfInBounds_toArray, List.set_cons_zero, List.set_cons_succ])
      refine wpAnyH_take (i := 7) (v := ?_) rfl (by kernel_rfl) (by kernel_rfl) (by kernel_rfl) (fun _ _ _ h => h) (Or.inl ⟨by rfl, ?_⟩) hHeld3 ?_
      rotate_left
      · intro W' hSw; (try dsimp only at hSw); go_simp; try (with_reducible rfl)
      (try simp only [Act.put, List.getElem_toArray, List.getElem_cons_zero, List.getElem_cons_succ, List.setIfInBounds_toArray, List.set_cons_zero, List.set_cons_succ])
      refine wpAnyH_take (i := 8) (v := ?_) rfl (by kernel_rfl) (by kernel_rfl) (by kernel_rfl) (fun _ _ _ h => h) (Or.inl ⟨by rfl, ?_⟩) hHeld3 ?_
      rotate_left
      · intro W' hSw; (try dsimp only at hSw); go_simp; try (with_reducible rfl)
      (try simp only [Act.put, List.getElem_toArray, List.getElem_cons_zero, List.getElem_cons_succ, List.setIfInBounds_toArray, List.set_cons_zero, List.set_cons_succ])
      refine wpAnyH_ready (rs := [10]) (by kernel_rfl) (by simp) ?_
      refine AllReadyH.cons rfl (fun K hK => ?_) AllReadyH.nil
      have hBw := bthen (Below.refl _ w1).drew hub3
      refine step_store_row rfl _ _ _ rfl _ #[.bool false, .int .u64 0, .string ⟨#[]⟩, .int .i64 0, .int .i64 0, .int .i64 0] (by rfl) (by rfl) _ _ hz3 trace_info rfl (by simp [Value.oneCell']) ?_
      refine hK.out _ _ (HSC.out _ (below_setRow hBw (Nat.le_refl _))) (fun hHeld5 => ?_)
      clear hK
      (try simp only [Act.put, List.getElem_toArray, List.getElem_cons_zero, List.getElem_cons_succ])
      refine wpAnyH_take (i := 11) (v := ?_) rfl (by kernel_rfl) (by kernel_rfl) (by kernel_rfl) (fun _ _ _ h => h) (Or.inl ⟨by rfl, ?_⟩) hHeld5 ?_
      rotate_left
      · intro W' hSw; (try dsimp only at hSw); go_simp; try (with_reducible rfl)
      (try simp only [Act.put, List.getElem_toArray, List.getElem_cons_zero, List.getElem_cons_succ, List.setIfInBounds_toArray, List.set_cons_zero, List.set_cons_succ])
      refine wpAnyH_done (by kernel_rfl) ?_ _
      go_wp2_with fail
      go_meet
      exact ⟨_, rfl, rfl, setRow_heap _ _ _ _ _ _ hz3, bthen HQ.out.1 (below_setRow hBw (Nat.le_refl _))⟩
  case rest =>
    obtain ⟨B, rfl, rfl, hB, hb⟩ := hcut
    have c0 := Lib.cell_of_heap hB 0
    have c1 := Lib.cell_of_heap hB 1
    have c2 := Lib.cell_of_heap hB 2
    have c3 := Lib.cell_of_heap hB 3
    have c4 := Lib.cell_of_heap hB 4
    have c5 := Lib.cell_of_heap hB 5
    simp only [List.getElem?_toArray, List.getElem?_cons_zero, List.getElem?_cons_succ] at c0 c1 c2 c3 c4 c5
    have HBL := Lib.hid hb
    clear hB hb
    have d1 : (x != 0) = true := by simpa using h.1
    have d2 : (x != 12) = true := by simpa using h.2.1
    have d3 : (x != 13) = true := by simpa using h.2.2
    go_wp2_with fail
    go_ret
    exact ⟨rfl, HBL.out⟩
theorem check_codes (m : Md) : checkE m = 0 ∨ checkE m = 1 ∨ checkE m = 4 ∨ checkE m = 8 ∨ checkE m = 9 ∨ checkE m = 10 := by
  unfold checkE foundE
  (repeat' split) <;> simp
theorem whole_codes (m : Md) : wholeE m ≠ 12 ∧ wholeE m ≠ 13 := by
  have hc := check_codes m
  unfold wholeE
  split
  · (repeat' split) <;> decide
  · omega
theorem most_le (n : Int) : mostE n ≤ n := by
  unfold mostE
  split <;> omega
theorem str_size (l : List Int) : (strOfNums l).size = l.length := by simp [strOfNums, ByteArray.size]
theorem counts_all (m : Md) (inp : ByteArray) (fuel deep : Int) (F G : Option Addr) (nf cf ng cg : Nat) (w : World) (hok : MdOk m) (hr : MdR m) (hin : inp.size < 9223372036854775808) (hnf : m.f.length = nf) (hng : m.g.length = ng) (hS : MdAt w (.slice F nf cf) (.slice G ng cg) m) :
    Calls Try.prog 11 #[.agg #[.slice F nf cf, .slice G ng cg, .string inp, .int .i64 fuel, .int .i64 deep]] w fun e w' => e = .returned (.bool true) ∧ Below w.heap.size w w' := by
  obtain ⟨k, hk⟩ : ∃ k, mostE fuel = k := ⟨_, rfl⟩
  have hkf := most_le fuel
  rw [hk] at hkf
  have hR := fun (W : World) (hS : MdAt W (.slice F nf cf) (.slice G ng cg) m) => run_any m inp k deep F G nf cf ng cg W hok hr hin hnf hng hS
  by_cases hbad : k < 0 ∨ 100000 < k ∨ deep < 1 ∨ 64 < deep
  · rw [show trE m inp k deep = (⟨false, 0, 0, 0, 0, [], fun _ => 0, []⟩, 1) by unfold trE; rw [if_pos hbad]] at hR
    exact counts_bad m inp fuel deep k F G nf cf ng cg w hS 1 (by decide) hk hR
  by_cases hw : wholeE m = 0
  · rw [show trE m inp k deep = runE m inp deep.toNat k.toNat (s1E m (blksOf m mainN)) by unfold trE; rw [if_neg hbad, if_pos hw]] at hR
    have hc := run_cnt (m := m) (inp := inp) (dp := deep.toNat) k.toNat (s1E m (blksOf m mainN)) ⟨Nat.zero_le _, Nat.le_refl _, by simp only [s1E]; omega, Nat.le_refl _⟩ (by simp only [s1E, List.length_singleton]; omega) (.inr ⟨by simp [s1E], rfl, rfl⟩)
    obtain ⟨⟨T, e⟩, hT⟩ : ∃ x, runE m inp deep.toNat k.toNat (s1E m (blksOf m mainN)) = x := ⟨_, rfl⟩
    rw [hT] at hc hR
    obtain ⟨⟨c1, c2, c3, c4⟩, c5, c6⟩ := hc
    simp only [s1E] at c1 c2 c3 c4 c5 c6
    have hh : T.read ≤ inp.size ∧ (T.steps : Int) ≤ fuel ∧ 1 ≤ T.deep ∧ (T.deep : Int) ≤ deep ∧ (strOfNums T.out).size ≤ T.steps := ⟨c1, by omega, c2, by omega, by rw [str_size]; exact c4⟩
    unfold trV trC at hR
    simp only at hR
    rcases c6 with ⟨rfl, he⟩ | ⟨rfl | rfl, he, ho⟩
    · rw [he] at hR
      exact counts_ok m inp fuel deep k F G nf cf ng cg w hS T.co _ _ _ _ hh hk hR
    · rw [he, ho] at hR
      exact counts_fuel m inp fuel deep k F G nf cf ng cg w hS _ _ _ _ hh hk hR
    · rw [he, ho] at hR
      exact counts_deep m inp fuel deep k F G nf cf ng cg w hS _ _ _ _ hh hk hR
  · rw [show trE m inp k deep = (⟨false, 0, 0, 0, 0, [], fun _ => 0, []⟩, wholeE m) by unfold trE; rw [if_neg hbad, if_neg hw]] at hR
    exact counts_bad m inp fuel deep k F G nf cf ng cg w hS (wholeE m) ⟨hw, whole_codes m⟩ hk hR
end Go.Proofs.Ytdjmiaphodfdeaa
